/-
  An argument of two numbers, opened.
-/
import Derived.Test.YtdimjeajgmlfkaaDoorFiOpen
namespace Go.Proofs.YtdimjeajgmlfkaaDoor.Fi
open Go.RowKit Go.PlainAid Go.ChangeShapes Go.ChangeAt Go.WideShapes Go.WideMaps
open Hx
set_option linter.unusedVariables false
set_option maxRecDepth 20000
set_option linter.unusedSimpArgs false

theorem two_cells {H : Type} {enc : TypeId × Value → H} {w : World} {base : Nat} {spare : Nat → Bool} {held : Bool} {fuel : Nat} {x : DataW H × List MemPlace} {c0 c1 : Value} (h : DataW.trod enc Tryd.prog w base spare held fuel 41 [c0, c1] = some x) :
    ∃ a b : Int, c0 = .int .i64 a ∧ c1 = .int .i64 b ∧ (Lit.int .i64 a).wf = true ∧ (Lit.int .i64 b).wf = true := by
  have hce : Tryd.prog.cellsOf 3 = 1 := by kernel_rfl
  have ht : Tryd.prog.underlying 41 = some (.array 2 3) := by kernel_rfl
  have hi : Tryd.prog.underlying 3 = some (.int .i64) := by kernel_rfl
  cases fuel with
  | zero => simp [DataW.trod] at h
  | succ n =>
    unfold DataW.trod at h
    rw [ht] at h
    have r2 : List.range 2 = [0, 1] := rfl
    simp [r2, hce] at h
    obtain ⟨_, h⟩ := h
    cases h0 : DataW.trod enc Tryd.prog w base spare held n 3 [c0] with
    | none => simp [h0] at h
    | some y0 =>
      cases h1 : DataW.trod enc Tryd.prog w base spare held n 3 [c1] with
      | none => simp [h0, h1] at h
      | some y1 =>
        obtain ⟨a, e0, _, w0⟩ := DataW.trod_int hi h0
        obtain ⟨b, e1, _, w1⟩ := DataW.trod_int hi h1
        simp at e0 e1
        exact ⟨a, b, e0, e1, w0, w1⟩
theorem open_two {H : Type} {enc : TypeId × Value → H} {W : World} {base : Nat} {v : Value} {dd : DataW H} {ps : List MemPlace} (hval : Value.okWide Tryd.prog W .any base 41 v) (h : DataW.Trod enc Tryd.prog W 0 (fun _ => true) true 41 v dd ps) :
    ∃ y : Int × Int, v = .agg #[.int .i64 y.1, .int .i64 y.2] ∧ ((Lit.int .i64 y.1).wf = true ∧ (Lit.int .i64 y.2).wf = true) := by
  have ht : Tryd.prog.underlying 41 = some (.array 2 3) := by kernel_rfl
  have hc2 : Tryd.prog.cellsOf 41 = 2 := by kernel_rfl
  simp only [Value.okWide, ht] at hval
  obtain ⟨cs, rfl, hcs, _⟩ := hval
  rw [hc2] at hcs
  obtain ⟨fuel, hf⟩ := h
  have hf' : DataW.trod enc Tryd.prog W 0 (fun _ => true) true fuel 41 cs.toList = some (dd, ps) := hf
  match hq : cs.toList, hf' with
  | [c0, c1], hf' =>
    obtain ⟨a, b, e0, e1, w0, w1⟩ := two_cells hf'
    refine ⟨(a, b), ?_, w0, w1⟩
    have : cs = #[c0, c1] := by rw [← Array.toArray_toList (xs := cs), hq]
    rw [this, e0, e1]
  | [], _ => have := congrArg List.length hq; rw [Array.length_toList, hcs] at this; simp at this
  | [_], _ => have := congrArg List.length hq; rw [Array.length_toList, hcs] at this; simp at this
  | _ :: _ :: _ :: _, _ => have := congrArg List.length hq; rw [Array.length_toList, hcs] at this; simp at this
end Go.Proofs.YtdimjeajgmlfkaaDoor.Fi
