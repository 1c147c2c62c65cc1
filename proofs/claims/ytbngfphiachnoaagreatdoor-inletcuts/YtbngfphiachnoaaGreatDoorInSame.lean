/-
  Contract of Same of the document's answers, at requests that are the same.
-/
import Derived.Test.YtbngfphiachnoaaGreatDoorInStep2
import Derived.Test.YtbngfphiachnoaaGreatDoorFiSame
namespace Go.Proofs.YtbngfphiachnoaaGreatDoor.In
open Go.RowKit Go.PlainAid
open Hx Fi Ch
set_option linter.unusedVariables false
set_option maxRecDepth 20000
set_option linter.unusedSimpArgs false

theorem bool_self (b : Bool) : (b == b) = true := by cases b <;> rfl
set_option maxHeartbeats 1000000 in
theorem same_any {w : World} (q : Rq) {f1 f2 : Value} (h1 : FdsAt w f1 q.fs) (h2 : FdsAt w f2 q.fs) (hl : q.fs.length ≤ 1099511627776) :
    Calls Tryz.prog 13 #[.agg (rqV q f1), .agg (rqV q f2)] w fun e w' => e = .returned (.bool true) ∧ Below w.heap.size w w' := by
  have A1 := At.new w 30 (rqV q f1)
  have F1 : Below w.heap.size w (w.alloc (.cells (rqV q f1) 30)) := (Below.refl _ _).alloc (Nat.le_refl _) _
  have A2 := At.new (w.alloc (.cells (rqV q f1) 30)) 30 (rqV q f2)
  have A1' := A1.alloc (.cells (rqV q f2) 30)
  have F2 := F1.alloc F1.size (.cells (rqV q f2) 30)
  have sm := fun (u : World) (hb : Below w.heap.size w u) => sameR_any (h1.below hb) (h2.below hb) hl hl
  rw [sameB_yes rfl] at sm
  have SM := Lib.hid sm
  clear sm A1 F1
  have a0 := A1'.cell 0
  have a1 := A1'.cell 1
  have a2 := A1'.cell 2
  have a3 := A1'.cell 3
  have b0 := A2.cell 0
  have b1 := A2.cell 1
  have b2 := A2.cell 2
  have b3 := A2.cell 3
  obtain ⟨o1, k1, rfl, _, _⟩ := h1.is
  obtain ⟨o2, k2, rfl, _, _⟩ := h2.is
  obtain ⟨m, t, fs, cl⟩ := q
  simp only [rqV] at *
  clear h1 h2 A1' A2
  generalize tx m = M at *
  generalize tx t = TT at *
  have gm : (M.toList == M.toList) = true := by simp
  have gt : (TT.toList == TT.toList) = true := by simp
  have gc := bool_self cl
  have e : (w.alloc (.cells #[.string M, .string TT, .slice o1 fs.length k1, .bool cl] 30)).heap.size = w.heap.size + 1 := by simp
  rw [e] at b0 b1 b2 b3
  clear e
  go_enter Tryz.func13, Tryz.ntmps13
  go_upto_region 1 with (fail)
  generalize (w.alloc (.cells #[.string M, .string TT, .slice o1 fs.length k1, .bool cl] 30)).alloc (.cells #[.string M, .string TT, .slice o2 fs.length k2, .bool cl] 30) = w2 at *
  replace a0 : w2.cell? ⟨w.heap.size, 0, none⟩ = some (.string M) := a0
  replace a1 : w2.cell? ⟨w.heap.size, 1, none⟩ = some (.string TT) := a1
  replace a2 : w2.cell? ⟨w.heap.size, 2, none⟩ = some (.slice o1 fs.length k1) := a2
  replace a3 : w2.cell? ⟨w.heap.size, 3, none⟩ = some (.bool cl) := a3
  replace b0 : w2.cell? ⟨w.heap.size + 1, 0, none⟩ = some (.string M) := b0
  replace b1 : w2.cell? ⟨w.heap.size + 1, 1, none⟩ = some (.string TT) := b1
  replace b2 : w2.cell? ⟨w.heap.size + 1, 2, none⟩ = some (.slice o2 fs.length k2) := b2
  replace b3 : w2.cell? ⟨w.heap.size + 1, 3, none⟩ = some (.bool cl) := b3
  have S2 := SM.out w2 F2
  clear SM
  go_wp2_with fail
  refine S2.mono ?_
  rintro e w3 ⟨rfl, F3⟩
  clear S2
  have FE := F2.trans (F3.mono F2.size)
  go_wp2
  go_ret
  exact ⟨rfl, FE⟩
end Go.Proofs.YtbngfphiachnoaaGreatDoor.In
