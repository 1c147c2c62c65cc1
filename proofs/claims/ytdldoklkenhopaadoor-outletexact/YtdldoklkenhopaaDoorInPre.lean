/-
  Contracts of the library's HasPrefix and CutPrefix (both texts of at most 2^40 bytes): what stands behind a beginning.
-/
import Derived.Test.YtdldoklkenhopaaDoorInMath
import Derived.Test.YtdldoklkenhopaaDoorFiSplit2
import Derived.Deep.DeepCutAuto
namespace Go.Proofs.YtdldoklkenhopaaDoor.In
open Go.RowKit Go.PlainAid
open Hx Fi Ch
set_option linter.unusedSimpArgs false
set_option linter.unusedVariables false
set_option maxRecDepth 20000

/-- whether s begins with p -/
def pre (s p : ByteArray) : Bool := decide (p.size ≤ s.size) && ((s.extract 0 p.size).toList == p.toList)
/-- what stands behind it, or all -/
def cut (s p : ByteArray) : ByteArray := if pre s p = true then s.extract p.size s.size else s

theorem has_any (s p : ByteArray) (w : World) (hs : s.size ≤ 1099511627776) (hp : p.size ≤ 1099511627776) :
    Calls Tryd.prog 63 #[.string s, .string p] w fun e w' => e = .returned (.bool (pre s p)) ∧ w = w' := by
  by_cases h : p.size ≤ s.size
  · have h1 : (p.size : Int) ≤ (s.size : Int) := by omega
    have e : pre s p = ((s.extract 0 p.size).toList == p.toList) := by unfold pre; simp [h]
    rw [e]
    clear e
    go_enter Tryd.func63, Tryd.ntmps63
    go_wp2
    go_ret
    exact ⟨rfl, rfl⟩
  · have h1 : ¬ (p.size : Int) ≤ (s.size : Int) := by omega
    have e : pre s p = false := by unfold pre; simp [h]
    rw [e]
    clear e
    go_enter Tryd.func63, Tryd.ntmps63
    go_wp2
    go_ret
    exact ⟨rfl, rfl⟩
theorem pre_le {s p : ByteArray} (h : pre s p = true) : p.size ≤ s.size := by
  unfold pre at h
  simp at h
  exact h.1
theorem lite_any (s p : ByteArray) (w : World) (hs : s.size ≤ 1099511627776) (hp : p.size ≤ 1099511627776) :
    Calls Tryd.prog 53 #[.string s, .string p] w fun e w' => e = .returned (.tuple #[.string (cut s p), .bool (pre s p)]) ∧ w = w' := by
  cases c : pre s p with
  | true =>
    have h1 : (p.size : Int) ≤ (s.size : Int) := by have := pre_le c; omega
    have e : cut s p = s.extract p.size s.size := by unfold cut; rw [if_pos c]
    rw [e]
    clear e
    have C := Lib.hid c
    clear c
    go_enter Tryd.func53, Tryd.ntmps53
    go_wp2_with fail
    refine (has_any s p w hs hp).mono ?_
    rintro e w' ⟨rfl, rfl⟩
    rw [C.out]
    go_wp2
    go_ret2
    exact ⟨rfl, rfl⟩
  | false =>
    have e : cut s p = s := by unfold cut; rw [if_neg (by simp [c])]
    rw [e]
    clear e
    have C := Lib.hid c
    clear c
    go_enter Tryd.func53, Tryd.ntmps53
    go_wp2_with fail
    refine (has_any s p w hs hp).mono ?_
    rintro e w' ⟨rfl, rfl⟩
    rw [C.out]
    go_wp2
    go_ret2
    exact ⟨rfl, rfl⟩
theorem cut_any (s p : ByteArray) (w : World) (hs : s.size ≤ 1099511627776) (hp : p.size ≤ 1099511627776) :
    Calls Tryd.prog 42 #[.string s, .string p] w fun e w' => e = .returned (.tuple #[.string (cut s p), .bool (pre s p)]) ∧ w = w' := by
  go_enter Tryd.func42, Tryd.ntmps42
  go_wp2_with fail
  refine (lite_any s p w hs hp).mono ?_
  rintro e w' ⟨rfl, rfl⟩
  go_wp2
  go_ret2
  exact ⟨rfl, rfl⟩


/-! ### the two digits of a version -/
def pHT : ByteArray := ⟨#[72, 84, 84, 80, 47]⟩
theorem pre_ht (s : ByteArray) : pre s pHT = true ↔ (ls s).take 5 = [72, 84, 84, 80, 47] := by
  unfold pre
  have e : pHT.size = 5 := rfl
  have e2 : pHT.toList = [72, 84, 84, 80, 47] := by rw [ls_toList]; rfl
  rw [e, e2]
  simp only [Bool.and_eq_true, decide_eq_true_eq, beq_iff_eq, ls_toList, ls_extract, List.drop_zero, Nat.sub_zero]
  constructor
  · exact fun h => h.2
  · intro h
    refine ⟨?_, h⟩
    have := congrArg List.length h
    rw [List.length_take, ls_len] at this
    simp at this
    omega
/-- of what stands behind HTTP/ -/
def vrF (d : List UInt8) : Option (UInt8 × UInt8) :=
  if d.length = 3 ∧ (48 ≤ d.getD 0 0 ∧ d.getD 0 0 ≤ 57) ∧ d.getD 1 0 = 46 ∧ 48 ≤ d.getD 2 0 ∧ d.getD 2 0 ≤ 57 then some (d.getD 0 0, d.getD 2 0) else none
theorem verF_pre {l : List UInt8} (h : l.take 5 = [72, 84, 84, 80, 47]) : verF l = vrF (l.drop 5) := by
  obtain ⟨d, rfl⟩ : ∃ d, l = [72, 84, 84, 80, 47] ++ d := ⟨l.drop 5, by rw [← h, List.take_append_drop]⟩
  have e : ([72, 84, 84, 80, 47] ++ d).drop 5 = d := by simp
  rw [e]
  unfold verF vrF
  simp only [List.length_append, List.length_cons, List.length_nil, List.cons_append, List.nil_append, List.getD_cons_succ, h]
  by_cases c : d.length = 3
  · have c2 : 0 + 1 + 1 + 1 + 1 + 1 + d.length = 8 := by omega
    simp only [c, c2, true_and]
    congr 1
    exact propext ⟨fun ⟨_, a, b, x⟩ => ⟨b, a, x⟩, fun ⟨a, b, x⟩ => ⟨by simp, b, a, x⟩⟩
  · rw [if_neg (fun x => c (by omega)), if_neg (fun x => c x.1)]
theorem verF_not {l : List UInt8} (h : ¬ l.take 5 = [72, 84, 84, 80, 47]) : verF l = none := by
  unfold verF
  rw [if_neg fun x => h x.2.1]
end Go.Proofs.YtdldoklkenhopaaDoor.In
