/-
  Contracts of the library's HasPrefix and CutPrefix (both texts of at most 2^40 bytes): what stands behind a beginning.
-/
import Derived.Test.YtmnkhcefdpcheaaDoorHxBack
import Derived.Test.YtmnkhcefdpcheaaDoorShNone
import Derived.Deep.DeepCutAuto
namespace Go.Proofs.YtmnkhcefdpcheaaDoor.St
open Go.RowKit Go.PlainAid
set_option linter.unusedVariables false

/-- whether s begins with p -/
def pre (s p : ByteArray) : Bool := decide (p.size ≤ s.size) && ((s.extract 0 p.size).toList == p.toList)
/-- what stands behind it, or all -/
def cut (s p : ByteArray) : ByteArray := if pre s p = true then s.extract p.size s.size else s

theorem has_any (s p : ByteArray) (w : World) (hs : s.size ≤ 1099511627776) (hp : p.size ≤ 1099511627776) :
    Calls Tryd.prog 40 #[.string s, .string p] w fun e w' => e = .returned (.bool (pre s p)) ∧ w = w' := by
  by_cases h : p.size ≤ s.size
  · have h1 : (p.size : Int) ≤ (s.size : Int) := by omega
    have e : pre s p = ((s.extract 0 p.size).toList == p.toList) := by unfold pre; simp [h]
    rw [e]
    clear e
    go_enter Tryd.func40, Tryd.ntmps40
    go_wp2
    go_ret
    exact ⟨rfl, rfl⟩
  · have h1 : ¬ (p.size : Int) ≤ (s.size : Int) := by omega
    have e : pre s p = false := by unfold pre; simp [h]
    rw [e]
    clear e
    go_enter Tryd.func40, Tryd.ntmps40
    go_wp2
    go_ret
    exact ⟨rfl, rfl⟩
theorem pre_le {s p : ByteArray} (h : pre s p = true) : p.size ≤ s.size := by
  unfold pre at h
  simp at h
  exact h.1
theorem lite_any (s p : ByteArray) (w : World) (hs : s.size ≤ 1099511627776) (hp : p.size ≤ 1099511627776) :
    Calls Tryd.prog 34 #[.string s, .string p] w fun e w' => e = .returned (.tuple #[.string (cut s p), .bool (pre s p)]) ∧ w = w' := by
  cases c : pre s p with
  | true =>
    have h1 : (p.size : Int) ≤ (s.size : Int) := by have := pre_le c; omega
    have e : cut s p = s.extract p.size s.size := by unfold cut; rw [if_pos c]
    rw [e]
    clear e
    have C := Lib.hid c
    clear c
    go_enter Tryd.func34, Tryd.ntmps34
    go_wp2_with fail
    refine (has_any s p w hs hp).mono ?_
    rintro e w' ⟨rfl, rfl⟩
    rw [C.out]
    go_wp2
    go_ret2
    exact ⟨rfl, rfl⟩
  | false =>
    have e : cut s p = s := by unfold cut; rw [if_neg (by simp [c])]
    rw [e]
    clear e
    have C := Lib.hid c
    clear c
    go_enter Tryd.func34, Tryd.ntmps34
    go_wp2_with fail
    refine (has_any s p w hs hp).mono ?_
    rintro e w' ⟨rfl, rfl⟩
    rw [C.out]
    go_wp2
    go_ret2
    exact ⟨rfl, rfl⟩
theorem cut_any (s p : ByteArray) (w : World) (hs : s.size ≤ 1099511627776) (hp : p.size ≤ 1099511627776) :
    Calls Tryd.prog 24 #[.string s, .string p] w fun e w' => e = .returned (.tuple #[.string (cut s p), .bool (pre s p)]) ∧ w = w' := by
  go_enter Tryd.func24, Tryd.ntmps24
  go_wp2_with fail
  refine (lite_any s p w hs hp).mono ?_
  rintro e w' ⟨rfl, rfl⟩
  go_wp2
  go_ret2
  exact ⟨rfl, rfl⟩
end Go.Proofs.YtmnkhcefdpcheaaDoor.St
