/-
  Contract of IsToken of the document's answers.
-/
import Derived.Test.YtdldoklkenhopaaGreatDoorFiRef
namespace Go.Proofs.YtdldoklkenhopaaGreatDoor.Fi
open Go.RowKit Go.PlainAid
open Hx
set_option linter.unusedVariables false
set_option maxRecDepth 20000
set_option linter.unusedSimpArgs false

def marksL : List Int := [33, 35, 36, 37, 38, 39, 42, 43, 45, 46, 94, 95, 96, 124, 126]
def baseN (c : Int) : Bool := decide (97 ≤ c ∧ c ≤ 122) || decide (65 ≤ c ∧ c ≤ 90) || decide (48 ≤ c ∧ c ≤ 57)
/-- as far as k of the marks go -/
def okN (c : Int) (k : Nat) : Bool := baseN c || (marksL.take k).contains c
theorem okN_end (c : Int) : okN c 15 = tokN c := rfl
def marksB : ByteArray := ⟨#[33, 35, 36, 37, 38, 39, 42, 43, 45, 46, 94, 95, 96, 124, 126]⟩
theorem marks_at : ∀ k : Fin 15, marksL.take (k.val + 1) = marksL.take k.val ++ [((marksB[k.val]'(by have := k.isLt; exact this)).toNat : Int)] := by decide
theorem okN_yes {c : Int} {k : Nat} (h : okN c k = true) : okN c (k + 1) = true := by
  unfold okN at h ⊢
  rw [Bool.or_eq_true] at h ⊢
  rcases h with h | h
  · exact .inl h
  · right
    rw [List.contains_iff_mem] at h ⊢
    exact List.take_subset_take_left _ (Nat.le_succ k) h
theorem okN_no {c : Int} {k : Nat} (hk : k < 15) (h : okN c k = false) : okN c (k + 1) = (((marksB[k]'hk).toNat : Int) == c) := by
  unfold okN at h ⊢
  rw [Bool.or_eq_false_iff] at h
  rw [h.1, Bool.false_or, marks_at ⟨k, hk⟩]
  have h2 : c ∉ marksL.take k := by rw [← List.contains_iff_mem, h.2]; simp
  rw [Bool.eq_iff_iff, List.contains_iff_mem, List.mem_append, beq_iff_eq]
  simp [h2, eq_comm]
theorem base_yes {c : Int} (h : (97 ≤ c ∧ c ≤ 122) ∨ (65 ≤ c ∧ c ≤ 90) ∨ (48 ≤ c ∧ c ≤ 57)) : okN c 0 = true := by
  unfold okN baseN
  rcases h with h | h | h
  · rw [decide_eq_true h]; rfl
  · rw [decide_eq_true h, Bool.or_true]; rfl
  · rw [decide_eq_true h, Bool.or_true]; rfl
theorem base_no {c : Int} (h1 : ¬ (97 ≤ c ∧ c ≤ 122)) (h2 : ¬ (65 ≤ c ∧ c ≤ 90)) (h3 : ¬ (48 ≤ c ∧ c ≤ 57)) : okN c 0 = false := by
  unfold okN baseN
  rw [decide_eq_false h1, decide_eq_false h2, decide_eq_false h3]; rfl
theorem seven (c : Int) : (c < 48) ∨ (48 ≤ c ∧ c ≤ 57) ∨ (57 < c ∧ c < 65) ∨ (65 ≤ c ∧ c ≤ 90) ∨ (90 < c ∧ c < 97) ∨ (97 ≤ c ∧ c ≤ 122) ∨ 122 < c := by omega
end Go.Proofs.YtdldoklkenhopaaGreatDoor.Fi
