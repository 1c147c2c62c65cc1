/-
  A head has at most 32 fields. No program is spoken of.
-/
import Derived.Test.YtdldoklkenhopaaDoorSet1
namespace Go.Proofs.YtdldoklkenhopaaDoor.Fi
open Go.RowKit Go.PlainAid
open Hx
set_option linter.unusedVariables false
set_option maxRecDepth 20000

theorem fldF_32 (full : Bool) : ∀ (k : Nat) (l : List UInt8), l.length ≤ k → ∀ (at_ : Nat) (acc : List Fd), acc.length ≤ 32 → (fldF full l at_ acc).list.length ≤ 32 := by
  intro k
  induction k with
  | zero =>
    intro l hl at_ acc h
    have : l = [] := List.eq_nil_of_length_eq_zero (by omega)
    subst this
    rw [fldF_err at_ acc lineF_nil]; simp
  | succ k ih =>
    intro l hl at_ acc h
    cases hq : lineF full l with
    | error e => rw [fldF_err at_ acc hq]; simp
    | ok p =>
      obtain ⟨x, r⟩ := p
      have hlen := lineF_len hq
      by_cases hx : x = []
      · subst hx; rw [fldF_end at_ acc hq]; exact h
      · cases hp : parseF x with
        | none => rw [fldF_form at_ acc hq hx hp]; simp
        | some f =>
          by_cases hc : acc.length = 32
          · rw [fldF_long at_ acc hq hx hp hc]; simp
          · rw [fldF_step at_ acc hq hx hp hc]
            exact ih r (by omega) _ _ (by rw [List.length_append]; simp; omega)
theorem spl_32 (s : List UInt8) : (spl s).list.length ≤ 32 := by
  unfold spl
  cases lineF (decide (4096 ≤ s.length)) (s.take 4096) with
  | error e => simp
  | ok p =>
    obtain ⟨x, r⟩ := p
    simp only
    by_cases hx : x = []
    · rw [if_pos hx]; simp
    · rw [if_neg hx]
      by_cases hc : 1024 < x.length
      · rw [if_pos hc]; simp
      · rw [if_neg hc]
        exact fldF_32 _ _ r (Nat.le_refl _) _ _ (by simp)
end Go.Proofs.YtdldoklkenhopaaDoor.Fi
