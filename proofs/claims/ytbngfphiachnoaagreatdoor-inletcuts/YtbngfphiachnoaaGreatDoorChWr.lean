/-
  Contract of Write of package chunk.
-/
import Derived.Test.YtbngfphiachnoaaGreatDoorChBld
namespace Go.Proofs.YtbngfphiachnoaaGreatDoor.Ch
open Go.RowKit Go.PlainAid
open Hx Fi
set_option linter.unusedVariables false
set_option maxRecDepth 20000
set_option linter.unusedSimpArgs false

theorem wrt_len (b : Nat) : ∀ (k : Nat) (s : List UInt8), s.length ≤ k → (s.length : Int) ≤ 4611686018427387904 → (wrt b s).length ≤ 21 * s.length + 5
  | 0, s, hs, _ => by
    have : s = [] := List.eq_nil_of_length_eq_zero (by omega)
    subst this
    rw [wrt_nil]; simp
  | k + 1, s, hs, hz => by
    by_cases h : s = []
    · subst h; rw [wrt_nil]; simp
    · have h0 : 0 < s.length := List.length_pos_iff.2 h
      have ih := wrt_len b k (s.drop (b + 1)) (by rw [List.length_drop]; omega) (by rw [List.length_drop]; omega)
      have hd : (digL 14 (min (b + 1) s.length)).length ≤ 16 := digL_len 14 15 _ (by
        have : (14 + 2) ^ (15 + 1) = 18446744073709551616 := by decide
        omega)
      rw [wrt_more b h]
      simp only [List.length_append, List.length_take, List.length_drop, List.length_cons, List.length_nil] at ih ⊢
      omega
end Go.Proofs.YtbngfphiachnoaaGreatDoor.Ch
