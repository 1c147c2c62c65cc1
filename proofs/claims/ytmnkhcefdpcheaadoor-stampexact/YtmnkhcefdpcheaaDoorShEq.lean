/-
  The document's digest and the program's are one function of the bytes.
-/
import Derived.Test.YtmnkhcefdpcheaaDoorShRefO
namespace Go.Proofs.YtmnkhcefdpcheaaDoor.Sh
open Go.RowKit
set_option linter.unusedVariables false
set_option linter.unusedSimpArgs false

theorem size_take {b : List Nat} (m : Nat) (hb : b.length = 64) : ∀ k, k ≤ 8 → sizeTo b m k = b.take (64 - k) ++ (sizeB m).drop (8 - k)
  | 0, _ => by
    rw [sizeTo_zero, List.take_of_length_le (by omega), List.drop_of_length_le (by rw [sizeB_len]; decide), List.append_nil]
  | k + 1, h => by
    rw [sizeTo_succ, size_take m hb k (by omega)]
    have e1 : (b.take (64 - k)).length = 64 - k := by rw [List.length_take]; omega
    rw [List.set_append_left _ _ (by omega)]
    have e2 : (b.take (64 - k)).set (63 - k) (m / 256 ^ k % 256) = b.take (63 - k) ++ [m / 256 ^ k % 256] := by
      rw [show 64 - k = 63 - k + 1 by omega, List.take_succ_eq_append_getElem (by omega), List.set_append_right _ _ (by simp; omega)]
      simp [show min (63 - k) b.length = 63 - k by omega]
    rw [e2, show 64 - (k + 1) = 63 - k by omega, List.append_assoc]
    congr 1
    have e3 : (sizeB m).drop (8 - (k + 1)) = (m / 256 ^ k % 256) :: (sizeB m).drop (8 - k) := by
      rw [List.drop_eq_getElem_cons (by rw [sizeB_len]; omega), show 8 - (k + 1) + 1 = 8 - k by omega]
      congr 1
      simp only [sizeB, List.getElem_map, List.getElem_range]
      rw [show 8 * (7 - (8 - (k + 1))) = 8 * k by omega, Nat.pow_mul]
    rw [e3]; rfl
theorem size_all {b : List Nat} (m : Nat) (hb : b.length = 64) : sizeTo b m 8 = b.take 56 ++ sizeB m := by
  have := size_take m hb 8 (Nat.le_refl _)
  simpa using this
theorem ref_eq (l : List Nat) : digTo (hs (padL l) ((padL l).length / 64)) 8 = shaD l := by
  unfold shaD
  congr 1
  have hu : l.length % 64 < 64 := Nat.mod_lt _ (by decide)
  have ht := tailB_take l
  have hd : (l.drop (64 * (l.length / 64))).length = l.length % 64 := by simp; omega
  have hp1 : pad1 (tailB l) (l.length % 64) = l.drop (64 * (l.length / 64)) ++ 128 :: List.replicate (63 - l.length % 64) 0 := by
    rw [pad1_take (by rw [tailB_len]; exact hu), ht]
  have hp : padL l = l ++ (128 :: List.replicate (padZ l.length) 0 ++ sizeB (8 * l.length)) := by
    unfold padL padF; rw [List.append_assoc]
  have hlen : (padL l).length = l.length + 1 + padZ l.length + 8 := by unfold padL; rw [List.length_append, padF_len, sizeB_len]
  have hdrop : (padL l).drop (64 * (l.length / 64)) = l.drop (64 * (l.length / 64)) ++ (128 :: List.replicate (padZ l.length) 0 ++ sizeB (8 * l.length)) := by
    rw [hp, List.drop_append_of_le_length (by omega)]
  have hq : hs (padL l) (l.length / 64) = hs l (l.length / 64) := by rw [hp]; exact hs_append l _ _ (by omega)
  by_cases c : 56 ≤ l.length % 64
  · rw [end_high c, hp1, size_all _ (by simp)]
    have z : padZ l.length = 119 - l.length % 64 := by unfold padZ; omega
    rw [hlen, z, show (l.length + 1 + (119 - l.length % 64) + 8) / 64 = l.length / 64 + 1 + 1 by omega, hs_succ, hs_succ, hq]
    congr 1
    · congr 1
      rw [hdrop, z, show 119 - l.length % 64 = (63 - l.length % 64) + 56 by omega, ← List.replicate_append_replicate, ← List.cons_append, List.append_assoc, ← List.append_assoc, List.take_append_of_le_length (by simp; omega), List.take_of_length_le (by simp; omega)]
    · rw [show 64 * (l.length / 64 + 1) = 64 * (l.length / 64) + 64 by omega, ← List.drop_drop, hdrop, z, show 119 - l.length % 64 = (63 - l.length % 64) + 56 by omega, ← List.replicate_append_replicate, ← List.cons_append, List.append_assoc, ← List.append_assoc, List.drop_append, List.drop_of_length_le (by simp; omega)]
      have e0 : (l.drop (64 * (l.length / 64)) ++ 128 :: List.replicate (63 - l.length % 64) 0).length = 64 := by simp; omega
      rw [e0, Nat.sub_self, List.drop_zero, List.nil_append, List.take_of_length_le (by simp [sizeB_len])]
      simp
  · rw [end_low c, hp1, size_all _ (by simp; omega)]
    have z : padZ l.length = 55 - l.length % 64 := by unfold padZ; omega
    rw [hlen, z, show (l.length + 1 + (55 - l.length % 64) + 8) / 64 = l.length / 64 + 1 by omega, hs_succ, hq]
    congr 1
    rw [hdrop, z, List.take_of_length_le (by simp [sizeB_len]; omega), show 63 - l.length % 64 = (55 - l.length % 64) + 8 by omega, ← List.replicate_append_replicate, ← List.cons_append, ← List.append_assoc, ← List.append_assoc, List.take_append_of_le_length (by simp; omega), List.take_of_length_le (by simp; omega)]
end Go.Proofs.YtmnkhcefdpcheaaDoor.Sh
