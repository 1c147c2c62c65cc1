/-
  A mean that takes nothing of what comes stays: the steps of Mix at the weight 0, in plain terms, for numbers up to 2^1000.
-/
import Derived.Test.YtmfhokbognlhbaaRlMix
namespace Go.Proofs.Ytmfhokbognlhbaa.Rl
open Go.RowKit
set_option linter.unusedVariables false

theorem cut_exact (neg : Bool) (q drop : Nat) (h : drop ≤ (q * 2 ^ drop).log2 + 2) : Ieee.Toward.even.cut neg (q * 2 ^ drop) drop = q := by
  unfold Ieee.Toward.cut
  rw [Nat.min_eq_left h, Nat.one_shiftLeft]
  dsimp only
  have p : 0 < 2 ^ drop := Nat.two_pow_pos _
  rw [Nat.mul_div_cancel _ p, Nat.mul_mod_left]
  have e : (decide (2 ^ drop < 2 * 0) || (2 ^ drop == 2 * 0) && q % 2 == 1) = false := by
    rw [decide_eq_false (by omega), beq_eq_false_iff_ne.2 (by omega)]; rfl
  rw [e]; rfl
theorem val_pos {r : Nat} (h : r ≠ 0) : val r ≠ 0 := by
  intro e
  exact h (val_inj.1 (by rw [e, val_zero]))
theorem nearest_val (s : Bool) (r : Nat) (h0 : r ≠ 0) (h : r < 9218868437227405312) : Ieee.double.nearest s (val r) (-1074) = Ieee.double.word s r := by
  have e2 : Ieee.double.binade = 4503599627370496 := by decide
  have e3 : Ieee.double.infRung = 9218868437227405312 := by decide
  have e4 : Ieee.double.leastPlace = -1074 := by decide
  have e5 : Ieee.double.fractionBits = 52 := by decide
  unfold Ieee.Format.nearest
  rw [if_neg (val_pos h0), e2, e3, e4, e5]
  dsimp only
  by_cases c : r < 4503599627370496
  · have l : (val r).log2 < 52 := by rw [Nat.log2_lt (val_pos h0), val_small c]; omega
    rw [show max ((-1074 : Int) + ((val r).log2 : Int) - ((52 : Nat) : Int)) (-1074) = -1074 by omega]
    rw [show ((-1074 : Int) - -1074).toNat = 0 by decide, cut_zero, Nat.shiftLeft_zero, val_small c, Nat.min_eq_left (by omega), show 0 * 4503599627370496 + r = r by omega]
  · have ev := val_big (show 4503599627370496 ≤ r by omega)
    have hq : 1 ≤ r / 4503599627370496 := by omega
    have hm : r % 4503599627370496 < 4503599627370496 := Nat.mod_lt _ (by decide)
    generalize hQ : r / 4503599627370496 - 1 = j at ev
    generalize hR : r % 4503599627370496 = m at ev hm
    have l : (val r).log2 = 52 + j := by
      rw [Nat.log2_eq_iff (val_pos h0), ev, Nat.pow_add, show 52 + j + 1 = 53 + j by omega, Nat.pow_add]
      constructor
      · exact Nat.mul_le_mul_right _ (by omega)
      · exact Nat.mul_lt_mul_of_pos_right (by omega) (Nat.two_pow_pos _)
    rw [l]
    rw [show max ((-1074 : Int) + ((52 + j : Nat) : Int) - ((52 : Nat) : Int)) (-1074) = -1074 + (j : Int) by omega]
    rw [show ((-1074 : Int) - (-1074 + (j : Int))).toNat = 0 by omega, show ((-1074 + (j : Int)) - -1074).toNat = j by omega, Nat.shiftLeft_zero]
    have hl : j ≤ ((4503599627370496 + m) * 2 ^ j).log2 + 2 := by rw [← ev, l]; omega
    rw [ev, cut_exact s _ j hl, show j * 4503599627370496 + (4503599627370496 + m) = r by omega, Nat.min_eq_left (by omega)]
theorem word_self (x : Nat) (hx : x < 18446744073709551616) : Ieee.double.word (ng x) (rg x) = x := by
  have e1 : Ieee.double.signWeight = 9223372036854775808 := by decide
  unfold Ieee.Format.word ng rg; rw [e1]
  by_cases h : 9223372036854775808 ≤ x
  · rw [decide_eq_true h, if_pos rfl]; omega
  · rw [decide_eq_false h, if_neg (by decide)]; omega

/-- a difference of numbers up to 2^1000 has an end -/
theorem near_fin (s : Bool) (t : Nat) (c : Nat) (K : Nat) (hK : K = 2075) (h : t * 2 ^ c ≤ 2 ^ K) : ∃ r, Ieee.double.nearest s t (-1074 + (c : Int)) = Ieee.double.word s r ∧ r < 9218868437227405312 := by
  by_cases t0 : t = 0
  · refine ⟨0, ?_, by decide⟩
    unfold Ieee.Format.nearest; rw [if_pos t0]
  · have l : t.log2 + c ≤ K := by
      have := Nat.log2_self_le t0
      have h2 : 2 ^ (t.log2 + c) ≤ 2 ^ K := by rw [Nat.pow_add]; exact Nat.le_trans (Nat.mul_le_mul_right _ this) h
      exact (Nat.pow_le_pow_iff_right (by decide)).1 h2
    by_cases b : -1074 ≤ -1074 + (c : Int) + t.log2 - 52
    · obtain ⟨kept, e, k1, k2⟩ := nearest_normal s t (-1074 + (c : Int)) t0 b
      refine ⟨_, e, ?_⟩
      have : (-1074 + (c : Int) + (t.log2 : Int) - 52 + 1074).toNat ≤ 2023 := by omega
      have : (-1074 + (c : Int) + (t.log2 : Int) - 52 + 1074).toNat * 4503599627370496 ≤ 2023 * 4503599627370496 := Nat.mul_le_mul_right _ this
      omega
    · obtain ⟨e, u⟩ := nearest_sub s t (-1074 + (c : Int)) t0 (by omega) (by omega)
      exact ⟨_, e, by omega⟩
theorem val_great (K : Nat) (hK : K = 2074) : val 9110782046170513408 = 2 ^ K := by
  rw [val_big (by decide)]
  have e1 : 9110782046170513408 % 4503599627370496 = 0 := by decide
  obtain ⟨J, hJ⟩ : ∃ J, J = 2022 := ⟨_, rfl⟩
  have e2 : 9110782046170513408 / 4503599627370496 - 1 = J := by rw [hJ]
  rw [e1, e2, show (4503599627370496 + 0 : Nat) = 2 ^ 52 by decide, ← Nat.pow_add]
  congr 1; omega
theorem val_le_great {r K : Nat} (hK : K = 2074) (h : r ≤ 9110782046170513408) : val r ≤ 2 ^ K := by
  rw [← val_great K hK]
  rcases Nat.lt_or_eq_of_le h with a | a
  · exact Nat.le_of_lt (val_lt a)
  · rw [a]; exact Nat.le_refl _
theorem sv_abs (s : Bool) (v : Nat) : (sv s v).natAbs = v := by unfold sv; cases s <;> simp
theorem sub_fin (x y : Nat) (hx : x < 18446744073709551616) (hy : y < 18446744073709551616) (a : rg x ≤ 9110782046170513408) (b : rg y ≤ 9110782046170513408) :
    ∃ d, floatBits .sub .f64 x y = some d ∧ d < 18446744073709551616 ∧ rg d < 9218868437227405312 := by
  obtain ⟨m, e, h1, v1⟩ := read_num x hx (by omega)
  obtain ⟨n, f, h2, v2⟩ := read_num y hy (by omega)
  have key : ∃ (s : Bool) (t : Nat), floatBits .sub .f64 x y = some (Ieee.double.nearest s t (-1074 + ((min e f : Nat) : Int))) ∧ t * 2 ^ (min e f) ≤ val (rg x) + val (rg y) := by
    have c : min (-1074 + (e : Int)) (-1074 + (f : Int)) = -1074 + ((min e f : Nat) : Int) := by omega
    refine ⟨(if sv (ng x) (m * 2 ^ (e - min e f)) + sv (!ng y) (n * 2 ^ (f - min e f)) = 0 then ng x && !ng y else decide (sv (ng x) (m * 2 ^ (e - min e f)) + sv (!ng y) (n * 2 ^ (f - min e f)) < 0)), (sv (ng x) (m * 2 ^ (e - min e f)) + sv (!ng y) (n * 2 ^ (f - min e f))).natAbs, ?_, ?_⟩
    · show ((Ieee.double.read x).sum (Ieee.double.read y).opposite).map Ieee.double.write = _
      rw [h1, h2]
      unfold Ieee.Datum.opposite Ieee.Datum.sum
      simp only [signed_sv]
      rw [c, show (-1074 + (e : Int) - (-1074 + ((min e f : Nat) : Int))).toNat = e - min e f by omega, show (-1074 + (f : Int) - (-1074 + ((min e f : Nat) : Int))).toNat = f - min e f by omega]
      rfl
    · have t1 := Int.natAbs_add_le (sv (ng x) (m * 2 ^ (e - min e f))) (sv (!ng y) (n * 2 ^ (f - min e f)))
      rw [sv_abs, sv_abs] at t1
      have t2 := Nat.mul_le_mul_right (2 ^ min e f) t1
      rw [Nat.add_mul, Nat.mul_assoc, Nat.mul_assoc, ← Nat.pow_add, ← Nat.pow_add, Nat.sub_add_cancel (Nat.min_le_left e f), Nat.sub_add_cancel (Nat.min_le_right e f), v1, v2] at t2
      exact t2
  obtain ⟨s, t, k1, k2⟩ := key
  obtain ⟨K, hK⟩ : ∃ K, K = 2074 := ⟨_, rfl⟩
  have u1 := val_le_great hK a
  have u2 := val_le_great hK b
  have u3 : t * 2 ^ min e f ≤ 2 ^ (K + 1) := by rw [Nat.pow_succ]; omega
  obtain ⟨r, w1, w2⟩ := near_fin s t (min e f) (K + 1) (by omega) u3
  rw [w1] at k1
  exact ⟨_, k1, word_lt' s r (by omega), by rw [rg_word s r (by omega)]; exact w2⟩
theorem mul_zero (d : Nat) (hd : d < 18446744073709551616) (h : rg d < 9218868437227405312) : ∃ p, floatBits .mul .f64 0 d = some p ∧ p < 18446744073709551616 ∧ rg p = 0 := by
  obtain ⟨m, e, h1, v1⟩ := read_num d hd h
  have h0 : Ieee.double.read 0 = .number false 0 (-1074) := by decide
  refine ⟨Ieee.double.word (false ^^ ng d) 0, ?_, word_lt' _ 0 (by decide), rg_word _ 0 (by decide)⟩
  show ((Ieee.double.read 0).product (Ieee.double.read d)).map Ieee.double.write = _
  rw [h0, h1]
  unfold Ieee.Datum.product
  simp only [Nat.zero_mul, Option.map_some]
  unfold Ieee.Format.write Ieee.Format.nearest
  simp only [if_true]
theorem cl_zero (x : Nat) (hx : x < 18446744073709551616) (h : rg x = 0) : cl x = 0 := by
  have b := cls_of _ (place_range x hx)
  have : place x = -1 ∨ place x = 0 := by unfold place; rw [h]; (repeat' split) <;> omega
  unfold cl; rw [if_neg (by omega), if_pos (by omega)]
theorem add_zero (x p : Nat) (hx : x < 18446744073709551616) (hp : p < 18446744073709551616) (h : rg x < 9218868437227405312) (h0 : rg p = 0) : ∃ r, floatBits .add .f64 x p = some r ∧ cl r = cl x := by
  obtain ⟨m, e, h1, v1⟩ := read_num x hx h
  have h2 : Ieee.double.read p = .number (ng p) 0 (-1074) := by rw [read_any p hp, h0, if_pos (by decide)]
  have z : sv (ng p) (0 * 2 ^ 0) = 0 := by unfold sv; cases ng p <;> simp
  have key : floatBits .add .f64 x p = some (Ieee.double.nearest (if sv (ng x) (val (rg x)) = 0 then ng x && ng p else decide (sv (ng x) (val (rg x)) < 0)) (val (rg x)) (-1074)) := by
    show ((Ieee.double.read x).sum (Ieee.double.read p)).map Ieee.double.write = _
    rw [h1, h2]
    unfold Ieee.Datum.sum
    simp only [signed_sv]
    rw [show min (-1074 + (e : Int)) (-1074) = -1074 by omega, show (-1074 + (e : Int) - -1074).toNat = e by omega, show ((-1074 : Int) - -1074).toNat = 0 by decide, z, v1, Int.add_zero, sv_abs]
    rfl
  by_cases c : rg x = 0
  · rw [c, val_zero] at key
    refine ⟨_, key, ?_⟩
    unfold Ieee.Format.nearest
    rw [if_pos rfl, cl_zero x hx c, cl_zero _ (word_lt' _ 0 (by decide)) (rg_word _ 0 (by decide))]
  · have vp := val_pos c
    have s1 : sv (ng x) (val (rg x)) ≠ 0 := by unfold sv; cases ng x <;> simp <;> omega
    have s2 : decide (sv (ng x) (val (rg x)) < 0) = ng x := by unfold sv; cases ng x <;> simp <;> omega
    rw [if_neg s1, s2, nearest_val _ _ c h, word_self x hx] at key
    exact ⟨x, key, rfl⟩
theorem mixv_zero (lo hi : Nat) (hl : lo < 18446744073709551616) (hh : hi < 18446744073709551616) (a : rg lo ≤ 9110782046170513408) (b : rg hi ≤ 9110782046170513408) : mixv lo hi 0 = cl lo := by
  obtain ⟨d, d1, d2, d3⟩ := sub_fin hi lo hh hl b a
  obtain ⟨p, p1, p2, p3⟩ := mul_zero d d2 d3
  obtain ⟨r, r1, r2⟩ := add_zero lo p hl p2 (by omega) p3
  unfold mixv
  rw [d1]
  dsimp only
  rw [p1]
  dsimp only
  rw [r1]
  exact r2
end Go.Proofs.Ytmfhokbognlhbaa.Rl
