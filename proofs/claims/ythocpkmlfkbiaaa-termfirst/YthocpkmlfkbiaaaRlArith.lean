/-
  Rounding, as far as it is asked for: whole numbers are numbers of the format, and 0 only of 0; a quotient by a whole number that isn't 0 is valid.
-/
import Derived.Test.YthocpkmlfkbiaaaRlRow
namespace Go.Proofs.Ythocpkmlfkbiaaa.Rl
open Go.RowKit
set_option linter.unusedVariables false

theorem cut_zero (neg : Bool) (n : Nat) : Ieee.Toward.even.cut neg n 0 = n := by
  unfold Ieee.Toward.cut
  simp
  omega
theorem cut_bounds (neg : Bool) (n drop : Nat) (h : drop ≤ n.log2 + 2) : n / 2 ^ drop ≤ Ieee.Toward.even.cut neg n drop ∧ Ieee.Toward.even.cut neg n drop ≤ n / 2 ^ drop + 1 := by
  unfold Ieee.Toward.cut
  rw [Nat.min_eq_left h, Nat.one_shiftLeft]
  dsimp only
  have : ∀ b : Bool, b.toNat ≤ 1 := by decide
  exact ⟨Nat.le_add_right _ _, Nat.add_le_add_left (this _) _⟩

/-- the rung to which a number rounds where the format has all its digits -/
theorem nearest_normal (neg : Bool) (mag : Nat) (place : Int) (hm : mag ≠ 0) (h : -1074 ≤ place + mag.log2 - 52) :
    ∃ kept : Nat, Ieee.double.nearest neg mag place = Ieee.double.word neg (min ((place + mag.log2 - 52 + 1074).toNat * 4503599627370496 + kept) 9218868437227405312) ∧ 4503599627370496 ≤ kept ∧ kept ≤ 9007199254740992 := by
  have e2 : Ieee.double.binade = 4503599627370496 := by decide
  have e3 : Ieee.double.infRung = 9218868437227405312 := by decide
  have e4 : Ieee.double.leastPlace = -1074 := by decide
  have e5 : Ieee.double.fractionBits = 52 := by decide
  unfold Ieee.Format.nearest
  rw [if_neg hm, e2, e3, e4, e5]
  dsimp only
  have el : max (place + (mag.log2 : Int) - ((52 : Nat) : Int)) (-1074) = place + mag.log2 - 52 := by omega
  rw [el, show place + (mag.log2 : Int) - 52 - -1074 = place + mag.log2 - 52 + 1074 by omega]
  refine ⟨_, rfl, ?_⟩
  have lo := Nat.log2_self_le hm
  have hi : mag < 2 ^ (mag.log2 + 1) := Nat.lt_log2_self
  by_cases c : mag.log2 ≤ 52
  · have a : (place - (place + (mag.log2 : Int) - 52)).toNat = 52 - mag.log2 := by omega
    have b : (place + (mag.log2 : Int) - 52 - place).toNat = 0 := by omega
    rw [a, b, cut_zero, Nat.shiftLeft_eq]
    have p1 : 2 ^ mag.log2 * 2 ^ (52 - mag.log2) = 4503599627370496 := by rw [← Nat.pow_add, show mag.log2 + (52 - mag.log2) = 52 by omega]
    have p2 : 2 ^ (mag.log2 + 1) * 2 ^ (52 - mag.log2) = 9007199254740992 := by rw [← Nat.pow_add, show mag.log2 + 1 + (52 - mag.log2) = 53 by omega]
    constructor
    · rw [← p1]; exact Nat.mul_le_mul_right _ lo
    · rw [← p2]; exact Nat.mul_le_mul_right _ (Nat.le_of_lt hi)
  · have a : (place - (place + (mag.log2 : Int) - 52)).toNat = 0 := by omega
    have b : (place + (mag.log2 : Int) - 52 - place).toNat = mag.log2 - 52 := by omega
    rw [a, b, Nat.shiftLeft_zero]
    have cb := cut_bounds neg mag (mag.log2 - 52) (by omega)
    have p1 : 4503599627370496 * 2 ^ (mag.log2 - 52) = 2 ^ mag.log2 := by
      rw [show (4503599627370496 : Nat) = 2 ^ 52 by decide, ← Nat.pow_add]; congr 1; omega
    have p2 : 9007199254740992 * 2 ^ (mag.log2 - 52) = 2 ^ (mag.log2 + 1) := by
      rw [show (9007199254740992 : Nat) = 2 ^ 53 by decide, ← Nat.pow_add]; congr 1; omega
    have q1 : 4503599627370496 ≤ mag / 2 ^ (mag.log2 - 52) := by rw [Nat.le_div_iff_mul_le (Nat.two_pow_pos _), p1]; exact lo
    have q2 : mag / 2 ^ (mag.log2 - 52) < 9007199254740992 := by rw [Nat.div_lt_iff_lt_mul (Nat.two_pow_pos _), p2]; exact hi
    omega
theorem nearest_sub (neg : Bool) (mag : Nat) (place : Int) (hm : mag ≠ 0) (hp : -1074 ≤ place) (h : place + mag.log2 - 52 < -1074) :
    Ieee.double.nearest neg mag place = Ieee.double.word neg (mag * 2 ^ (place + 1074).toNat) ∧ mag * 2 ^ (place + 1074).toNat < 9007199254740992 := by
  have e2 : Ieee.double.binade = 4503599627370496 := by decide
  have e3 : Ieee.double.infRung = 9218868437227405312 := by decide
  have e4 : Ieee.double.leastPlace = -1074 := by decide
  have e5 : Ieee.double.fractionBits = 52 := by decide
  have hi : mag < 2 ^ (mag.log2 + 1) := Nat.lt_log2_self
  have u : mag * 2 ^ (place + 1074).toNat < 9007199254740992 := by
    have p : 2 ^ (mag.log2 + 1) * 2 ^ (place + 1074).toNat ≤ 2 ^ 53 := by
      rw [← Nat.pow_add]; exact Nat.pow_le_pow_right (by decide) (by omega)
    have := Nat.mul_lt_mul_of_pos_right hi (Nat.two_pow_pos (place + 1074).toNat)
    omega
  refine ⟨?_, u⟩
  unfold Ieee.Format.nearest
  rw [if_neg hm, e2, e3, e4, e5]
  dsimp only
  have el : max (place + (mag.log2 : Int) - ((52 : Nat) : Int)) (-1074) = -1074 := by omega
  rw [el, show (-1074 - place).toNat = 0 by omega, cut_zero, Nat.shiftLeft_eq, show (place - -1074).toNat = (place + 1074).toNat by omega]
  congr 1
  rw [show ((-1074 : Int) - -1074).toNat = 0 by decide, Nat.min_eq_left (by omega)]
  omega

theorem word_lt' (neg : Bool) (r : Nat) (h : r < 9223372036854775808) : Ieee.double.word neg r < 18446744073709551616 := by
  have e1 : Ieee.double.signWeight = 9223372036854775808 := by decide
  unfold Ieee.Format.word; rw [e1]; split <;> omega
theorem rg_word (neg : Bool) (r : Nat) (h : r < 9223372036854775808) : rg (Ieee.double.word neg r) = r := by
  have e1 : Ieee.double.signWeight = 9223372036854775808 := by decide
  unfold Ieee.Format.word rg; rw [e1]; split <;> omega
theorem ng_word (neg : Bool) (r : Nat) (h : r < 9223372036854775808) : ng (Ieee.double.word neg r) = neg := by
  have e1 : Ieee.double.signWeight = 9223372036854775808 := by decide
  unfold Ieee.Format.word ng; rw [e1]; cases neg <;> simp <;> omega

theorem ofInt_lt (n : Int) : floatOfInt .f64 n < 18446744073709551616 := by
  have := floatOfInt_wf .f64 n
  simp only [Lit.wf, decide_eq_true_eq] at this
  exact this
theorem ofInt_num (n : Int) (h1 : -9223372036854775808 ≤ n) (h2 : n ≤ 9223372036854775807) : rg (floatOfInt .f64 n) < 9218868437227405312 ∧ (n ≠ 0 → rg (floatOfInt .f64 n) ≠ 0) := by
  show rg (Ieee.double.nearest (decide (n < 0)) n.natAbs 0) < _ ∧ (n ≠ 0 → rg (Ieee.double.nearest (decide (n < 0)) n.natAbs 0) ≠ 0)
  by_cases c : n = 0
  · subst c; exact ⟨by decide, fun h => absurd rfl h⟩
  · have hm : n.natAbs ≠ 0 := by omega
    have k : n.natAbs.log2 < 64 := by rw [Nat.log2_lt hm]; omega
    obtain ⟨kept, e, l, u⟩ := nearest_normal (decide (n < 0)) n.natAbs 0 hm (by omega)
    rw [e, rg_word _ _ (by omega)]
    omega

theorem div_some (x y : Nat) (hx : x < 18446744073709551616) (hy : y < 18446744073709551616) (a : rg x < 9218868437227405312) (b : rg y < 9218868437227405312) (c : rg y ≠ 0) :
    ∃ r, Ieee.double.div x y = some r ∧ r < 18446744073709551616 := by
  obtain ⟨m, e, h1, v1⟩ := read_num x hx a
  obtain ⟨n, f, h2, v2⟩ := read_num y hy b
  have n0 : n ≠ 0 := by
    intro h
    rw [h, Nat.zero_mul] at v2
    exact c (val_inj.1 (by rw [← v2, val_zero]))
  have : ∃ r, Ieee.double.div x y = some r := by
    unfold Ieee.Format.div
    rw [h1, h2]
    unfold Ieee.Datum.quotient
    simp only [if_neg n0]
    exact ⟨_, rfl⟩
  obtain ⟨r, hr⟩ := this
  exact ⟨r, hr, Ieee.Format.div_lt Ieee.double hr⟩
/-- the quotient of two whole numbers -/
def quo (a b : Int) : Nat := (Ieee.double.div (floatOfInt .f64 a) (floatOfInt .f64 b)).getD 0
theorem quo_some (a b : Int) (a1 : -9223372036854775808 ≤ a) (a2 : a ≤ 9223372036854775807) (b1 : -9223372036854775808 ≤ b) (b2 : b ≤ 9223372036854775807) (h : b ≠ 0) :
    floatBits .quo .f64 (floatOfInt .f64 a) (floatOfInt .f64 b) = some (quo a b) ∧ quo a b < 18446744073709551616 := by
  obtain ⟨r, e, l⟩ := div_some _ _ (ofInt_lt a) (ofInt_lt b) (ofInt_num a a1 a2).1 (ofInt_num b b1 b2).1 ((ofInt_num b b1 b2).2 h)
  have : quo a b = r := by unfold quo; rw [e]; rfl
  rw [this]
  exact ⟨e, l⟩
/-- what Ratio answers -/
def rat (a b : Int) : Nat := if b ≠ 0 then cl (quo a b) else if a = 0 then 9221120237041090560 else if 0 ≤ a then 9218868437227405312 else 18442240474082181120
theorem cl_lt (x : Nat) (hx : x < 18446744073709551616) : cl x < 18446744073709551616 := by unfold cl; (repeat' split) <;> omega
theorem rat_lt (a b : Int) (a1 : -9223372036854775808 ≤ a) (a2 : a ≤ 9223372036854775807) (b1 : -9223372036854775808 ≤ b) (b2 : b ≤ 9223372036854775807) : rat a b < 18446744073709551616 := by
  unfold rat
  split
  · next h => exact cl_lt _ (quo_some a b a1 a2 b1 b2 h).2
  · (repeat' split) <;> omega

attribute [irreducible] quo rat
theorem ratio_any (a b : Int) (w : World) (a1 : -9223372036854775808 ≤ a) (a2 : a ≤ 9223372036854775807) (b1 : -9223372036854775808 ≤ b) (b2 : b ≤ 9223372036854775807) :
    Calls Try.prog 23 #[.int .i64 a, .int .i64 b] w fun e w' => e = .returned (.float .f64 (rat a b)) ∧ w = w' := by
  unfold rat
  by_cases h : b = 0
  · rw [if_neg (by simp [h])]
    subst h
    by_cases h0 : a = 0
    · subst h0
      go_enter Try.func23, Try.ntmps23
      go_wp2_with fail
      refine (nan_any w).mono ?_
      rintro e w' ⟨rfl, rfl⟩
      go_wp2
      all_goals go_ret
      all_goals exact ⟨rfl, rfl⟩
    · rw [if_neg h0]
      have i := inf_any a w
      generalize (if 0 ≤ a then 9218868437227405312 else 18442240474082181120 : Nat) = z at *
      go_enter Try.func23, Try.ntmps23
      go_wp2_with fail
      refine i.mono ?_
      rintro e w' ⟨rfl, rfl⟩
      go_wp2
      all_goals go_ret
      all_goals exact ⟨rfl, rfl⟩
  · rw [if_pos h]
    obtain ⟨q1, q2⟩ := quo_some a b a1 a2 b1 b2 h
    have hq : ∀ t w, (binOp .quo t (.float .f64 (floatOfInt .f64 a)) (.float .f64 (floatOfInt .f64 b))).run Try.prog w = .ok (.float .f64 (quo a b)) w := fun t w => run_float_arith w .quo t .f64 _ _ _ q1
    go_enter Try.func23, Try.ntmps23
    go_wp2_with (simp only [hq])
    refine (clean_any _ w q2).mono ?_
    rintro e w' ⟨rfl, rfl⟩
    go_wp2
    all_goals go_ret
    all_goals exact ⟨rfl, rfl⟩
theorem refratio_any (a b : Int) (w : World) (a1 : -9223372036854775808 ≤ a) (a2 : a ≤ 9223372036854775807) (b1 : -9223372036854775808 ≤ b) (b2 : b ≤ 9223372036854775807) :
    Calls Try.prog 33 #[.int .i64 a, .int .i64 b] w fun e w' => e = .returned (.float .f64 (rat a b)) ∧ w = w' := by
  unfold rat
  have r2 := run_from
  by_cases h : b = 0
  · rw [if_neg (by simp [h])]
    subst h
    by_cases h0 : a = 0
    · subst h0
      go_enter Try.func33, Try.ntmps33
      go_wp2_with fail
      refine (refnan_any w).mono ?_
      rintro e w' ⟨rfl, rfl⟩
      go_wp2
      all_goals go_ret
      all_goals exact ⟨rfl, rfl⟩
    · rw [if_neg h0]
      by_cases c : 0 ≤ a
      · rw [if_pos c]
        have c' : ¬ a < 0 := by omega
        go_enter Try.func33, Try.ntmps33
        go_wp2
        all_goals go_ret
        all_goals exact ⟨rfl, rfl⟩
      · rw [if_neg c]
        have c' : a < 0 := by omega
        go_enter Try.func33, Try.ntmps33
        go_wp2
        all_goals go_ret
        all_goals exact ⟨rfl, rfl⟩
  · rw [if_pos h]
    obtain ⟨q1, q2⟩ := quo_some a b a1 a2 b1 b2 h
    have hq : ∀ t w, (binOp .quo t (.float .f64 (floatOfInt .f64 a)) (.float .f64 (floatOfInt .f64 b))).run Try.prog w = .ok (.float .f64 (quo a b)) w := fun t w => run_float_arith w .quo t .f64 _ _ _ q1
    go_enter Try.func33, Try.ntmps33
    go_wp2_with (simp only [hq])
    refine (refclean_any _ w q2).mono ?_
    rintro e w' ⟨rfl, rfl⟩
    go_wp2
    all_goals go_ret
    all_goals exact ⟨rfl, rfl⟩
end Go.Proofs.Ythocpkmlfkbiaaa.Rl
