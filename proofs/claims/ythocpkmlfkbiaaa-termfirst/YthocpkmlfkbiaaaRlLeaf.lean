/-
  Contracts of the library's IsNaN, Abs, IsInf, Signbit, Inf and of real.Class, mancipleref05.Class: what each answers for every number, all bits.
-/
import Derived.Test.YthocpkmlfkbiaaaRlMath
namespace Go.Proofs.Ythocpkmlfkbiaaa.Rl
open Go.RowKit
set_option linter.unusedVariables false

theorem run_bits (x : Nat) (w : World) : (callFunc 28 #[.float .f64 x]).run Try.prog w = .ok (.value (.int .u64 (x : Int))) w := by
  rw [run_callFunc_extern (e := Extern.MathFloatBits.float64bits) Try.func28 (by kernel_rfl) (by kernel_rfl) (by kernel_rfl) (by kernel_rfl)]
  rfl
theorem run_from (n : Int) (w : World) : (callFunc 42 #[.int .u64 n]).run Try.prog w = .ok (.value (.float .f64 n.toNat)) w := by
  rw [run_callFunc_extern (e := Extern.MathFloatBits.float64frombits) Try.func42 (by kernel_rfl) (by kernel_rfl) (by kernel_rfl) (by kernel_rfl)]
  rfl

def isN (x : Nat) : Bool := decide (place x = -9223372036854775808)
theorem ord_nan (x : Nat) (hx : x < 18446744073709551616) : (FloatKind.f64.format.order x x != some .eq) = isN x := by
  unfold isN bne
  rw [ord_eq x x hx hx]
  by_cases h : place x = -9223372036854775808 <;> simp [h]

theorem isNaN_any (x : Nat) (w : World) (hx : x < 18446744073709551616) :
    Calls Try.prog 37 #[.float .f64 x] w fun e w' => e = .returned (.bool (isN x)) ∧ w = w' := by
  have h := ord_nan x hx
  go_enter Try.func37, Try.ntmps37
  go_wp2
  all_goals go_ret
  all_goals exact ⟨rfl, rfl⟩

theorem rg_lt (x : Nat) : rg x < 9223372036854775808 := Nat.mod_lt _ (by decide)
theorem abs_bits (x : Nat) (hx : x < 18446744073709551616) : bits .andNot .u64 (x : Int) 9223372036854775808 = (rg x : Int) := by
  rw [u64_andNot _ _ (by omega) (by omega) (by omega) (by omega)]
  have e : ((x : Int).toNat &&& (18446744073709551615 - (9223372036854775808 : Int).toNat)) = rg x := by
    show x &&& 9223372036854775807 = x % 9223372036854775808
    exact Nat.and_two_pow_sub_one_eq_mod x 63
  rw [e]
theorem abs_any (x : Nat) (w : World) (hx : x < 18446744073709551616) :
    Calls Try.prog 41 #[.float .f64 x] w fun e w' => e = .returned (.float .f64 (rg x)) ∧ w = w' := by
  have h := abs_bits x hx
  have r1 := run_bits
  have r2 := run_from
  go_enter Try.func41, Try.ntmps41
  go_wp2
  all_goals go_ret
  all_goals exact ⟨rfl, rfl⟩

/-- the number with the other sign -/
def op (x : Nat) : Nat := if x < 9223372036854775808 then x + 9223372036854775808 else x - 9223372036854775808
theorem op_lt (x : Nat) (hx : x < 18446744073709551616) : op x < 18446744073709551616 := by unfold op; split <;> omega
theorem neg_bits (x : Nat) (hx : x < 18446744073709551616) : Op.negFloat .f64 x = op x := by
  show x ^^^ 2 ^ 63 = op x
  apply Nat.eq_of_testBit_eq
  intro j
  have r := Nat.mod_lt x (show 0 < 2 ^ 63 by decide)
  have key : ∀ a : Nat, (2 ^ 63 * a + x % 2 ^ 63).testBit j = if j < 63 then (x % 2 ^ 63).testBit j else a.testBit (j - 63) := fun a => Nat.testBit_two_pow_mul_add a r j
  rw [Nat.testBit_xor, Nat.testBit_two_pow]
  by_cases h : x < 9223372036854775808
  · have e1 : x = 2 ^ 63 * 0 + x % 2 ^ 63 := by omega
    have e2 : op x = 2 ^ 63 * 1 + x % 2 ^ 63 := by unfold op; rw [if_pos h]; omega
    rw [e2, key 1]
    have k0 := key 0
    rw [← e1] at k0
    rw [k0]
    by_cases hj : j < 63
    · rw [if_pos hj, if_pos hj, decide_eq_false (by omega), Bool.xor_false]
    · rw [if_neg hj, if_neg hj]
      by_cases e : 63 = j
      · subst e; decide
      · rw [decide_eq_false e, Bool.xor_false, Nat.zero_testBit, show (1 : Nat) = 2 ^ 0 from rfl, Nat.testBit_two_pow, decide_eq_false (by omega)]
  · have e1 : x = 2 ^ 63 * 1 + x % 2 ^ 63 := by omega
    have e2 : op x = 2 ^ 63 * 0 + x % 2 ^ 63 := by unfold op; rw [if_neg h]; omega
    rw [e2, key 0]
    have k0 := key 1
    rw [← e1] at k0
    rw [k0]
    by_cases hj : j < 63
    · rw [if_pos hj, if_pos hj, decide_eq_false (by omega), Bool.xor_false]
    · rw [if_neg hj, if_neg hj]
      by_cases e : 63 = j
      · subst e; decide
      · rw [decide_eq_false e, Bool.xor_false, Nat.zero_testBit, show (1 : Nat) = 2 ^ 0 from rfl, Nat.testBit_two_pow, decide_eq_false (by omega)]

theorem kp_place_max : kp (place 9218868437227405311) = 9218868437227405311 := by decide
theorem gt_max (y : Nat) (hy : y < 18446744073709551616) : (FloatKind.f64.format.order y 9218868437227405311 == some .gt) = decide (place y = 9218868437227405312) := by
  rw [ord_gt y _ hy (by decide), kp_place_max]
  have h := place_range y hy
  have h2 : place 9218868437227405311 ≠ -9223372036854775808 := by decide
  unfold kp
  by_cases e : place y = 9218868437227405312
  · rw [e]; decide
  · rw [decide_eq_false e, decide_eq_false]
    split <;> omega

theorem place_op (x : Nat) (hx : x < 18446744073709551616) : (place (op x) = 9218868437227405312) = (place x = -9218868437227405313) := by
  have h : rg (op x) = rg x := by unfold rg op; split <;> omega
  have r := rg_lt x
  unfold place
  rw [h]
  apply propext
  unfold op
  (repeat' split) <;> omega
theorem place_rg (x : Nat) (hx : x < 18446744073709551616) : (place (rg x) = 9218868437227405312) = (place x = -9218868437227405313 ∨ place x = 9218868437227405312) := by
  have h : rg (rg x) = rg x := by unfold rg; omega
  have r := rg_lt x
  unfold place
  rw [h]
  apply propext
  (repeat' split) <;> omega

theorem run_neg (t : TypeId) (x : Nat) (hx : x < 18446744073709551616) : Op.unary .neg (.float .f64 x) = pure (.float .f64 (op x)) := by
  rw [← neg_bits x hx]; rfl

theorem isInf_neg (x : Nat) (w : World) (hx : x < 18446744073709551616) :
    Calls Try.prog 29 #[.float .f64 x, .int .i64 (-1)] w fun e w' => e = .returned (.bool (decide (place x = -9218868437227405313))) ∧ w = w' := by
  have h := gt_max (op x) (op_lt x hx)
  have h2 := run_neg 0 x hx
  simp only [place_op x hx] at h
  go_enter Try.func29, Try.ntmps29
  go_wp2_with (simp only [h2])
  all_goals go_ret
  all_goals exact ⟨rfl, rfl⟩
theorem isInf_pos (x : Nat) (w : World) (hx : x < 18446744073709551616) :
    Calls Try.prog 29 #[.float .f64 x, .int .i64 1] w fun e w' => e = .returned (.bool (decide (place x = 9218868437227405312))) ∧ w = w' := by
  have h := gt_max x hx
  go_enter Try.func29, Try.ntmps29
  go_wp2
  all_goals go_ret
  all_goals exact ⟨rfl, rfl⟩
theorem isInf_zero (x : Nat) (w : World) (hx : x < 18446744073709551616) :
    Calls Try.prog 29 #[.float .f64 x, .int .i64 0] w fun e w' => e = .returned (.bool (decide (place x = -9218868437227405313) || decide (place x = 9218868437227405312))) ∧ w = w' := by
  have r := rg_lt x
  have h := gt_max (rg x) (by omega)
  simp only [place_rg x hx] at h
  go_enter Try.func29, Try.ntmps29
  go_wp2_with fail
  refine (abs_any x _ hx).mono ?_
  rintro e w' ⟨rfl, rfl⟩
  go_wp2
  all_goals go_ret
  all_goals exact ⟨rfl, rfl⟩
theorem signbit_any (x : Nat) (w : World) (hx : x < 18446744073709551616) :
    Calls Try.prog 38 #[.float .f64 x] w fun e w' => e = .returned (.bool (ng x)) ∧ w = w' := by
  have r1 := run_bits
  unfold ng
  by_cases h : 9223372036854775808 ≤ x
  · have e : IntKind.i64.wrap (x : Int) = (x : Int) - 18446744073709551616 := by rw [IntKind.wrap_i64]; omega
    have c : decide ((x : Int) - 18446744073709551616 < 0) = true := decide_eq_true (by omega)
    rw [decide_eq_true h]
    go_enter Try.func38, Try.ntmps38
    go_wp2
    all_goals go_ret
    all_goals exact ⟨rfl, rfl⟩
  · have e : IntKind.i64.wrap (x : Int) = (x : Int) := by rw [IntKind.wrap_i64]; omega
    rw [decide_eq_false h]
    go_enter Try.func38, Try.ntmps38
    go_wp2
    all_goals go_ret
    all_goals exact ⟨rfl, rfl⟩
theorem inf_any (n : Int) (w : World) :
    Calls Try.prog 30 #[.int .i64 n] w fun e w' => e = .returned (.float .f64 (if 0 ≤ n then 9218868437227405312 else 18442240474082181120)) ∧ w = w' := by
  have r2 := run_from
  by_cases h : 0 ≤ n
  · rw [if_pos h]
    go_enter Try.func30, Try.ntmps30
    go_wp2
    all_goals go_ret
    all_goals exact ⟨rfl, rfl⟩
  · rw [if_neg h]
    go_enter Try.func30, Try.ntmps30
    go_wp2
    all_goals go_ret
    all_goals exact ⟨rfl, rfl⟩
theorem nan_any (w : World) : Calls Try.prog 36 #[] w fun e w' => e = .returned (.float .f64 9221120237041090560) ∧ w = w' := by
  have r2 := run_from
  go_enter Try.func36, Try.ntmps36
  go_wp2
  all_goals go_ret
  all_goals exact ⟨rfl, rfl⟩
theorem refnan_any (w : World) : Calls Try.prog 43 #[] w fun e w' => e = .returned (.float .f64 9221120237041090560) ∧ w = w' := by
  have r2 := run_from
  go_enter Try.func43, Try.ntmps43
  go_wp2
  all_goals go_ret
  all_goals exact ⟨rfl, rfl⟩

theorem place_zero : place 0 = 0 := by decide
theorem lt_zero (x : Nat) (hx : x < 18446744073709551616) : (FloatKind.f64.format.order x 0 == some .lt) = decide (place x ≠ -9223372036854775808 ∧ place x < -1) := by
  rw [ord_lt x 0 hx (by decide), place_zero]
  unfold kp
  by_cases a : place x < -1
  · by_cases b : place x = -9223372036854775808
    · rw [decide_eq_false (by omega), decide_eq_false (by omega)]
    · rw [decide_eq_true (by refine ⟨b, by decide, ?_⟩; rw [if_pos (by omega), if_neg (by decide)]; omega), decide_eq_true ⟨b, a⟩]
  · rw [decide_eq_false (by intro h; have := h.2.2; rw [if_neg (show ¬ (0 : Int) < 0 by decide)] at this; split at this <;> omega), decide_eq_false (by omega)]
theorem gt_zero (x : Nat) (hx : x < 18446744073709551616) : (FloatKind.f64.format.order x 0 == some .gt) = decide (0 < place x) := by
  rw [ord_gt x 0 hx (by decide), place_zero]
  unfold kp
  by_cases a : 0 < place x
  · rw [decide_eq_true (by refine ⟨by omega, by decide, ?_⟩; rw [if_neg (show ¬ (0 : Int) < 0 by decide), if_neg (by omega)]; omega), decide_eq_true a]
  · rw [decide_eq_false (by intro h; have := h.2.2; rw [if_neg (show ¬ (0 : Int) < 0 by decide)] at this; split at this <;> omega), decide_eq_false a]
theorem eq_zero (x : Nat) (hx : x < 18446744073709551616) : (FloatKind.f64.format.order x 0 == some .eq) = decide (place x = 0 ∨ place x = -1) := by
  rw [ord_eq x 0 hx (by decide), place_zero]
  unfold kp
  by_cases a : place x = 0 ∨ place x = -1
  · rw [decide_eq_true (by refine ⟨by omega, by decide, ?_⟩; rw [if_neg (show ¬ (0 : Int) < 0 by decide)]; split <;> omega), decide_eq_true a]
  · rw [decide_eq_false (by intro h; have := h.2.2; rw [if_neg (show ¬ (0 : Int) < 0 by decide)] at this; split at this <;> omega), decide_eq_false a]
theorem ng_place (x : Nat) (hx : x < 18446744073709551616) (h : place x = -1 ∨ place x = 0) : ng x = decide (place x = -1) := by
  have r := rg_lt x
  unfold ng
  unfold place at *
  (repeat' split at *) <;> simp at * <;> omega

theorem class_cases (x : Nat) (hx : x < 18446744073709551616) : place x = -9223372036854775808 ∨ place x = -9218868437227405313 ∨ (-9218868437227405313 < place x ∧ place x < -1) ∨ place x = -1 ∨ place x = 0 ∨ (0 < place x ∧ place x < 9218868437227405312) ∨ place x = 9218868437227405312 := by
  have := place_range x hx
  omega
set_option maxHeartbeats 800000 in
theorem class_any (x : Nat) (w : World) (hx : x < 18446744073709551616) :
    Calls Try.prog 24 #[.float .f64 x] w fun e w' => e = .returned (.int .i64 (cls (place x))) ∧ w = w' := by
  have pr := place_range x hx
  have n1 := lt_zero x hx
  have n2 := gt_zero x hx
  have n3 := ng_place x hx
  have eN : isN x = decide (place x = -9223372036854775808) := rfl
  have k := class_cases x hx
  have i0 := isNaN_any x w hx
  have i1 := isInf_neg x w hx
  have i2 := isInf_pos x w hx
  have i3 := signbit_any x w hx
  rw [eN] at i0
  generalize place x = p at *
  rcases k with h | h | h | h | h | h | h
  · have e : cls p = 1 := by unfold cls; (repeat (first | rw [if_pos (by omega)] | rw [if_neg (by omega)]))
    rw [e]
    rw [decide_eq_true (show p = -9223372036854775808 by omega)] at i0
    clear e n3 eN
    go_enter Try.func24, Try.ntmps24
    go_wp2_with fail
    refine i0.mono ?_
    rintro e w' ⟨rfl, rfl⟩
    go_wp2
    all_goals go_ret
    all_goals exact ⟨rfl, rfl⟩
  · have e : cls p = 2 := by unfold cls; (repeat (first | rw [if_pos (by omega)] | rw [if_neg (by omega)]))
    rw [e]
    rw [decide_eq_false (show ¬ p = -9223372036854775808 by omega)] at i0
    rw [decide_eq_true (show p = -9218868437227405313 by omega)] at i1
    clear e n3 eN
    go_enter Try.func24, Try.ntmps24
    go_wp2_with fail
    refine i0.mono ?_
    rintro e w' ⟨rfl, rfl⟩
    go_wp2_with fail
    refine i1.mono ?_
    rintro e w' ⟨rfl, rfl⟩
    go_wp2
    all_goals go_ret
    all_goals exact ⟨rfl, rfl⟩
  · have e : cls p = 3 := by unfold cls; (repeat (first | rw [if_pos (by omega)] | rw [if_neg (by omega)]))
    rw [e]
    rw [decide_eq_false (show ¬ p = -9223372036854775808 by omega)] at i0
    rw [decide_eq_false (show ¬ p = -9218868437227405313 by omega)] at i1
    rw [decide_eq_false (show ¬ p = 9218868437227405312 by omega)] at i2
    rw [decide_eq_true (by omega)] at n1
    rw [decide_eq_false (by omega)] at n2
    clear e n3 eN
    go_enter Try.func24, Try.ntmps24
    go_wp2_with fail
    refine i0.mono ?_
    rintro e w' ⟨rfl, rfl⟩
    go_wp2_with fail
    refine i1.mono ?_
    rintro e w' ⟨rfl, rfl⟩
    go_wp2_with fail
    refine i2.mono ?_
    rintro e w' ⟨rfl, rfl⟩
    go_wp2
    all_goals go_ret
    all_goals exact ⟨rfl, rfl⟩
  · have e : cls p = 4 := by unfold cls; (repeat (first | rw [if_pos (by omega)] | rw [if_neg (by omega)]))
    rw [e]
    rw [decide_eq_false (show ¬ p = -9223372036854775808 by omega)] at i0
    rw [decide_eq_false (show ¬ p = -9218868437227405313 by omega)] at i1
    rw [decide_eq_false (show ¬ p = 9218868437227405312 by omega)] at i2
    rw [decide_eq_false (by omega)] at n1
    rw [decide_eq_false (by omega)] at n2
    rw [n3 (by omega), decide_eq_true (by omega)] at i3
    clear e n3 eN
    go_enter Try.func24, Try.ntmps24
    go_wp2_with fail
    refine i0.mono ?_
    rintro e w' ⟨rfl, rfl⟩
    go_wp2_with fail
    refine i1.mono ?_
    rintro e w' ⟨rfl, rfl⟩
    go_wp2_with fail
    refine i2.mono ?_
    rintro e w' ⟨rfl, rfl⟩
    go_wp2_with fail
    refine i3.mono ?_
    rintro e w' ⟨rfl, rfl⟩
    go_wp2
    all_goals go_ret
    all_goals exact ⟨rfl, rfl⟩
  · have e : cls p = 5 := by unfold cls; (repeat (first | rw [if_pos (by omega)] | rw [if_neg (by omega)]))
    rw [e]
    rw [decide_eq_false (show ¬ p = -9223372036854775808 by omega)] at i0
    rw [decide_eq_false (show ¬ p = -9218868437227405313 by omega)] at i1
    rw [decide_eq_false (show ¬ p = 9218868437227405312 by omega)] at i2
    rw [decide_eq_false (by omega)] at n1
    rw [decide_eq_false (by omega)] at n2
    rw [n3 (by omega), decide_eq_false (by omega)] at i3
    clear e n3 eN
    go_enter Try.func24, Try.ntmps24
    go_wp2_with fail
    refine i0.mono ?_
    rintro e w' ⟨rfl, rfl⟩
    go_wp2_with fail
    refine i1.mono ?_
    rintro e w' ⟨rfl, rfl⟩
    go_wp2_with fail
    refine i2.mono ?_
    rintro e w' ⟨rfl, rfl⟩
    go_wp2_with fail
    refine i3.mono ?_
    rintro e w' ⟨rfl, rfl⟩
    go_wp2
    all_goals go_ret
    all_goals exact ⟨rfl, rfl⟩
  · have e : cls p = 6 := by unfold cls; (repeat (first | rw [if_pos (by omega)] | rw [if_neg (by omega)]))
    rw [e]
    rw [decide_eq_false (show ¬ p = -9223372036854775808 by omega)] at i0
    rw [decide_eq_false (show ¬ p = -9218868437227405313 by omega)] at i1
    rw [decide_eq_false (show ¬ p = 9218868437227405312 by omega)] at i2
    rw [decide_eq_false (by omega)] at n1
    rw [decide_eq_true (by omega)] at n2
    clear e n3 eN
    go_enter Try.func24, Try.ntmps24
    go_wp2_with fail
    refine i0.mono ?_
    rintro e w' ⟨rfl, rfl⟩
    go_wp2_with fail
    refine i1.mono ?_
    rintro e w' ⟨rfl, rfl⟩
    go_wp2_with fail
    refine i2.mono ?_
    rintro e w' ⟨rfl, rfl⟩
    go_wp2
    all_goals go_ret
    all_goals exact ⟨rfl, rfl⟩
  · have e : cls p = 7 := by unfold cls; (repeat (first | rw [if_pos (by omega)] | rw [if_neg (by omega)]))
    rw [e]
    rw [decide_eq_false (show ¬ p = -9223372036854775808 by omega)] at i0
    rw [decide_eq_false (show ¬ p = -9218868437227405313 by omega)] at i1
    rw [decide_eq_true (show p = 9218868437227405312 by omega)] at i2
    clear e n3 eN
    go_enter Try.func24, Try.ntmps24
    go_wp2_with fail
    refine i0.mono ?_
    rintro e w' ⟨rfl, rfl⟩
    go_wp2_with fail
    refine i1.mono ?_
    rintro e w' ⟨rfl, rfl⟩
    go_wp2_with fail
    refine i2.mono ?_
    rintro e w' ⟨rfl, rfl⟩
    go_wp2
    all_goals go_ret
    all_goals exact ⟨rfl, rfl⟩
end Go.Proofs.Ythocpkmlfkbiaaa.Rl
