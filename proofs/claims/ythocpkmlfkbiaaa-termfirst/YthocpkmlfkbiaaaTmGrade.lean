/-
  Contracts of term.Grade and the document's, and of their bounds: what is left is from 0 to 1, no more when it is older, and above 0 just within.
-/
import Derived.Test.YthocpkmlfkbiaaaTmWait
namespace Go.Proofs.Ythocpkmlfkbiaaa.Tm
open Go.RowKit Go.Proofs.Ythocpkmlfkbiaaa.Rl
set_option linter.unusedVariables false

/-- what is left of a span without an end to its numbers -/
def gq (n : Int) (x : Nat) : Nat := ((floatBits .sub .f64 x (floatOfInt .f64 n)).bind fun d => floatBits .quo .f64 d x).getD 0
/-- what is left of a span -/
def gr (n : Int) (x : Nat) : Nat := if wi n x then (if place x = 9218868437227405312 then 4607182418800017408 else gq n x) else 0
theorem wi_true {n : Int} {x : Nat} (hx : x < 18446744073709551616) (h : wi n x = true) : 0 ≤ n ∧ gd x = true ∧ fi n.toNat < x ∧ x ≤ 9218868437227405312 ∧ rg x = x := by
  unfold wi at h
  simp only [Bool.and_eq_true, decide_eq_true_eq] at h
  obtain ⟨a, b, c⟩ := h
  obtain ⟨g1, g2, g3⟩ := gd_rg hx b
  rcases g3 with e | e
  · exact ⟨a, b, by omega, by omega, e.symm⟩
  · rw [e, show rg 9223372036854775808 = 0 by decide] at c
    omega
theorem grade_parts {n : Int} {x : Nat} (hx : x < 18446744073709551616) (h : wi n x = true) (hi : place x ≠ 9218868437227405312) :
    ∃ d g, floatBits .sub .f64 x (floatOfInt .f64 n) = some d ∧ floatBits .quo .f64 d x = some g ∧ gq n x = g ∧ d ≤ x ∧ d ≠ 0 ∧ x < 9218868437227405312 ∧ g ≤ 9218868437227405312 ∧
      Near d (val x - val (fi n.toNat)) 1 ∧ Near g (val d * one) (val x) := by
  obtain ⟨w1, w2, w3, w4, w5⟩ := wi_true hx h
  have xf : x < 9218868437227405312 := by
    rcases Nat.lt_or_eq_of_le w4 with a | a
    · exact a
    · exact absurd (by rw [place_pos' w4, a]; rfl) hi
  obtain ⟨d, d1, d2, d3⟩ := sub_near x (fi n.toNat) xf (by omega)
  rw [← ofInt_fi n w1] at d1
  have d0 : d ≠ 0 := by
    have v := val_lt w3
    have := near_mono (near_val 1) d3 (by decide) (by decide) (by decide) (by rw [val_small (by decide)]; omega)
    omega
  obtain ⟨g, q1, q2, q3⟩ := div_near d x (by omega) xf d0 (by omega)
  refine ⟨d, g, d1, q1, ?_, d2, d0, xf, q2, d3, q3⟩
  unfold gq
  rw [d1, Option.bind_some, q1]; rfl

theorem grade_any (n : Int) (x : Nat) (w : World) (hx : x < 18446744073709551616) :
    Calls Try.prog 19 #[.int .i64 n, .float .f64 x] w fun e w' => e = .returned (.float .f64 (gr n x)) ∧ w = w' := by
  have W := within_any n x w hx
  have I := isInf_pos x w hx
  unfold gr
  cases c : wi n x with
  | false =>
    rw [c] at W
    clear c
    go_enter Try.func19, Try.ntmps19
    go_wp2_with fail
    refine W.mono ?_
    rintro e w' ⟨rfl, rfl⟩
    clear W I
    go_wp2
    all_goals go_ret
    all_goals exact ⟨rfl, rfl⟩
  | true =>
  rw [c] at W
  by_cases hi : place x = 9218868437227405312
  · rw [decide_eq_true hi] at I
    rw [if_pos hi]
    clear c hi
    go_enter Try.func19, Try.ntmps19
    go_wp2_with fail
    refine W.mono ?_
    rintro e w' ⟨rfl, rfl⟩
    go_wp2_with fail
    refine I.mono ?_
    rintro e w' ⟨rfl, rfl⟩
    clear W I
    go_wp2
    all_goals go_ret
    all_goals exact ⟨rfl, rfl⟩
  · obtain ⟨d, g, d1, q1, eg, _⟩ := grade_parts hx c hi
    rw [decide_eq_false hi] at I
    rw [if_neg hi, eg]
    have m1 : ∀ t w, (binOp .sub t (.float .f64 x) (.float .f64 (floatOfInt .f64 n))).run Try.prog w = .ok (.float .f64 d) w := fun t w => run_float_arith w .sub t .f64 _ _ _ d1
    have m2 : ∀ t w, (binOp .quo t (.float .f64 d) (.float .f64 x)).run Try.prog w = .ok (.float .f64 g) w := fun t w => run_float_arith w .quo t .f64 _ _ _ q1
    clear c hi d1 q1 eg
    go_enter Try.func19, Try.ntmps19
    go_wp2_with fail
    refine W.mono ?_
    rintro e w' ⟨rfl, rfl⟩
    go_wp2_with fail
    refine I.mono ?_
    rintro e w' ⟨rfl, rfl⟩
    clear W I
    go_wp2
    all_goals go_ret
    all_goals exact ⟨rfl, rfl⟩
theorem refgrade_any (n : Int) (x : Nat) (w : World) (hx : x < 18446744073709551616) :
    Calls Try.prog 20 #[.int .i64 n, .float .f64 x] w fun e w' => e = .returned (.float .f64 (gr n x)) ∧ w = w' := by
  have W := refwithin_any n x w hx
  have I := refclass_any x w hx
  have b := cls_of _ (place_range x hx)
  unfold gr
  cases c : wi n x with
  | false =>
    rw [c] at W
    clear c
    go_enter Try.func20, Try.ntmps20
    go_wp2_with fail
    refine W.mono ?_
    rintro e w' ⟨rfl, rfl⟩
    clear W I
    go_wp2
    all_goals go_ret
    all_goals exact ⟨rfl, rfl⟩
  | true =>
  rw [c] at W
  by_cases hi : place x = 9218868437227405312
  · have e7 : cls (place x) = 7 := by omega
    rw [e7] at I
    rw [if_pos hi]
    clear c hi b e7
    go_enter Try.func20, Try.ntmps20
    go_wp2_with fail
    refine W.mono ?_
    rintro e w' ⟨rfl, rfl⟩
    go_wp2_with fail
    refine I.mono ?_
    rintro e w' ⟨rfl, rfl⟩
    clear W I
    go_wp2
    all_goals go_ret
    all_goals exact ⟨rfl, rfl⟩
  · obtain ⟨d, g, d1, q1, eg, _⟩ := grade_parts hx c hi
    have e7 : ¬ cls (place x) = 7 := by omega
    rw [if_neg hi, eg]
    generalize cls (place x) = q at *
    have m1 : ∀ t w, (binOp .sub t (.float .f64 x) (.float .f64 (floatOfInt .f64 n))).run Try.prog w = .ok (.float .f64 d) w := fun t w => run_float_arith w .sub t .f64 _ _ _ d1
    have m2 : ∀ t w, (binOp .quo t (.float .f64 d) (.float .f64 x)).run Try.prog w = .ok (.float .f64 g) w := fun t w => run_float_arith w .quo t .f64 _ _ _ q1
    clear c hi d1 q1 eg b
    go_enter Try.func20, Try.ntmps20
    go_wp2_with fail
    refine W.mono ?_
    rintro e w' ⟨rfl, rfl⟩
    go_wp2_with fail
    refine I.mono ?_
    rintro e w' ⟨rfl, rfl⟩
    clear W I
    go_wp2
    all_goals go_ret
    all_goals exact ⟨rfl, rfl⟩

/-- a whole number's rung, to 2^62 -/
theorem val_two (r L k : Nat) (hL : L + 52 = k + kk) (hr : r = L * 4503599627370496 + 4503599627370496) : val r = 2 ^ k * one := by
  rw [hr, val_lk (.inl (by decide)) (by decide), one_pow, show (4503599627370496 : Nat) = 2 ^ 52 by decide, ← Nat.pow_add, ← Nat.pow_add, Nat.add_comm, hL]
theorem val_1 : val 4607182418800017408 = one := by
  have := val_two 4607182418800017408 1022 0 (by rw [kk_eq]) (by decide)
  omega
attribute [irreducible] gq
theorem gr_le (n : Int) (x : Nat) (hx : x < 18446744073709551616) : gr n x ≤ 4607182418800017408 := by
  unfold gr
  cases c : wi n x with
  | false => rw [if_neg (by decide)]; decide
  | true =>
    by_cases hi : place x = 9218868437227405312
    · rw [if_pos rfl, if_pos hi]; exact Nat.le_refl _
    · rw [if_pos rfl, if_neg hi]
      obtain ⟨d, g, d1, q1, eg, d2, d0, xf, gi, nd, ng⟩ := grade_parts hx c hi
      rw [eg]
      have x0 : x ≠ 0 := by omega
      refine near_mono ng (near_val 4607182418800017408) (val_pos x0) (by decide) gi ?_
      rw [val_1, Nat.mul_one, Nat.mul_comm]
      exact Nat.mul_le_mul_left _ (val_le d2)
theorem gr_old (a b : Int) (x : Nat) (hx : x < 18446744073709551616) (h : a ≤ b) (h0 : 0 ≤ a) : gr b x ≤ gr a x := by
  have hf := fi_mono (show a.toNat ≤ b.toNat by omega)
  cases c : wi b x with
  | false => unfold gr; rw [c]; simp
  | true =>
    obtain ⟨w1, w2, w3, w4, w5⟩ := wi_true hx c
    have ca : wi a x = true := by
      unfold wi
      rw [decide_eq_true h0, w2, decide_eq_true (by omega)]; rfl
    unfold gr
    rw [c, ca, if_pos rfl, if_pos rfl]
    by_cases hi : place x = 9218868437227405312
    · rw [if_pos hi, if_pos hi]; exact Nat.le_refl _
    · rw [if_neg hi, if_neg hi]
      obtain ⟨d, g, d1, q1, eg, d2, d0, xf, gi, nd, ng⟩ := grade_parts hx c hi
      obtain ⟨d', g', d1', q1', eg', d2', d0', xf', gi', nd', ng'⟩ := grade_parts hx ca hi
      rw [eg, eg']
      have x0 : x ≠ 0 := by omega
      have vf := val_le hf
      have dd : d ≤ d' := near_mono nd nd' (by decide) (by decide) (by omega) (by omega)
      refine near_mono ng ng' (val_pos x0) (val_pos x0) gi (Nat.mul_le_mul_right _ (Nat.mul_le_mul_right _ (val_le dd)))
theorem val_mult (r L : Nat) (h : (L + 1) * 4503599627370496 ≤ r) : ∃ m, val r = m * 2 ^ L := by
  rw [val_big (by omega)]
  obtain ⟨j, hj⟩ : ∃ j, r / 4503599627370496 - 1 = j + L := ⟨r / 4503599627370496 - 1 - L, by omega⟩
  exact ⟨(4503599627370496 + r % 4503599627370496) * 2 ^ j, by rw [hj, Nat.pow_add, Nat.mul_assoc]⟩
/-- what is left within a span isn't so little that it would be 0 -/
theorem left_great {d x m : Nat} (xf : x < 9218868437227405312) (m1 : m ≤ 1099511627776) (hm : fi m < x) (nd : Near d (val x - val (fi m)) 1) (dx : d ≤ x) : val x < 2 * (val d * one) := by
  have o := one_pos
  have vm := fi_val m (by omega) (.inl (by omega))
  have vx := val_lt hm
  rw [vm] at nd vx
  have x0 : 0 < val x := by omega
  by_cases z : m = 0
  · subst z
    rw [Nat.zero_mul, Nat.sub_zero] at nd
    have e := near_exact nd (by decide) (by omega) (q := x) (by omega) (by omega)
    rw [e]
    have := Nat.le_mul_of_pos_right (val x) o
    omega
  · have k5 := kk_eq
    have om : one ≤ m * one := Nat.le_mul_of_pos_left _ (by omega)
    have x1 : 4607182418800017408 < x := by
      rw [← val_iff, val_1]; omega
    by_cases big : 2199023255552 * one ≤ val x
    · have t := Nat.mul_le_mul_right one m1
      obtain ⟨q, hq⟩ := val_has 1 (40 + kk) (by decide)
      have hq2 : val q = 1099511627776 * one := by rw [hq, Nat.one_mul, Nat.pow_add, one_pow]
      have qi : q ≤ 9218868437227405312 := by
        have g := inf_great
        rcases Nat.lt_or_ge 9218868437227405312 q with c | c
        · have := val_lt c; omega
        · exact c
      have dq : q ≤ d := near_mono (near_val q) nd (by decide) (by decide) qi (by omega)
      have vd := val_le dq
      have vi := val_lt xf
      obtain ⟨J, hJ⟩ : ∃ J, J = 1024 := ⟨_, rfl⟩
      have e1 : val 9218868437227405312 ≤ 2 ^ J * one := by
        rw [one_pow, ← Nat.pow_add, val_inf (J + kk) (by rw [hJ, kk_eq])]
        exact Nat.le_refl _
      have e2 : 2 ^ J * one ≤ val d * one := by
        refine Nat.mul_le_mul_right _ ?_
        refine Nat.le_trans ?_ vd
        rw [hq, Nat.one_mul]
        exact Nat.pow_le_pow_right (by decide) (by omega)
      omega
    · obtain ⟨L, hL⟩ : ∃ L, L + 52 = kk := ⟨kk - 52, by omega⟩
      obtain ⟨a, ha⟩ := val_mult x L (by omega)
      have e3 : one = 4503599627370496 * 2 ^ L := by rw [one_pow, ← hL, Nat.pow_add, Nat.mul_comm]
      have e4 : m * one = (m * 4503599627370496) * 2 ^ L := by rw [e3, Nat.mul_assoc]
      have e5 : val x - m * one = (a - m * 4503599627370496) * 2 ^ L := by rw [ha, e4, Nat.sub_mul]
      have p : 0 < a - m * 4503599627370496 := by
        rcases Nat.eq_zero_or_pos (a - m * 4503599627370496) with c | c
        · rw [c, Nat.zero_mul] at e5; omega
        · exact c
      have e6 : 2 ^ L ≤ val x - m * one := by rw [e5]; exact Nat.le_mul_of_pos_left _ p
      obtain ⟨q, hq⟩ := val_has 1 L (by decide)
      rw [Nat.one_mul] at hq
      have qi : q ≤ 9218868437227405312 := by
        have g := inf_great
        have : 2 ^ L ≤ one := by rw [e3]; exact Nat.le_mul_of_pos_left _ (by decide)
        rcases Nat.lt_or_ge 9218868437227405312 q with c | c
        · have := val_lt c; omega
        · exact c
      have dq : q ≤ d := near_mono (near_val q) nd (by decide) (by decide) qi (by omega)
      have vd := val_le dq
      have e7 : 2199023255552 ≤ 2 ^ L := by
        rw [show (2199023255552 : Nat) = 2 ^ 41 by decide]
        exact Nat.pow_le_pow_right (by decide) (by omega)
      have e8 : 2199023255552 * one ≤ val d * one := Nat.mul_le_mul_right _ (by omega)
      omega
theorem gr_pos (n : Int) (x : Nat) (hx : x < 18446744073709551616) (h0 : 0 ≤ n) (h1 : n ≤ 1099511627776) : (0 < gr n x) ↔ wi n x = true := by
  unfold gr
  cases c : wi n x with
  | false => simp
  | true =>
    rw [if_pos rfl]
    by_cases hi : place x = 9218868437227405312
    · rw [if_pos hi]; simp
    · rw [if_neg hi]
      obtain ⟨d, g, d1, q1, eg, d2, d0, xf, gi, nd, ng⟩ := grade_parts hx c hi
      obtain ⟨w1, w2, w3, w4, w5⟩ := wi_true hx c
      rw [eg]
      have l := left_great xf (by omega) w3 nd d2
      refine ⟨fun _ => rfl, fun _ => ?_⟩
      rcases Nat.eq_zero_or_pos g with z | z
      · exfalso
        subst z
        have := (ng.2 (by decide)).1
        rw [val_zero, Nat.zero_add, show val (0 + 1) = 1 by rw [val_small (by decide)], Nat.one_mul] at this
        omega
      · exact z
end Go.Proofs.Ythocpkmlfkbiaaa.Tm
