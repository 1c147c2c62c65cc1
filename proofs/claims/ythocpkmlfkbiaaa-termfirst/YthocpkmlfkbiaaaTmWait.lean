/-
  Contracts of term.Wait and the document's: what each answers for every base and try.
-/
import Derived.Test.YthocpkmlfkbiaaaTmEnds
namespace Go.Proofs.Ythocpkmlfkbiaaa.Tm
open Go.RowKit Go.Proofs.Ythocpkmlfkbiaaa.Rl
set_option linter.unusedVariables false

/-- the least whole number that isn't below s times 2 to the power k, at most 2^20 -/
def wv (s k : Nat) : Nat := min ((val s * 2 ^ k + (one - 1)) / one) 1048576
theorem wv_iff (s k t : Nat) : t < wv s k ↔ t < 1048576 ∧ t * one < val s * 2 ^ k := by
  have h1 := one_pos
  have e : t < (val s * 2 ^ k + (one - 1)) / one ↔ t * one < val s * 2 ^ k := by
    rw [← Nat.succ_le_iff, Nat.le_div_iff_mul_le h1, Nat.succ_mul]
    omega
  unfold wv
  rw [← e]
  omega
theorem wv_le (s k : Nat) : wv s k ≤ 1048576 := by unfold wv; omega
theorem wv_zero (k : Nat) : wv 0 k = 0 := by
  refine lt_ext fun t => ?_
  rw [wv_iff, val_zero]
  omega
attribute [irreducible] wv
def wt (x : Nat) (n : Int) : Nat := if gd x && decide (1 ≤ n) then wv (rg x) (min n 60 - 1).toNat else 0
theorem wt_no {x : Nat} {n : Int} (h : gd x = false ∨ n < 1) : wt x n = 0 := by
  unfold wt
  rcases h with h | h
  · rw [h]; rfl
  · rw [decide_eq_false (show ¬ 1 ≤ n by omega)]; simp
theorem wt_yes {x : Nat} {n : Int} (h : gd x = true) (h1 : 1 ≤ n) : wt x n = wv (rg x) (min n 60 - 1).toNat := by
  unfold wt; rw [h, decide_eq_true h1, if_pos (by decide)]

theorem val_two20 (r L : Nat) (hL : L + 52 = 20 + kk) (hr : r = L * 4503599627370496 + 4503599627370496) : val r = 1048576 * one := by
  rw [hr, val_lk (.inl (by decide)) (by decide), one_pow, show (4503599627370496 : Nat) = 2 ^ 52 by decide, ← Nat.pow_add, show (1048576 : Nat) = 2 ^ 20 by decide, ← Nat.pow_add, Nat.add_comm, hL]
theorem val_mw : val 4697254411347427328 = 1048576 * one := val_two20 4697254411347427328 1042 (by rw [kk_eq]) (by decide)
theorem wv_up {p s k : Nat} (h : val p = min (val s * 2 ^ k) (val 9218868437227405312)) : up (min p 4697254411347427328) = wv s k := by
  refine lt_ext fun t => ?_
  rw [up_iff, wv_iff]
  have e : val (min p 4697254411347427328) = min (val p) (1048576 * one) := by
    rw [← val_mw]
    rcases Nat.le_total p 4697254411347427328 with c | c
    · have := val_le c; rw [Nat.min_eq_left c]; omega
    · have := val_le c; rw [Nat.min_eq_right c]; omega
  rw [e, h]
  have g := inf_great
  have o := one_pos
  have m : t * one < 1048576 * one ↔ t < 1048576 := Nat.mul_lt_mul_right o
  have m2 : t < 1048576 → t * one < val 9218868437227405312 := fun h => by
    have := m.2 h
    omega
  omega
theorem wv_of {p s k t : Nat} (h : val p = min (val s * 2 ^ k) (val 9218868437227405312)) (ht : t < 1048576) : t < up p ↔ t < wv s k := by
  rw [up_iff, wv_iff, h]
  have g := inf_great
  have o := one_pos
  have m := Nat.mul_lt_mul_of_pos_right ht o
  omega

theorem run_min_mw (b : Bool) (p : Nat) (hp : p ≤ 9218868437227405312) (hb : b = true → p = 0) (ts : Array TypeId) (t : TypeId) (w : World) :
    (Builtin.min_ ts t #[.float .f64 (Ieee.double.word b p), .float .f64 4697254411347427328]).run Try.prog w = .ok (.float .f64 (Ieee.double.word b (min p 4697254411347427328))) w := by
  cases b with
  | true =>
    rw [hb rfl]
    rfl
  | false =>
    rw [word_false, word_false]
    have o := order_place p 4697254411347427328 (by omega) (by decide)
    rw [place_pos' hp, place_pos' (r := 4697254411347427328) (by decide), if_neg (by omega), compare_int, show kp ((p : Nat) : Int) = p by unfold kp; rw [if_neg (by omega)], show kp ((4697254411347427328 : Nat) : Int) = 4697254411347427328 by decide] at o
    rcases Nat.lt_trichotomy p 4697254411347427328 with c | c | c
    · rw [if_pos (by omega)] at o
      rw [Nat.min_eq_left (by omega)]
      simp [Builtin.min_, Builtin.min2, o]
    · subst c
      rfl
    · rw [if_neg (by omega), if_neg (by omega)] at o
      rw [Nat.min_eq_right (by omega)]
      simp [Builtin.min_, Builtin.min2, o]
theorem gd_word (b : Bool) (p : Nat) (hp : p ≤ 9218868437227405312) (hb : b = true → p = 0) : gd (Ieee.double.word b p) = true := by
  cases b with
  | true => rw [hb rfl]; decide
  | false =>
    rw [word_false]; unfold gd
    rw [place_pos' hp]
    exact decide_eq_true (by omega)
theorem ng_gd {x : Nat} (hx : x < 18446744073709551616) (g : gd x = true) (h : ng x = true) : rg x = 0 := by
  obtain ⟨g1, g2, g3⟩ := gd_rg hx g
  unfold ng at h
  have h := of_decide_eq_true h
  rcases g3 with c | c
  · omega
  · subst c; decide
/-- the product, bounded, and its ceiling -/
theorem wait_parts (x k : Nat) (hx : x < 18446744073709551616) (g : gd x = true) (hk : k < 60) :
    ∃ P M y, (∀ t w, (binOp .mul t (.float .f64 x) (.float .f64 (fi (2 ^ k)))).run Try.prog w = .ok (.float .f64 P) w) ∧
      (∀ ts t w, (Builtin.min_ ts t #[.float .f64 P, .float .f64 4697254411347427328]).run Try.prog w = .ok (.float .f64 M) w) ∧
      (∀ w, Calls Try.prog 26 #[.float .f64 M] w fun e w' => e = .returned (.float .f64 y) ∧ w = w') ∧
      floatToIntVal .f64 y .i64 = some (wv (rg x) k : Int) := by
  obtain ⟨g1, g2, g3⟩ := gd_rg hx g
  obtain ⟨p, p1, p2, p3⟩ := mul_pow x k hx g1 hk
  have hb : ng x = true → p = 0 := by
    intro h
    have z := ng_gd hx g h
    rw [z, val_zero, Nat.zero_mul, Nat.zero_min] at p3
    exact val_inj.1 (by rw [p3, val_zero])
  have mle : min p 4697254411347427328 ≤ 9218868437227405312 := by omega
  have mb : ng x = true → min p 4697254411347427328 = 0 := fun h => by rw [hb h]; decide
  have gm := gd_word (ng x) _ mle mb
  have rm : rg (Ieee.double.word (ng x) (min p 4697254411347427328)) = min p 4697254411347427328 := rg_word _ _ (by omega)
  have wu := wv_up p3
  have wl := wv_le (rg x) k
  obtain ⟨y, y1, y2⟩ := ceil_any (Ieee.double.word (ng x) (min p 4697254411347427328)) (word_lt' _ _ (by omega)) gm (by rw [rm]; omega) (by rw [rm, wu]; omega)
  rw [rm, wu] at y1
  exact ⟨_, _, y, fun t w => run_float_arith w .mul t .f64 _ _ _ p1, fun ts t w => run_min_mw (ng x) p p2 hb ts t w, y2, y1⟩

theorem wait_any (x : Nat) (n : Int) (w : World) (hx : x < 18446744073709551616) (h1 : -9223372036854775808 ≤ n) (h2 : n ≤ 9223372036854775807) :
    Calls Try.prog 16 #[.float .f64 x, .int .i64 n] w fun e w' => e = .returned (.int .i64 (wt x n : Int)) ∧ w = w' := by
  have G := good_any x w hx
  cases d : gd x with
  | false =>
    rw [wt_no (.inl d)]
    rw [d] at G
    clear d
    go_enter Try.func16, Try.ntmps16
    go_wp2_with fail
    refine G.mono ?_
    rintro e w' ⟨rfl, rfl⟩
    clear G
    go_wp2
    all_goals go_ret
    all_goals exact ⟨rfl, rfl⟩
  | true =>
  rw [d] at G
  by_cases c0 : n < 1
  · rw [wt_no (.inr c0)]
    clear d
    go_enter Try.func16, Try.ntmps16
    go_wp2_with fail
    refine G.mono ?_
    rintro e w' ⟨rfl, rfl⟩
    clear G
    go_wp2
    all_goals go_ret
    all_goals exact ⟨rfl, rfl⟩
  rw [wt_yes d (by omega)]
  obtain ⟨k, hk⟩ : ∃ k, (min n 60 - 1).toNat = k := ⟨_, rfl⟩
  have k60 : k < 60 := by omega
  rw [hk]
  have kp : (2 : Nat) ^ k ≤ 2 ^ 59 := Nat.pow_le_pow_right (by decide) (by omega)
  obtain ⟨P, M, y, p1, p2, p3, p4⟩ := wait_parts x k hx d k60
  have C := p3 w
  have cv : ∀ w, (convert 22 3 (.float .f64 y)).run Try.prog w = .ok (.int .i64 (wv (rg x) k : Int)) w := fun w => run_convert_float_int w _ _ _ _ _ _ (by kernel_rfl) (by kernel_rfl) p4
  generalize wv (rg x) k = u at *
  have fe := (fi_eq (2 ^ k)).1
  obtain ⟨N, hN⟩ : ∃ N, 2 ^ k = N := ⟨_, rfl⟩
  rw [hN] at p1 fe kp
  generalize fi N = F at *
  by_cases c1 : 60 < n
  · have k59 : k = 59 := by omega
    subst k59
    have hN : N = 576460752303423488 := by rw [← hN]
    subst hN
    have fe : floatOfInt .f64 576460752303423488 = F := fe
    clear p3 p4 d hk kp k60
    go_enter Try.func16, Try.ntmps16
    go_wp2_with fail
    refine G.mono ?_
    rintro e w' ⟨rfl, rfl⟩
    clear G
    go_wp2_with fail
    refine C.mono ?_
    rintro e w' ⟨rfl, rfl⟩
    clear C
    go_wp2
    all_goals go_ret
    all_goals exact ⟨rfl, rfl⟩
  · have sh : IntKind.u64.wrap (2 ^ (n.toNat - 1)) = (N : Int) := by
      rw [show n.toNat - 1 = k by omega, show (2 : Int) ^ k = ((2 ^ k : Nat) : Int) by simp, hN]
      rw [IntKind.wrap_u64]; omega
    clear p3 p4 d hk k60 hN
    go_enter Try.func16, Try.ntmps16
    go_wp2_with fail
    refine G.mono ?_
    rintro e w' ⟨rfl, rfl⟩
    clear G
    go_wp2_with fail
    refine C.mono ?_
    rintro e w' ⟨rfl, rfl⟩
    clear C
    go_wp2
    all_goals go_ret
    all_goals exact ⟨rfl, rfl⟩

theorem cls_small (x : Nat) (hx : x < 18446744073709551616) (g : gd x = true) : (cls (place x) < 6 ↔ rg x = 0) ∧ (¬ cls (place x) < 6 → x = rg x) := by
  have b := cls_of _ (place_range x hx)
  obtain ⟨g1, g2, g3⟩ := gd_rg hx g
  have g := of_decide_eq_true g
  unfold kp at g2
  constructor
  · constructor
    · intro h
      split at g2 <;> omega
    · intro h
      split at g2 <;> omega
  · intro h
    rcases g3 with c | c
    · exact c
    · subst c
      exact absurd (show cls (place 9223372036854775808) < 6 by decide) h
theorem refwait_any (x : Nat) (n : Int) (w : World) (hx : x < 18446744073709551616) (h1 : -9223372036854775808 ≤ n) (h2 : n ≤ 9223372036854775807) :
    Calls Try.prog 17 #[.float .f64 x, .int .i64 n] w fun e w' => e = .returned (.int .i64 (wt x n : Int)) ∧ w = w' := by
  have G := refgood_any x w hx
  cases d : gd x with
  | false =>
    rw [wt_no (.inl d)]
    rw [d] at G
    clear d
    go_enter Try.func17, Try.ntmps17
    go_wp2_with fail
    refine G.mono ?_
    rintro e w' ⟨rfl, rfl⟩
    clear G
    go_wp2
    all_goals go_ret
    all_goals exact ⟨rfl, rfl⟩
  | true =>
  rw [d] at G
  by_cases c0 : n < 1
  · rw [wt_no (.inr c0)]
    clear d
    go_enter Try.func17, Try.ntmps17
    go_wp2_with fail
    refine G.mono ?_
    rintro e w' ⟨rfl, rfl⟩
    clear G
    go_wp2
    all_goals go_ret
    all_goals exact ⟨rfl, rfl⟩
  rw [wt_yes d (by omega)]
  obtain ⟨k, hk⟩ : ∃ k, (min n 60 - 1).toNat = k := ⟨_, rfl⟩
  rw [hk]
  have R := refclass_any x w hx
  obtain ⟨s1, s2⟩ := cls_small x hx d
  by_cases c3 : cls (place x) < 6
  · rw [s1.1 c3, wv_zero]
    generalize cls (place x) = q at *
    clear d hk s1 s2
    go_enter Try.func17, Try.ntmps17
    go_wp2_with fail
    refine G.mono ?_
    rintro e w' ⟨rfl, rfl⟩
    go_wp2_with fail
    refine R.mono ?_
    rintro e w' ⟨rfl, rfl⟩
    clear G R
    go_wp2
    all_goals go_ret
    all_goals exact ⟨rfl, rfl⟩
  have k60 : k < 60 := by omega
  have kp : (2 : Nat) ^ k ≤ 2 ^ 59 := Nat.pow_le_pow_right (by decide) (by omega)
  obtain ⟨g1, g2, g3⟩ := gd_rg hx d
  obtain ⟨p, p1, p2, p3⟩ := mul_pow x k hx g1 k60
  have ex := s2 c3
  have en : ng x = false := by rw [ex]; exact ng_pos (rg_lt x)
  rw [en, word_false] at p1
  have gp := gd_word false p p2 (fun h => by cases h)
  rw [word_false] at gp
  have rp : rg p = p := rg_pos (by omega)
  have m1 : ∀ t w, (binOp .mul t (.float .f64 x) (.float .f64 (fi (2 ^ k)))).run Try.prog w = .ok (.float .f64 p) w := fun t w => run_float_arith w .mul t .f64 _ _ _ p1
  have S : ∀ m : Int, 0 ≤ m → m < 1048576 → (FloatKind.f64.format.order (floatOfInt .f64 m) p == some .lt) = decide (m < (wv (rg x) k : Int)) := fun m a b => by
    rw [wi_ord m p (by omega) a, wi_up m p (by omega) a (by omega) gp, rp]
    congr 1; apply propext
    have := wv_of (t := m.toNat) p3 (by omega)
    omega
  have S' := Lib.hid S
  clear S
  have ul := wv_le (rg x) k
  generalize wv (rg x) k = u at *
  have fe := (fi_eq (2 ^ k)).1
  obtain ⟨N, hN⟩ : ∃ N, 2 ^ k = N := ⟨_, rfl⟩
  rw [hN] at m1 fe kp
  generalize fi N = F at *
  generalize cls (place x) = q at *
  have sh : n ≤ 60 → IntKind.u64.wrap (2 ^ (n.toNat - 1)) = (N : Int) := by
    intro c1
    rw [show n.toNat - 1 = k by omega, show (2 : Int) ^ k = ((2 ^ k : Nat) : Int) by simp, hN]
    rw [IntKind.wrap_u64]; omega
  have f60 : 60 < n → floatOfInt .f64 576460752303423488 = F := by
    intro c1
    have k59 : k = 59 := by omega
    subst k59
    have hN : N = 576460752303423488 := by rw [← hN]
    subst hN
    exact fe
  clear p1 p2 p3 d hk k60 hN ex en gp rp s1 s2 g1 g2 g3
  by_cases c1 : 60 < n
  · have f60 := f60 c1
    clear sh
    go_enter Try.func17, Try.ntmps17
    go_wp2_with fail
    refine G.mono ?_
    rintro e w' ⟨rfl, rfl⟩
    go_wp2_with fail
    refine R.mono ?_
    rintro e w' ⟨rfl, rfl⟩
    clear G R
    go_wp2
    go_loop [7, 8] (fun a b => ∃ (lo hi : Int), a = .int .i64 lo ∧ b = .int .i64 hi ∧ 0 ≤ lo ∧ lo ≤ u ∧ (u : Int) ≤ hi ∧ hi ≤ 1048576) (fun a b => (intOf b - intOf a).toNat)
    case atStart => exact ⟨0, 1048576, rfl, rfl, by omega, by omega, by omega, by omega⟩
    case round =>
      obtain ⟨lo, hi, rfl, rfl, r1, r2, r3, r4⟩ := hrel
      by_cases hlt : lo < hi
      · by_cases c : (lo + hi) / 2 < (u : Int)
        · have C := S'.out ((lo + hi) / 2) (by omega) (by omega)
          rw [decide_eq_true c] at C
          go_wp2
          go_round
          case rel => exact ⟨_, _, rfl, rfl, by omega, by omega, by omega, by omega⟩
          case measure => simp [intOf]; omega
        · have C := S'.out ((lo + hi) / 2) (by omega) (by omega)
          rw [decide_eq_false c] at C
          go_wp2
          go_round
          case rel => exact ⟨_, _, rfl, rfl, by omega, by omega, by omega, by omega⟩
          case measure => simp [intOf]; omega
      · have e : lo = u := by omega
        subst e
        go_wp2
        go_ret
        exact ⟨rfl, rfl⟩
  · have sh := sh (by omega)
    clear f60
    go_enter Try.func17, Try.ntmps17
    go_wp2_with fail
    refine G.mono ?_
    rintro e w' ⟨rfl, rfl⟩
    go_wp2_with fail
    refine R.mono ?_
    rintro e w' ⟨rfl, rfl⟩
    clear G R
    go_wp2
    go_loop [7, 8] (fun a b => ∃ (lo hi : Int), a = .int .i64 lo ∧ b = .int .i64 hi ∧ 0 ≤ lo ∧ lo ≤ u ∧ (u : Int) ≤ hi ∧ hi ≤ 1048576) (fun a b => (intOf b - intOf a).toNat)
    case atStart => exact ⟨0, 1048576, rfl, rfl, by omega, by omega, by omega, by omega⟩
    case round =>
      obtain ⟨lo, hi, rfl, rfl, r1, r2, r3, r4⟩ := hrel
      by_cases hlt : lo < hi
      · by_cases c : (lo + hi) / 2 < (u : Int)
        · have C := S'.out ((lo + hi) / 2) (by omega) (by omega)
          rw [decide_eq_true c] at C
          go_wp2
          go_round
          case rel => exact ⟨_, _, rfl, rfl, by omega, by omega, by omega, by omega⟩
          case measure => simp [intOf]; omega
        · have C := S'.out ((lo + hi) / 2) (by omega) (by omega)
          rw [decide_eq_false c] at C
          go_wp2
          go_round
          case rel => exact ⟨_, _, rfl, rfl, by omega, by omega, by omega, by omega⟩
          case measure => simp [intOf]; omega
      · have e : lo = u := by omega
        subst e
        go_wp2
        go_ret
        exact ⟨rfl, rfl⟩
end Go.Proofs.Ythocpkmlfkbiaaa.Tm
