/-
  Contract of awake: it answers true in every world, and changes nothing.
-/
import Derived.Test.YthocpkmlfkbiaaaTmGrade
namespace Go.Proofs.Ythocpkmlfkbiaaa.Tm
open Go.RowKit Go.Proofs.Ythocpkmlfkbiaaa.Rl
set_option linter.unusedVariables false

theorem ratio_inf (w : World) : Calls Try.prog 23 #[.int .i64 1, .int .i64 0] w fun e w' => e = .returned (.float .f64 9218868437227405312) ∧ w = w' := by
  have r := ratio_any 1 0 w (by decide) (by decide) (by decide) (by decide)
  rw [show rat 1 0 = 9218868437227405312 by unfold rat; rfl] at r
  exact r
theorem ratio_nan (w : World) : Calls Try.prog 23 #[.int .i64 0, .int .i64 0] w fun e w' => e = .returned (.float .f64 9221120237041090560) ∧ w = w' := by
  have r := ratio_any 0 0 w (by decide) (by decide) (by decide) (by decide)
  rw [show rat 0 0 = 9221120237041090560 by unfold rat; rfl] at r
  exact r
theorem up_at (r L kept u d : Nat) (hd : d ≤ 52) (hL : L + d = kk) (hr : r = L * 4503599627370496 + kept) (k1 : 4503599627370496 ≤ kept) (k2 : kept ≤ 9007199254740992) (h : ∀ t, t < u ↔ t * 2 ^ d < kept) : up r = u := by
  refine lt_ext fun t => ?_
  rw [up_iff, h, hr, val_lk (.inl k1) k2, one_pow, ← hL, Nat.add_comm, Nat.pow_add, ← Nat.mul_assoc]
  exact Nat.mul_lt_mul_right (Nat.two_pow_pos L)
theorem up_95 : up 4621537642612260864 = 10 := up_at _ 1025 5348024557502464 10 49 (by decide) (by rw [kk_eq]) (by decide) (by decide) (by decide) (fun t => by omega)
theorem wv_15 : wv 4609434218613702656 2 = 6 := by
  obtain ⟨L, hL⟩ : ∃ L, L + 52 = kk := ⟨kk - 52, by rw [kk_eq]⟩
  have hL2 : L = 1022 := by have := kk_eq; omega
  obtain ⟨r, hr⟩ : ∃ r, r = 4609434218613702656 := ⟨_, rfl⟩
  rw [← hr]
  refine lt_ext fun t => ?_
  rw [wv_iff, show r = L * 4503599627370496 + 6755399441055744 by omega, val_lk (.inl (by decide)) (by decide), one_pow, ← hL, Nat.add_comm L, Nat.pow_add, ← Nat.mul_assoc, Nat.mul_assoc _ (2 ^ L), Nat.mul_comm (2 ^ L), ← Nat.mul_assoc]
  have := Nat.mul_lt_mul_right (Nat.two_pow_pos L) (b := t * 2 ^ 52) (c := 6755399441055744 * 2 ^ 2)
  rw [this]
  omega
theorem awake_ends (w : World) : Calls Try.prog 10 #[.int .i64 100, .float .f64 4621537642612260864] w fun e w' => e = .returned (.tuple #[.int .i64 110, .bool true]) ∧ w = w' := by
  have e := ends_any 100 4621537642612260864 w (by decide) (by decide) (by decide)
  have r : rg 4621537642612260864 = 4621537642612260864 := by decide
  have b : enB 100 4621537642612260864 = true := by
    unfold enB; rw [r, up_95]; decide
  rw [en_yes b, b, r, up_95] at e
  exact e
theorem awake_never (w : World) : Calls Try.prog 10 #[.int .i64 100, .float .f64 9218868437227405312] w fun e w' => e = .returned (.tuple #[.int .i64 0, .bool false]) ∧ w = w' := by
  have e := ends_any 100 9218868437227405312 w (by decide) (by decide) (by decide)
  have r : rg 9218868437227405312 = 9218868437227405312 := by decide
  have u := up_inf
  have b : enB 100 9218868437227405312 = false := by
    unfold enB; rw [r, decide_eq_false (show ¬ ((up 9218868437227405312 : Nat) : Int) ≤ 1099511627776 - 100 by omega)]; simp
  rw [en_no b, b] at e
  exact e
theorem awake_9 (w : World) : Calls Try.prog 14 #[.int .i64 9, .float .f64 4621537642612260864] w fun e w' => e = .returned (.bool true) ∧ w = w' := by
  have e := within_any 9 4621537642612260864 w (by decide)
  rw [wi_up 9 _ (by decide) (by decide) (by decide) (by decide), show rg 4621537642612260864 = 4621537642612260864 by decide, up_95] at e
  exact e
theorem awake_10 (w : World) : Calls Try.prog 14 #[.int .i64 10, .float .f64 4621537642612260864] w fun e w' => e = .returned (.bool false) ∧ w = w' := by
  have e := within_any 10 4621537642612260864 w (by decide)
  rw [wi_up 10 _ (by decide) (by decide) (by decide) (by decide), show rg 4621537642612260864 = 4621537642612260864 by decide, up_95] at e
  exact e
theorem awake_ever (w : World) : Calls Try.prog 14 #[.int .i64 1, .float .f64 9218868437227405312] w fun e w' => e = .returned (.bool true) ∧ w = w' := by
  have e := within_any 1 9218868437227405312 w (by decide)
  have u := up_inf
  rw [wi_up 1 _ (by decide) (by decide) (by decide) (by decide), show rg 9218868437227405312 = 9218868437227405312 by decide, decide_eq_true (by omega)] at e
  exact e
theorem awake_wait (w : World) : Calls Try.prog 16 #[.float .f64 4609434218613702656, .int .i64 3] w fun e w' => e = .returned (.int .i64 6) ∧ w = w' := by
  have e := wait_any 4609434218613702656 3 w (by decide) (by decide) (by decide)
  rw [wt_yes (by decide) (by decide), show rg 4609434218613702656 = 4609434218613702656 by decide, show (min (3 : Int) 60 - 1).toNat = 2 by decide, wv_15] at e
  exact e
theorem awake_nan (w : World) : Calls Try.prog 12 #[.float .f64 9221120237041090560] w fun e w' => e = .returned (.bool false) ∧ w = w' := by
  have e := good_any 9221120237041090560 w (by decide)
  rw [show gd 9221120237041090560 = false by decide] at e
  exact e
theorem awake_any (w : World) : Calls Try.prog 9 #[] w fun e w' => e = .returned (.bool true) ∧ w = w' := by
  go_enter Try.func9, Try.ntmps9
  go_wp2_with fail
  refine (awake_ends w).mono ?_
  rintro e w' ⟨rfl, rfl⟩
  go_wp2_with fail
  refine (ratio_inf w).mono ?_
  rintro e w' ⟨rfl, rfl⟩
  go_wp2_with fail
  refine (awake_never w).mono ?_
  rintro e w' ⟨rfl, rfl⟩
  go_wp2_with fail
  refine (awake_9 w).mono ?_
  rintro e w' ⟨rfl, rfl⟩
  go_wp2_with fail
  refine (awake_10 w).mono ?_
  rintro e w' ⟨rfl, rfl⟩
  go_wp2_with fail
  refine (awake_wait w).mono ?_
  rintro e w' ⟨rfl, rfl⟩
  go_wp2_with fail
  refine (ratio_inf w).mono ?_
  rintro e w' ⟨rfl, rfl⟩
  go_wp2_with fail
  refine (awake_ever w).mono ?_
  rintro e w' ⟨rfl, rfl⟩
  go_wp2_with fail
  refine (ratio_nan w).mono ?_
  rintro e w' ⟨rfl, rfl⟩
  go_wp2_with fail
  refine (awake_nan w).mono ?_
  rintro e w' ⟨rfl, rfl⟩
  go_wp2
  all_goals go_ret
  all_goals exact ⟨rfl, rfl⟩
end Go.Proofs.Ythocpkmlfkbiaaa.Tm
