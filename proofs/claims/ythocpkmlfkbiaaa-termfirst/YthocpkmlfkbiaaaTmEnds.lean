/-
  Contracts of term.Ends and the document's: what each answers for every tick and span.
-/
import Derived.Test.YthocpkmlfkbiaaaTmLeaf
namespace Go.Proofs.Ythocpkmlfkbiaaa.Tm
open Go.RowKit Go.Proofs.Ythocpkmlfkbiaaa.Rl
set_option linter.unusedVariables false

/-- whether, and when, what was at n isn't within the span x -/
def enB (n : Int) (x : Nat) : Bool := gd x && (decide (0 ≤ n) && (decide (n ≤ 1099511627776) && decide ((up (rg x) : Int) ≤ 1099511627776 - n)))
def enN (n : Int) (x : Nat) : Int := if enB n x then n + up (rg x) else 0
theorem up_inf : 9007199254740992 ≤ up 9218868437227405312 := by
  have g := inf_great
  have o := one_pos
  have : 9007199254740991 < up 9218868437227405312 := (up_iff _ _).2 (by omega)
  omega
theorem fin_up {x : Nat} (h : rg x ≤ 9218868437227405312) (hu : up (rg x) < 9007199254740992) : rg x < 9218868437227405312 := by
  have := up_inf
  rcases Nat.lt_or_eq_of_le h with a | a
  · exact a
  · rw [a] at hu; omega
theorem en_no {n : Int} {x : Nat} (h : enB n x = false) : enN n x = 0 := by unfold enN; rw [h]; rfl
theorem en_yes {n : Int} {x : Nat} (h : enB n x = true) : enN n x = n + up (rg x) := by unfold enN; rw [h]; rfl

theorem ends_any (n : Int) (x : Nat) (w : World) (hx : x < 18446744073709551616) (h1 : -9223372036854775808 ≤ n) (h2 : n ≤ 9223372036854775807) :
    Calls Try.prog 10 #[.int .i64 n, .float .f64 x] w fun e w' => e = .returned (.tuple #[.int .i64 (enN n x), .bool (enB n x)]) ∧ w = w' := by
  have G := good_any x w hx
  cases d : gd x with
  | false =>
    have eb : enB n x = false := by unfold enB; rw [d]; rfl
    rw [en_no eb, eb]
    rw [d] at G
    clear d eb
    go_enter Try.func10, Try.ntmps10
    go_wp2_with fail
    refine G.mono ?_
    rintro e w' ⟨rfl, rfl⟩
    clear G
    go_wp2
    all_goals go_ret2
    all_goals exact ⟨rfl, rfl⟩
  | true =>
  rw [d] at G
  by_cases c0 : n < 0
  · have eb : enB n x = false := by unfold enB; rw [decide_eq_false (show ¬ 0 ≤ n by omega)]; simp
    rw [en_no eb, eb]
    clear d eb
    go_enter Try.func10, Try.ntmps10
    go_wp2_with fail
    refine G.mono ?_
    rintro e w' ⟨rfl, rfl⟩
    clear G
    go_wp2
    all_goals go_ret2
    all_goals exact ⟨rfl, rfl⟩
  by_cases c1 : 1099511627776 < n
  · have eb : enB n x = false := by unfold enB; rw [decide_eq_false (show ¬ n ≤ 1099511627776 by omega)]; simp
    rw [en_no eb, eb]
    clear d eb
    go_enter Try.func10, Try.ntmps10
    go_wp2_with fail
    refine G.mono ?_
    rintro e w' ⟨rfl, rfl⟩
    clear G
    go_wp2
    all_goals go_ret2
    all_goals exact ⟨rfl, rfl⟩
  have W := within_any (1099511627776 - n) x w hx
  have wu := wi_up (1099511627776 - n) x hx (by omega) (by omega) d
  by_cases c2 : 1099511627776 - n < (up (rg x) : Int)
  · rw [wu, decide_eq_true c2] at W
    have eb : enB n x = false := by unfold enB; rw [decide_eq_false (show ¬ (up (rg x) : Int) ≤ 1099511627776 - n by omega)]; simp
    rw [en_no eb, eb]
    clear d eb wu c2
    go_enter Try.func10, Try.ntmps10
    go_wp2_with fail
    refine G.mono ?_
    rintro e w' ⟨rfl, rfl⟩
    go_wp2_with fail
    refine W.mono ?_
    rintro e w' ⟨rfl, rfl⟩
    clear G W
    go_wp2
    all_goals go_ret2
    all_goals exact ⟨rfl, rfl⟩
  · rw [wu, decide_eq_false c2] at W
    have eb : enB n x = true := by
      unfold enB
      rw [d, decide_eq_true (show 0 ≤ n by omega), decide_eq_true (show n ≤ 1099511627776 by omega), decide_eq_true (show (up (rg x) : Int) ≤ 1099511627776 - n by omega)]; rfl
    rw [en_yes eb, eb]
    obtain ⟨g1, g2, g3⟩ := gd_rg hx d
    have hu : up (rg x) < 9007199254740992 := by omega
    obtain ⟨y, y1, y2⟩ := ceil_any x hx d (fin_up g1 hu) hu
    have C := y2 w
    have cv : ∀ w, (convert 22 3 (.float .f64 y)).run Try.prog w = .ok (.int .i64 (up (rg x) : Int)) w := fun w => run_convert_float_int w _ _ _ _ _ _ (by kernel_rfl) (by kernel_rfl) y1
    generalize up (rg x) = u at *
    clear d eb wu y1 y2 g1 g2 g3
    go_enter Try.func10, Try.ntmps10
    go_wp2_with fail
    refine G.mono ?_
    rintro e w' ⟨rfl, rfl⟩
    go_wp2_with fail
    refine W.mono ?_
    rintro e w' ⟨rfl, rfl⟩
    go_wp2_with fail
    refine C.mono ?_
    rintro e w' ⟨rfl, rfl⟩
    clear G W C
    go_wp2
    all_goals go_ret2
    all_goals exact ⟨rfl, rfl⟩

theorem refends_any (n : Int) (x : Nat) (w : World) (hx : x < 18446744073709551616) (h1 : -9223372036854775808 ≤ n) (h2 : n ≤ 9223372036854775807) :
    Calls Try.prog 11 #[.int .i64 n, .float .f64 x] w fun e w' => e = .returned (.tuple #[.int .i64 (enN n x), .bool (enB n x)]) ∧ w = w' := by
  have G := refgood_any x w hx
  cases d : gd x with
  | false =>
    have eb : enB n x = false := by unfold enB; rw [d]; rfl
    rw [en_no eb, eb]
    rw [d] at G
    clear d eb
    go_enter Try.func11, Try.ntmps11
    go_wp2_with fail
    refine G.mono ?_
    rintro e w' ⟨rfl, rfl⟩
    clear G
    go_wp2
    all_goals go_ret2
    all_goals exact ⟨rfl, rfl⟩
  | true =>
  rw [d] at G
  by_cases c0 : n < 0
  · have eb : enB n x = false := by unfold enB; rw [decide_eq_false (show ¬ 0 ≤ n by omega)]; simp
    rw [en_no eb, eb]
    clear d eb
    go_enter Try.func11, Try.ntmps11
    go_wp2_with fail
    refine G.mono ?_
    rintro e w' ⟨rfl, rfl⟩
    clear G
    go_wp2
    all_goals go_ret2
    all_goals exact ⟨rfl, rfl⟩
  by_cases c1 : 1099511627776 < n
  · have eb : enB n x = false := by unfold enB; rw [decide_eq_false (show ¬ n ≤ 1099511627776 by omega)]; simp
    rw [en_no eb, eb]
    clear d eb
    go_enter Try.func11, Try.ntmps11
    go_wp2_with fail
    refine G.mono ?_
    rintro e w' ⟨rfl, rfl⟩
    clear G
    go_wp2
    all_goals go_ret2
    all_goals exact ⟨rfl, rfl⟩
  have W := refwithin_any (1099511627776 - n) x w hx
  have wu : ∀ m : Int, 0 ≤ m → m < 9007199254740992 → wi m x = decide (m < up (rg x)) := fun m a b => wi_up m x hx a b d
  by_cases c2 : 1099511627776 - n < (up (rg x) : Int)
  · rw [wu _ (by omega) (by omega), decide_eq_true c2] at W
    have eb : enB n x = false := by unfold enB; rw [decide_eq_false (show ¬ (up (rg x) : Int) ≤ 1099511627776 - n by omega)]; simp
    rw [en_no eb, eb]
    clear d eb wu c2
    go_enter Try.func11, Try.ntmps11
    go_wp2_with fail
    refine G.mono ?_
    rintro e w' ⟨rfl, rfl⟩
    go_wp2_with fail
    refine W.mono ?_
    rintro e w' ⟨rfl, rfl⟩
    clear G W
    go_wp2
    all_goals go_ret2
    all_goals exact ⟨rfl, rfl⟩
  · rw [wu _ (by omega) (by omega), decide_eq_false c2] at W
    have eb : enB n x = true := by
      unfold enB
      rw [d, decide_eq_true (show 0 ≤ n by omega), decide_eq_true (show n ≤ 1099511627776 by omega), decide_eq_true (show (up (rg x) : Int) ≤ 1099511627776 - n by omega)]; rfl
    rw [en_yes eb, eb]
    have S : ∀ m : Int, 0 ≤ m → m < 9007199254740992 → Calls Try.prog 15 #[.int .i64 m, .float .f64 x] w fun e w' => e = .returned (.bool (decide (m < up (rg x)))) ∧ w = w' := fun m a b => by
      have := refwithin_any m x w hx
      rw [wu m a b] at this
      exact this
    have S := Lib.hid S
    generalize up (rg x) = u at *
    clear d eb wu
    have U := Lib.hid c2
    clear c2
    go_enter Try.func11, Try.ntmps11
    go_wp2_with fail
    refine G.mono ?_
    rintro e w' ⟨rfl, rfl⟩
    go_wp2_with fail
    refine W.mono ?_
    rintro e w' ⟨rfl, rfl⟩
    clear G W
    go_wp2
    go_loop [6, 7] (fun a b => ∃ (lo hi : Int), a = .int .i64 lo ∧ b = .int .i64 hi ∧ 0 ≤ lo ∧ lo ≤ u ∧ (u : Int) ≤ hi ∧ hi ≤ 1099511627776 - n) (fun a b => (intOf b - intOf a).toNat)
    case atStart => exact ⟨0, 1099511627776 - n, rfl, rfl, by omega, by omega, by have := U.out; omega, by omega⟩
    case round =>
      obtain ⟨lo, hi, rfl, rfl, r1, r2, r3, r4⟩ := hrel
      by_cases hlt : lo < hi
      · by_cases c : (lo + hi) / 2 < (u : Int)
        · have C := S.out ((lo + hi) / 2) (by omega) (by omega)
          rw [decide_eq_true c] at C
          go_wp2_with fail
          refine C.mono ?_
          rintro e w' ⟨rfl, rfl⟩
          clear C
          go_wp2
          go_round
          case rel => exact ⟨_, _, rfl, rfl, by omega, by omega, by omega, by omega⟩
          case measure => simp [intOf]; omega
        · have C := S.out ((lo + hi) / 2) (by omega) (by omega)
          rw [decide_eq_false c] at C
          go_wp2_with fail
          refine C.mono ?_
          rintro e w' ⟨rfl, rfl⟩
          clear C
          go_wp2
          go_round
          case rel => exact ⟨_, _, rfl, rfl, by omega, by omega, by omega, by omega⟩
          case measure => simp [intOf]; omega
      · have e : lo = u := by omega
        subst e
        go_wp2
        go_ret2
        exact ⟨rfl, rfl⟩
end Go.Proofs.Ythocpkmlfkbiaaa.Tm
