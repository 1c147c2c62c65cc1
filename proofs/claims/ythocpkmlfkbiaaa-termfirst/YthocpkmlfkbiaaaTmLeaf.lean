/-
  Contracts of term.Good, term.Within, the document's, and of the library's Ceil: what each answers for every number and age.
-/
import Derived.Test.YthocpkmlfkbiaaaTmArith
namespace Go.Proofs.Ythocpkmlfkbiaaa.Tm
open Go.RowKit Go.Proofs.Ythocpkmlfkbiaaa.Rl
set_option linter.unusedVariables false

/-- a span -/
def gd (x : Nat) : Bool := decide (-1 ≤ place x)
theorem gd_ord (x : Nat) (hx : x < 18446744073709551616) : (FloatKind.f64.format.order x 0 == some .gt || FloatKind.f64.format.order x 0 == some .eq) = gd x := by
  rw [gt_zero x hx, eq_zero x hx]
  unfold gd
  by_cases c : -1 ≤ place x
  · rw [decide_eq_true c, Bool.or_eq_true]
    by_cases d : 0 < place x
    · exact .inl (decide_eq_true d)
    · exact .inr (decide_eq_true (by omega))
  · rw [decide_eq_false c, decide_eq_false (by omega), decide_eq_false (by omega)]; rfl
theorem gd_rg {x : Nat} (hx : x < 18446744073709551616) (h : gd x = true) : rg x ≤ 9218868437227405312 ∧ kp (place x) = rg x ∧ (x = rg x ∨ x = 9223372036854775808) := by
  have r := rg_lt x
  have h := of_decide_eq_true h
  have hg : (rg x : Int) = (x : Int) % 9223372036854775808 := by unfold rg; omega
  unfold place at *
  unfold kp
  (repeat' split at *) <;> refine ⟨?_, ?_, ?_⟩ <;> (try split) <;> omega
theorem good_any (x : Nat) (w : World) (hx : x < 18446744073709551616) :
    Calls Try.prog 12 #[.float .f64 x] w fun e w' => e = .returned (.bool (gd x)) ∧ w = w' := by
  have h := gd_ord x hx
  go_enter Try.func12, Try.ntmps12
  go_wp2
  all_goals go_ret
  all_goals exact ⟨rfl, rfl⟩
theorem gd_cls (x : Nat) (hx : x < 18446744073709551616) : gd x = decide (4 ≤ cls (place x)) := by
  have := cls_of _ (place_range x hx)
  unfold gd
  congr 1; apply propext; omega
theorem refgood_any (x : Nat) (w : World) (hx : x < 18446744073709551616) :
    Calls Try.prog 13 #[.float .f64 x] w fun e w' => e = .returned (.bool (gd x)) ∧ w = w' := by
  have c := refclass_any x w hx
  rw [gd_cls x hx]
  generalize cls (place x) = k at *
  go_enter Try.func13, Try.ntmps13
  go_wp2_with fail
  refine c.mono ?_
  rintro e w' ⟨rfl, rfl⟩
  clear c
  go_wp2
  all_goals go_ret
  all_goals exact ⟨rfl, rfl⟩

/-- an age within a span -/
def wi (n : Int) (x : Nat) : Bool := decide (0 ≤ n) && (gd x && decide (fi n.toNat < rg x))
theorem ofInt_fi (n : Int) (h : 0 ≤ n) : floatOfInt .f64 n = fi n.toNat := by
  obtain ⟨m, rfl⟩ := Int.eq_ofNat_of_zero_le h
  exact (fi_eq m).1
theorem place_pos' {r : Nat} (h : r ≤ 9218868437227405312) : place r = (r : Int) := by
  have e : rg r = r := by unfold rg; omega
  unfold place; rw [e, if_neg (by omega), if_neg (by omega)]
theorem wi_ord (n : Int) (x : Nat) (hx : x < 18446744073709551616) (h : 0 ≤ n) : (FloatKind.f64.format.order (floatOfInt .f64 n) x == some .lt) = wi n x := by
  rw [ofInt_fi n h]
  obtain ⟨_, f2, _⟩ := fi_eq n.toNat
  unfold wi
  rw [decide_eq_true h, Bool.true_and]
  generalize fi n.toNat = q at *
  rw [ord_lt q x (by omega) hx, place_pos' f2, show kp (q : Int) = q by unfold kp; rw [if_neg (by omega)]]
  cases c : gd x with
  | true =>
    obtain ⟨g1, g2, g3⟩ := gd_rg hx c
    have c := of_decide_eq_true c
    rw [g2, Bool.true_and]
    congr 1; apply propext; omega
  | false =>
    have c := of_decide_eq_false c
    rw [Bool.false_and, decide_eq_false]
    unfold kp
    split <;> omega
theorem wi_neg (n : Int) (x : Nat) (h : ¬ 0 ≤ n) : wi n x = false := by unfold wi; rw [decide_eq_false h]; rfl
theorem wi_bad (n : Int) (x : Nat) (h : gd x = false) : wi n x = false := by unfold wi; rw [h]; simp
theorem within_any (n : Int) (x : Nat) (w : World) (hx : x < 18446744073709551616) :
    Calls Try.prog 14 #[.int .i64 n, .float .f64 x] w fun e w' => e = .returned (.bool (wi n x)) ∧ w = w' := by
  by_cases c : 0 ≤ n
  · have h := wi_ord n x hx c
    generalize wi n x = v at *
    go_enter Try.func14, Try.ntmps14
    go_wp2
    all_goals go_ret
    all_goals exact ⟨rfl, rfl⟩
  · rw [wi_neg n x c]
    have c' : n < 0 := by omega
    go_enter Try.func14, Try.ntmps14
    go_wp2
    all_goals go_ret
    all_goals exact ⟨rfl, rfl⟩
theorem refwithin_any (n : Int) (x : Nat) (w : World) (hx : x < 18446744073709551616) :
    Calls Try.prog 15 #[.int .i64 n, .float .f64 x] w fun e w' => e = .returned (.bool (wi n x)) ∧ w = w' := by
  have g := refgood_any x w hx
  cases d : gd x with
  | false =>
    rw [wi_bad n x d]
    rw [d] at g
    clear d
    go_enter Try.func15, Try.ntmps15
    go_wp2_with fail
    refine g.mono ?_
    rintro e w' ⟨rfl, rfl⟩
    clear g
    go_wp2
    all_goals go_ret
    all_goals exact ⟨rfl, rfl⟩
  | true =>
  rw [d] at g
  by_cases c : 0 ≤ n
  · have h := wi_ord n x hx c
    generalize wi n x = v at *
    clear d
    go_enter Try.func15, Try.ntmps15
    go_wp2_with fail
    refine g.mono ?_
    rintro e w' ⟨rfl, rfl⟩
    clear g
    go_wp2
    all_goals go_ret
    all_goals exact ⟨rfl, rfl⟩
  · rw [wi_neg n x c]
    have c' : n < 0 := by omega
    clear d
    go_enter Try.func15, Try.ntmps15
    go_wp2_with fail
    refine g.mono ?_
    rintro e w' ⟨rfl, rfl⟩
    clear g
    go_wp2
    all_goals go_ret
    all_goals exact ⟨rfl, rfl⟩

theorem wi_up (n : Int) (x : Nat) (hx : x < 18446744073709551616) (h0 : 0 ≤ n) (h1 : n < 9007199254740992) (g : gd x = true) : wi n x = decide (n < up (rg x)) := by
  unfold wi
  rw [decide_eq_true h0, g, Bool.true_and, Bool.true_and]
  congr 1; apply propext
  rw [fi_lt _ _ (by omega)]
  omega

theorem run_ceil (x : Nat) (w : World) (hx : x < 9218868437227405312) : (callFunc 39 #[.float .f64 x]).run Try.prog w = .ok (.value (.float .f64 (fi (up x)))) w := by
  rw [run_callFunc_extern (e := Extern.MathFloor.toIntegral "math.archCeil" .up) Try.func39 (by kernel_rfl) (by kernel_rfl) (by kernel_rfl) (by kernel_rfl)]
  obtain ⟨m, e, h1, _⟩ := read_pos x hx
  have h2 : FloatKind.f64.decode x = .number false m (-1074 + (e : Int)) := h1
  have h3 := ceil_bits x hx
  rw [h2] at h3
  have key : Extern.MathFloor.toIntegral "math.archCeil" .up #[.float .f64 x] = pure (.float .f64 (fi (up x))) := by
    rw [← h3]
    show Extern.MathFloor.toIntegral.match_1 (fun _ => Sem Value) (FloatKind.f64.decode x) _ _ = _
    rw [h2]
  rw [key]
  rfl
theorem run_ceil0 (w : World) : (callFunc 39 #[.float .f64 9223372036854775808]).run Try.prog w = .ok (.value (.float .f64 9223372036854775808)) w := by
  rw [run_callFunc_extern (e := Extern.MathFloor.toIntegral "math.archCeil" .up) Try.func39 (by kernel_rfl) (by kernel_rfl) (by kernel_rfl) (by kernel_rfl)]
  rfl
theorem up_zero : up 0 = 0 := by
  refine lt_ext fun t => ?_
  rw [up_iff, val_zero]
  omega
/-- the least whole number that isn't below a span, by Ceil and a conversion -/
theorem ceil_any (x : Nat) (hx : x < 18446744073709551616) (g : gd x = true) (h : rg x < 9218868437227405312) (hu : up (rg x) < 9007199254740992) :
    ∃ y, floatToIntVal .f64 y .i64 = some (up (rg x) : Int) ∧ ∀ w, Calls Try.prog 26 #[.float .f64 x] w fun e w' => e = .returned (.float .f64 y) ∧ w = w' := by
  obtain ⟨_, _, g3⟩ := gd_rg hx g
  rcases g3 with c | c
  · refine ⟨fi (up (rg x)), toInt_fi _ hu, fun w => ?_⟩
    have r : ∀ w, (callFunc 39 #[.float .f64 x]).run Try.prog w = .ok (.value (.float .f64 (fi (up (rg x))))) w := fun w => by
      have := run_ceil x w (by omega)
      rw [← c]
      exact this
    generalize fi (up (rg x)) = y at *
    clear c g h hu
    go_enter Try.func26, Try.ntmps26
    go_wp2
    all_goals go_ret
    all_goals exact ⟨rfl, rfl⟩
  · subst c
    refine ⟨9223372036854775808, ?_, fun w => ?_⟩
    · rw [show rg 9223372036854775808 = 0 by decide, up_zero]
      rfl
    · have r := run_ceil0
      go_enter Try.func26, Try.ntmps26
      go_wp2
      all_goals go_ret
      all_goals exact ⟨rfl, rfl⟩
end Go.Proofs.Ythocpkmlfkbiaaa.Tm
