/-
  Contracts of Reason, of the program's and the document's, and of Bodyless.
-/
import Derived.Test.YtdldoklkenhopaaDoorOuMath
import Derived.Test.YtdldoklkenhopaaDoorFiTok
namespace Go.Proofs.YtdldoklkenhopaaDoor.Ou
open Go.RowKit Go.PlainAid
open Hx Fi Ch In
set_option linter.unusedVariables false
set_option maxRecDepth 20000
set_option linter.unusedSimpArgs false

theorem rea_none {n : Int} (h200 : ¬ n = 200) (h206 : ¬ n = 206) (h304 : ¬ n = 304) (h400 : ¬ n = 400) (h404 : ¬ n = 404) (h405 : ¬ n = 405) (h406 : ¬ n = 406) (h413 : ¬ n = 413) (h416 : ¬ n = 416) (h431 : ¬ n = 431) (h502 : ¬ n = 502) (h503 : ¬ n = 503) (h504 : ¬ n = 504) (h505 : ¬ n = 505) : reaB n = ⟨#[85, 110, 107, 110, 111, 119, 110]⟩ := by
  unfold reaB
  rw [if_neg h200, if_neg h206, if_neg h304, if_neg h400, if_neg h404, if_neg h405, if_neg h406, if_neg h413, if_neg h416, if_neg h431, if_neg h502, if_neg h503, if_neg h504, if_neg h505]
set_option maxHeartbeats 2000000 in
theorem reason_any (n : Int) (w : World) :
    Calls Tryd.prog 10 #[.int .i64 n] w fun e w' => e = .returned (.string (reaB n)) ∧ w = w' := by
  by_cases h200 : n = 200
  · subst h200
    skip
    go_enter Tryd.func10, Tryd.ntmps10
    go_wp2
    go_ret
    exact ⟨rfl, rfl⟩
  by_cases h206 : n = 206
  · subst h206
    clear h200
    go_enter Tryd.func10, Tryd.ntmps10
    go_wp2
    go_ret
    exact ⟨rfl, rfl⟩
  by_cases h304 : n = 304
  · subst h304
    clear h200 h206
    go_enter Tryd.func10, Tryd.ntmps10
    go_wp2
    go_ret
    exact ⟨rfl, rfl⟩
  by_cases h400 : n = 400
  · subst h400
    clear h200 h206 h304
    go_enter Tryd.func10, Tryd.ntmps10
    go_wp2
    go_ret
    exact ⟨rfl, rfl⟩
  by_cases h404 : n = 404
  · subst h404
    clear h200 h206 h304 h400
    go_enter Tryd.func10, Tryd.ntmps10
    go_wp2
    go_ret
    exact ⟨rfl, rfl⟩
  by_cases h405 : n = 405
  · subst h405
    clear h200 h206 h304 h400 h404
    go_enter Tryd.func10, Tryd.ntmps10
    go_wp2
    go_ret
    exact ⟨rfl, rfl⟩
  by_cases h406 : n = 406
  · subst h406
    clear h200 h206 h304 h400 h404 h405
    go_enter Tryd.func10, Tryd.ntmps10
    go_wp2
    go_ret
    exact ⟨rfl, rfl⟩
  by_cases h413 : n = 413
  · subst h413
    clear h200 h206 h304 h400 h404 h405 h406
    go_enter Tryd.func10, Tryd.ntmps10
    go_wp2
    go_ret
    exact ⟨rfl, rfl⟩
  by_cases h416 : n = 416
  · subst h416
    clear h200 h206 h304 h400 h404 h405 h406 h413
    go_enter Tryd.func10, Tryd.ntmps10
    go_wp2
    go_ret
    exact ⟨rfl, rfl⟩
  by_cases h431 : n = 431
  · subst h431
    clear h200 h206 h304 h400 h404 h405 h406 h413 h416
    go_enter Tryd.func10, Tryd.ntmps10
    go_wp2
    go_ret
    exact ⟨rfl, rfl⟩
  by_cases h502 : n = 502
  · subst h502
    clear h200 h206 h304 h400 h404 h405 h406 h413 h416 h431
    go_enter Tryd.func10, Tryd.ntmps10
    go_wp2
    go_ret
    exact ⟨rfl, rfl⟩
  by_cases h503 : n = 503
  · subst h503
    clear h200 h206 h304 h400 h404 h405 h406 h413 h416 h431 h502
    go_enter Tryd.func10, Tryd.ntmps10
    go_wp2
    go_ret
    exact ⟨rfl, rfl⟩
  by_cases h504 : n = 504
  · subst h504
    clear h200 h206 h304 h400 h404 h405 h406 h413 h416 h431 h502 h503
    go_enter Tryd.func10, Tryd.ntmps10
    go_wp2
    go_ret
    exact ⟨rfl, rfl⟩
  by_cases h505 : n = 505
  · subst h505
    clear h200 h206 h304 h400 h404 h405 h406 h413 h416 h431 h502 h503 h504
    go_enter Tryd.func10, Tryd.ntmps10
    go_wp2
    go_ret
    exact ⟨rfl, rfl⟩
  rw [rea_none h200 h206 h304 h400 h404 h405 h406 h413 h416 h431 h502 h503 h504 h505]
  have g200 : (n == 200) = false := beq_eq_false_iff_ne.2 h200
  have g206 : (n == 206) = false := beq_eq_false_iff_ne.2 h206
  have g304 : (n == 304) = false := beq_eq_false_iff_ne.2 h304
  have g400 : (n == 400) = false := beq_eq_false_iff_ne.2 h400
  have g404 : (n == 404) = false := beq_eq_false_iff_ne.2 h404
  have g405 : (n == 405) = false := beq_eq_false_iff_ne.2 h405
  have g406 : (n == 406) = false := beq_eq_false_iff_ne.2 h406
  have g413 : (n == 413) = false := beq_eq_false_iff_ne.2 h413
  have g416 : (n == 416) = false := beq_eq_false_iff_ne.2 h416
  have g431 : (n == 431) = false := beq_eq_false_iff_ne.2 h431
  have g502 : (n == 502) = false := beq_eq_false_iff_ne.2 h502
  have g503 : (n == 503) = false := beq_eq_false_iff_ne.2 h503
  have g504 : (n == 504) = false := beq_eq_false_iff_ne.2 h504
  have g505 : (n == 505) = false := beq_eq_false_iff_ne.2 h505
  clear h200 h206 h304 h400 h404 h405 h406 h413 h416 h431 h502 h503 h504 h505
  go_enter Tryd.func10, Tryd.ntmps10
  go_wp2
  go_ret
  exact ⟨rfl, rfl⟩
set_option maxHeartbeats 2000000 in
theorem rreason_any (n : Int) (w : World) :
    Calls Tryd.prog 11 #[.int .i64 n] w fun e w' => e = .returned (.string (reaB n)) ∧ w = w' := by
  by_cases h200 : n = 200
  · subst h200
    skip
    go_enter Tryd.func11, Tryd.ntmps11
    go_wp2
    go_ret
    exact ⟨rfl, rfl⟩
  by_cases h206 : n = 206
  · subst h206
    clear h200
    go_enter Tryd.func11, Tryd.ntmps11
    go_wp2
    go_ret
    exact ⟨rfl, rfl⟩
  by_cases h304 : n = 304
  · subst h304
    clear h200 h206
    go_enter Tryd.func11, Tryd.ntmps11
    go_wp2
    go_ret
    exact ⟨rfl, rfl⟩
  by_cases h400 : n = 400
  · subst h400
    clear h200 h206 h304
    go_enter Tryd.func11, Tryd.ntmps11
    go_wp2
    go_ret
    exact ⟨rfl, rfl⟩
  by_cases h404 : n = 404
  · subst h404
    clear h200 h206 h304 h400
    go_enter Tryd.func11, Tryd.ntmps11
    go_wp2
    go_ret
    exact ⟨rfl, rfl⟩
  by_cases h405 : n = 405
  · subst h405
    clear h200 h206 h304 h400 h404
    go_enter Tryd.func11, Tryd.ntmps11
    go_wp2
    go_ret
    exact ⟨rfl, rfl⟩
  by_cases h406 : n = 406
  · subst h406
    clear h200 h206 h304 h400 h404 h405
    go_enter Tryd.func11, Tryd.ntmps11
    go_wp2
    go_ret
    exact ⟨rfl, rfl⟩
  by_cases h413 : n = 413
  · subst h413
    clear h200 h206 h304 h400 h404 h405 h406
    go_enter Tryd.func11, Tryd.ntmps11
    go_wp2
    go_ret
    exact ⟨rfl, rfl⟩
  by_cases h416 : n = 416
  · subst h416
    clear h200 h206 h304 h400 h404 h405 h406 h413
    go_enter Tryd.func11, Tryd.ntmps11
    go_wp2
    go_ret
    exact ⟨rfl, rfl⟩
  by_cases h431 : n = 431
  · subst h431
    clear h200 h206 h304 h400 h404 h405 h406 h413 h416
    go_enter Tryd.func11, Tryd.ntmps11
    go_wp2
    go_ret
    exact ⟨rfl, rfl⟩
  by_cases h502 : n = 502
  · subst h502
    clear h200 h206 h304 h400 h404 h405 h406 h413 h416 h431
    go_enter Tryd.func11, Tryd.ntmps11
    go_wp2
    go_ret
    exact ⟨rfl, rfl⟩
  by_cases h503 : n = 503
  · subst h503
    clear h200 h206 h304 h400 h404 h405 h406 h413 h416 h431 h502
    go_enter Tryd.func11, Tryd.ntmps11
    go_wp2
    go_ret
    exact ⟨rfl, rfl⟩
  by_cases h504 : n = 504
  · subst h504
    clear h200 h206 h304 h400 h404 h405 h406 h413 h416 h431 h502 h503
    go_enter Tryd.func11, Tryd.ntmps11
    go_wp2
    go_ret
    exact ⟨rfl, rfl⟩
  by_cases h505 : n = 505
  · subst h505
    clear h200 h206 h304 h400 h404 h405 h406 h413 h416 h431 h502 h503 h504
    go_enter Tryd.func11, Tryd.ntmps11
    go_wp2
    go_ret
    exact ⟨rfl, rfl⟩
  rw [rea_none h200 h206 h304 h400 h404 h405 h406 h413 h416 h431 h502 h503 h504 h505]
  have g200 : (n == 200) = false := beq_eq_false_iff_ne.2 h200
  have g206 : (n == 206) = false := beq_eq_false_iff_ne.2 h206
  have g304 : (n == 304) = false := beq_eq_false_iff_ne.2 h304
  have g400 : (n == 400) = false := beq_eq_false_iff_ne.2 h400
  have g404 : (n == 404) = false := beq_eq_false_iff_ne.2 h404
  have g405 : (n == 405) = false := beq_eq_false_iff_ne.2 h405
  have g406 : (n == 406) = false := beq_eq_false_iff_ne.2 h406
  have g413 : (n == 413) = false := beq_eq_false_iff_ne.2 h413
  have g416 : (n == 416) = false := beq_eq_false_iff_ne.2 h416
  have g431 : (n == 431) = false := beq_eq_false_iff_ne.2 h431
  have g502 : (n == 502) = false := beq_eq_false_iff_ne.2 h502
  have g503 : (n == 503) = false := beq_eq_false_iff_ne.2 h503
  have g504 : (n == 504) = false := beq_eq_false_iff_ne.2 h504
  have g505 : (n == 505) = false := beq_eq_false_iff_ne.2 h505
  clear h200 h206 h304 h400 h404 h405 h406 h413 h416 h431 h502 h503 h504 h505
  go_enter Tryd.func11, Tryd.ntmps11
  go_wp2
  go_ret
  exact ⟨rfl, rfl⟩
def boF (n : Int) (head : Bool) : Bool := head || decide (100 ≤ n ∧ n ≤ 199) || decide (n = 204) || decide (n = 304)
set_option maxHeartbeats 2000000 in
theorem bodyless_any (n : Int) (head : Bool) (w : World) :
    Calls Tryd.prog 12 #[.int .i64 n, .bool head] w fun e w' => e = .returned (.bool (boF n head)) ∧ w = w' := by
  cases head with
  | true =>
    go_enter Tryd.func12, Tryd.ntmps12
    go_wp2
    go_ret
    exact ⟨rfl, rfl⟩
  | false =>
    by_cases h4 : n = 204
    · subst h4
      go_enter Tryd.func12, Tryd.ntmps12
      go_wp2
      go_ret
      exact ⟨rfl, rfl⟩
    by_cases h3 : n = 304
    · subst h3
      go_enter Tryd.func12, Tryd.ntmps12
      go_wp2
      go_ret
      exact ⟨rfl, rfl⟩
    have g4 : (n == 204) = false := beq_eq_false_iff_ne.2 h4
    have g3 : (n == 304) = false := beq_eq_false_iff_ne.2 h3
    by_cases h1 : (100 : Int) ≤ n
    · by_cases h2 : n ≤ 199
      · rw [show boF n false = true by unfold boF; simp [h1, h2]]
        clear h3 h4
        go_enter Tryd.func12, Tryd.ntmps12
        go_wp2
        go_ret
        exact ⟨rfl, rfl⟩
      · rw [show boF n false = false by unfold boF; simp [h1, h2, h3, h4]]
        clear h3 h4
        go_enter Tryd.func12, Tryd.ntmps12
        go_wp2
        go_ret
        exact ⟨rfl, rfl⟩
    · rw [show boF n false = false by unfold boF; simp [h1, h3, h4]]
      clear h3 h4
      go_enter Tryd.func12, Tryd.ntmps12
      go_wp2
      go_ret
      exact ⟨rfl, rfl⟩
end Go.Proofs.YtdldoklkenhopaaDoor.Ou
