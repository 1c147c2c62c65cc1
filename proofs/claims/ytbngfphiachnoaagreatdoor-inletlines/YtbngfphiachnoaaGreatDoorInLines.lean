/-
  The walk of InletLines.
-/
import Derived.Test.YtbngfphiachnoaaGreatDoorInAwake
import Derived.Test.YtbngfphiachnoaaGreatDoorInRefL
namespace Go.Proofs.YtbngfphiachnoaaGreatDoor.In
open Go.RowKit Go.PlainAid
open Hx Fi Ch
set_option linter.unusedVariables false
set_option maxRecDepth 20000
set_option linter.unusedSimpArgs false

theorem str_self (s : ByteArray) : (s.toList == s.toList) = true := by simp
set_option maxHeartbeats 1000000 in
theorem walkLines (s : ByteArray) (w : World) (hs0 : s.size ≤ maxLen) :
    Calls Tryz.prog 4 #[.string s] w fun e w' => e = .returned (.bool true) ∧ Below w.heap.size w w' := by
  have hs : s.size ≤ 9223372036854775807 := by unfold maxLen at hs0; exact hs0
  clear hs0
  by_cases h : 4096 < s.size
  · have g : (4096 : Int) < (s.size : Int) := by omega
    go_enter Tryz.func4, Tryz.ntmps4
    go_wp2_with fail
    refine (awake_any _).mono ?_
    rintro e w1 ⟨rfl, F1⟩
    go_wp2
    go_ret
    exact ⟨rfl, F1⟩
  · have g : ¬ (4096 : Int) < (s.size : Int) := by omega
    have r1 := fun w => line_any s w (by omega)
    have r2 := fun w => rline_any s w (by omega)
    cases hq : lnQ (ls s) with
    | error st =>
      rw [hq] at r1 r2
      simp only [ln_err] at r1 r2
      clear hq
      have gs : (st == st) = true := by simp
      go_enter Tryz.func4, Tryz.ntmps4
      go_wp2_with fail
      refine (awake_any _).mono ?_
      rintro e w1 ⟨rfl, F1⟩
      go_wp2_with fail
      refine (r1 _).mono ?_
      rintro e w2 ⟨rfl, F2⟩
      replace F1 := F1.trans (F2.mono F1.size)
      clear r1 F2
      go_wp2_with fail
      refine (r2 _).mono ?_
      rintro e w3 ⟨rfl, F2⟩
      replace F1 := F1.trans (F2.mono F1.size)
      clear r2 F2
      go_wp2
      go_ret
      exact ⟨rfl, F1⟩
    | ok p =>
      obtain ⟨m, t, k⟩ := p
      rw [hq] at r1 r2
      simp only [ln_ok] at r1 r2
      clear hq
      generalize tx m = M at *
      generalize tx t = TT at *
      have gm := str_self M
      have gt := str_self TT
      have gs : ((k : Int) == (k : Int)) = true := by simp
      go_enter Tryz.func4, Tryz.ntmps4
      go_wp2_with fail
      refine (awake_any _).mono ?_
      rintro e w1 ⟨rfl, F1⟩
      go_wp2_with fail
      refine (r1 _).mono ?_
      rintro e w2 ⟨rfl, F2⟩
      replace F1 := F1.trans (F2.mono F1.size)
      clear r1 F2
      go_wp2_with fail
      refine (r2 _).mono ?_
      rintro e w3 ⟨rfl, F2⟩
      replace F1 := F1.trans (F2.mono F1.size)
      clear r2 F2
      go_wp2
      go_ret
      exact ⟨rfl, F1⟩
end Go.Proofs.YtbngfphiachnoaaGreatDoor.In
