/-
  The library's Ldexp at (1, 1000): 2^1000; NaN: a NaN.
-/
import Derived.Test.YtmfhokbognlhbaaRlFloat
namespace Go.Proofs.Ytmfhokbognlhbaa.Rl
open Go.RowKit
set_option linter.unusedVariables false

theorem libnan (w : World) : Calls Try.prog 34 #[] w fun e w' => e = .returned (.float .f64 9221120237041090561) ∧ w = w' := by
  have r2 := run_from
  go_enter Try.func34, Try.ntmps34
  go_wp2
  all_goals go_ret
  all_goals exact ⟨rfl, rfl⟩
theorem norm_one (w : World) : Calls Try.prog 52 #[.float .f64 4607182418800017408] w fun e w' => e = .returned (.tuple #[.float .f64 4607182418800017408, .int .i64 0]) ∧ w = w' := by
  have a := abs_any 4607182418800017408 w (by decide)
  rw [show rg 4607182418800017408 = 4607182418800017408 by decide] at a
  have o : (FloatKind.f64.format.order 4607182418800017408 4503599627370496 == some .lt) = false := by decide +kernel
  go_enter Try.func52, Try.ntmps52
  go_wp2_with fail
  refine a.mono ?_
  rintro e w' ⟨rfl, rfl⟩
  clear a
  go_wp2
  all_goals go_ret2
  all_goals exact ⟨rfl, rfl⟩
theorem ldexp_one (w : World) : Calls Try.prog 47 #[.float .f64 4607182418800017408, .int .i64 1000] w fun e w' => e = .returned (.float .f64 9110782046170513408) ∧ w = w' := by
  have n := norm_one w
  have i1 := isInf_zero 4607182418800017408 w (by decide)
  rw [show (decide (place 4607182418800017408 = -9218868437227405313) || decide (place 4607182418800017408 = 9218868437227405312)) = false by decide] at i1
  have i2 := isNaN_any 4607182418800017408 w (by decide)
  rw [show isN 4607182418800017408 = false by decide] at i2
  have o : (FloatKind.f64.format.order 4607182418800017408 0 == some .eq) = false := by decide +kernel
  have r1 := run_bits
  have r2 := run_from
  have b1 : bits .and .i64 1023 2047 = 1023 := by decide +kernel
  have b2 : bits .andNot .u64 4607182418800017408 9218868437227405312 = 0 := by decide +kernel
  have b3 : bits .or .u64 0 9110782046170513408 = 9110782046170513408 := by decide +kernel
  have hm : ∀ t w, (binOp .mul t (.float .f64 4607182418800017408) (.float .f64 9110782046170513408)).run Try.prog w = .ok (.float .f64 9110782046170513408) w := fun t w => run_float_arith w .mul t .f64 _ _ _ (by decide +kernel)
  go_enter Try.func47, Try.ntmps47
  go_wp2_with fail
  refine i1.mono ?_
  rintro e w' ⟨rfl, rfl⟩
  go_wp2_with fail
  refine i2.mono ?_
  rintro e w' ⟨rfl, rfl⟩
  go_wp2_with fail
  refine n.mono ?_
  rintro e w' ⟨rfl, rfl⟩
  clear n i1 i2
  go_wp2
  all_goals go_ret
  all_goals exact ⟨rfl, rfl⟩
theorem great (w : World) : Calls Try.prog 32 #[.float .f64 4607182418800017408, .int .i64 1000] w fun e w' => e = .returned (.float .f64 9110782046170513408) ∧ w = w' := by
  have l := ldexp_one w
  go_enter Try.func32, Try.ntmps32
  go_wp2_with fail
  refine l.mono ?_
  rintro e w' ⟨rfl, rfl⟩
  clear l
  go_wp2
  all_goals go_ret
  all_goals exact ⟨rfl, rfl⟩
end Go.Proofs.Ytmfhokbognlhbaa.Rl
