/-
  The document's examples of layer 5: awake answers true.
-/
import Derived.Test.YtmfhokbognlhbaaRlQual3
namespace Go.Proofs.Ytmfhokbognlhbaa.Rl
open Go.RowKit Go.PlainAid
open Hx
set_option linter.unusedVariables false

theorem aq1 (w : World) : Calls Try.prog 24 #[.string ⟨#[48, 46, 53]⟩] w fun e w' => e = .returned (.tuple #[.float .f64 4602678819172646912, .int .i64 0]) ∧ Below w.heap.size w w' := by
  have f : QForm ⟨#[48, 46, 53]⟩ := ⟨by decide, by decide, by decide, by decide, fun j hj => by
    obtain rfl : j = 0 := by have : j < 1 := hj
                             omega
    decide⟩
  refine (quality_any _ w (by decide)).mono fun e w' ⟨q, hb⟩ => ⟨?_, hb⟩
  rcases q with ⟨_, q⟩ | ⟨q, _⟩
  · rw [q, show rat (qN ⟨#[48, 46, 53]⟩) (10 ^ ((⟨#[48, 46, 53]⟩ : ByteArray).size - 2)) = 4602678819172646912 by decide +kernel]
  · exact absurd f q
theorem aq2 (w : World) : Calls Try.prog 24 #[.string ⟨#[49, 46, 49]⟩] w fun e w' => e = .returned (.tuple #[.float .f64 0, .int .i64 3]) ∧ Below w.heap.size w w' := by
  have f : ¬ QForm ⟨#[49, 46, 49]⟩ := fun h => by
    have := (h.2.2.2.2 0 (by decide)).2
    revert this
    decide
  refine (quality_any _ w (by decide)).mono fun e w' ⟨q, hb⟩ => ⟨?_, hb⟩
  rcases q with ⟨q, _⟩ | ⟨_, q⟩
  · exact absurd q f
  · exact q
theorem aq3 (w : World) : Calls Try.prog 28 #[.int .i64 0, .int .i64 0] w fun e w' => e = .returned (.float .f64 9221120237041090560) ∧ w = w' := by
  have := ratio_any 0 0 w (by decide) (by decide) (by decide) (by decide)
  rw [show rat 0 0 = 9221120237041090560 by decide +kernel] at this
  exact this
theorem aq4 (w : World) : Calls Try.prog 28 #[.int .i64 (-3), .int .i64 0] w fun e w' => e = .returned (.float .f64 18442240474082181120) ∧ w = w' := by
  have := ratio_any (-3) 0 w (by decide) (by decide) (by decide) (by decide)
  rw [show rat (-3) 0 = 18442240474082181120 by decide +kernel] at this
  exact this
theorem aq5 (w : World) : Calls Try.prog 28 #[.int .i64 1, .int .i64 4] w fun e w' => e = .returned (.float .f64 4598175219545276416) ∧ w = w' := by
  have := ratio_any 1 4 w (by decide) (by decide) (by decide) (by decide)
  rw [show rat 1 4 = 4598175219545276416 by decide +kernel] at this
  exact this
theorem aq6 (w : World) : Calls Try.prog 10 #[.float .f64 9221120237041090560] w fun e w' => e = .returned (.int .i64 1) ∧ w = w' := by
  have := class_any 9221120237041090560 w (by decide)
  rw [show cls (place 9221120237041090560) = 1 by decide] at this
  exact this
theorem aq7 (w : World) : Calls Try.prog 10 #[.float .f64 18442240474082181120] w fun e w' => e = .returned (.int .i64 2) ∧ w = w' := by
  have := class_any 18442240474082181120 w (by decide)
  rw [show cls (place 18442240474082181120) = 2 by decide] at this
  exact this
theorem prt_one : prt 4607182418800017408 = ⟨#[51, 102, 102, 48, 48, 48, 48, 48, 48, 48, 48, 48, 48, 48, 48, 48]⟩ := by kernel_rfl
theorem aq8 (w : World) : Calls Try.prog 26 #[.float .f64 4607182418800017408] w fun e w' => e = .returned (.string ⟨#[51, 102, 102, 48, 48, 48, 48, 48, 48, 48, 48, 48, 48, 48, 48, 48]⟩) ∧ Below w.heap.size w w' := by
  have := print_any 4607182418800017408 w (by decide)
  rw [prt_one] at this
  exact this
theorem ord_half : (FloatKind.f64.format.order 4602678819172646912 4602678819172646912 == some .eq) = true := by decide +kernel
theorem ord_quarter : (FloatKind.f64.format.order 4598175219545276416 4598175219545276416 == some .eq) = true := by decide +kernel

set_option maxHeartbeats 1600000 in
theorem awake_any (w : World) : Calls Try.prog 9 #[] w fun e w' => e = .returned (.bool true) ∧ Below w.heap.size w w' := by
  have o1 := ord_half
  have o2 := ord_quarter
  go_enter Try.func9, Try.ntmps9
  go_wp2_with fail
  refine (aq1 _).mono ?_
  rintro e w1 ⟨rfl, hb1⟩
  go_wp2_with fail
  refine (aq2 _).mono ?_
  rintro e w2 ⟨rfl, hb2⟩
  have hb3 := hb1.trans (hb2.mono hb1.size)
  clear hb1 hb2
  go_wp2_with fail
  refine (aq3 _).mono ?_
  rintro e w' ⟨rfl, rfl⟩
  go_wp2_with fail
  refine (aq6 _).mono ?_
  rintro e w' ⟨rfl, rfl⟩
  go_wp2_with fail
  refine (aq4 _).mono ?_
  rintro e w' ⟨rfl, rfl⟩
  go_wp2_with fail
  refine (aq7 _).mono ?_
  rintro e w' ⟨rfl, rfl⟩
  go_wp2_with fail
  refine (aq8 _).mono ?_
  rintro e w3 ⟨rfl, hb4⟩
  have hb5 := hb3.trans (hb4.mono hb3.size)
  clear hb3 hb4
  go_wp2_with fail
  refine (aq5 _).mono ?_
  rintro e w' ⟨rfl, rfl⟩
  go_wp2
  go_ret
  exact ⟨rfl, hb5⟩
end Go.Proofs.Ytmfhokbognlhbaa.Rl
