/-
  The document's examples of layer 1: awake answers true.
-/
import Derived.Test.YteomimlmgjikjaaHxHex
import Derived.Test.YteomimlmgjikjaaHxUnhex
import Derived.Test.YteomimlmgjikjaaHxDecs
namespace Go.Proofs.Yteomimlmgjikjaa.Hx
open Go.RowKit Go.PlainAid
set_option linter.unusedVariables false

theorem aw1 (w : World) : Calls Try.prog 12 #[.string ⟨#[48, 48, 55]⟩, .int .i64 9] w fun e w' => e = .returned (.tuple #[.int .i64 0, .int .i64 3]) ∧ w = w' :=
  undec_form _ _ w (by decide) (fun h => h.2.1 (by decide) (by decide))
theorem aw2f : DecForm ⟨#[49, 48]⟩ := ⟨by decide, by decide, fun j hj => by
  have : ∀ j : Fin 2, 48 ≤ bt ⟨#[49, 48]⟩ j.val ∧ bt ⟨#[49, 48]⟩ j.val ≤ 57 := by decide
  exact this ⟨j, hj⟩⟩
theorem aw2 (w : World) : Calls Try.prog 12 #[.string ⟨#[49, 48]⟩, .int .i64 9] w fun e w' => e = .returned (.tuple #[.int .i64 0, .int .i64 14]) ∧ w = w' :=
  undec_short ⟨#[49, 48]⟩ 9 w aw2f (by decide) (by decide) (by decide)
theorem aw3f : HexForm ⟨#[48, 48, 102, 70]⟩ := ⟨by decide, by decide, fun j hj => by
  have : ∀ j : Fin 4, aok (bt ⟨#[48, 48, 102, 70]⟩ j.val) = true := by decide
  exact this ⟨j, hj⟩⟩
theorem aw3 (w : World) : Calls Try.prog 14 #[.string ⟨#[48, 48, 102, 70]⟩, .int .i64 300] w fun e w' => e = .returned (.tuple #[.int .i64 255, .int .i64 0]) ∧ w = w' :=
  unhexnum_yes ⟨#[48, 48, 102, 70]⟩ 300 w aw3f (by decide) (by decide)
theorem aw4 (w : World) : Calls Try.prog 10 #[.string ⟨#[10, 255]⟩] w fun e w' => e = .returned (.string ⟨#[48, 97, 102, 102]⟩) ∧ Below w.heap.size w w' :=
  hex_any ⟨#[10, 255]⟩ w (by decide)
theorem aw5d : digL 8 9223372036854775808 = [57, 50, 50, 51, 51, 55, 50, 48, 51, 54, 56, 53, 52, 55, 55, 53, 56, 48, 56] := by
  simp [digL, hd]
theorem aw5 (w : World) : Calls Try.prog 16 #[.int .i64 (-9223372036854775808)] w fun e w' => e = .returned (.string ⟨#[45, 57, 50, 50, 51, 51, 55, 50, 48, 51, 54, 56, 53, 52, 55, 55, 53, 56, 48, 56]⟩) ∧ Below w.heap.size w w' := by
  have h := dec_neg (-9223372036854775808) w (by decide) (by decide)
  rw [show (- -9223372036854775808 : Int).toNat = 9223372036854775808 by decide, aw5d] at h
  exact h

set_option maxHeartbeats 800000 in
theorem awake_any (w : World) : Calls Try.prog 7 #[] w fun e w' => e = .returned (.bool true) ∧ Below w.heap.size w w' := by
  go_enter Try.func7, Try.ntmps7
  go_wp2_with fail
  refine (aw1 _).mono ?_
  rintro e w' ⟨rfl, rfl⟩
  go_wp2_with fail
  refine (aw2 _).mono ?_
  rintro e w' ⟨rfl, rfl⟩
  go_wp2_with fail
  refine (aw3 _).mono ?_
  rintro e w' ⟨rfl, rfl⟩
  go_wp2_with fail
  refine (aw4 _).mono ?_
  rintro e w1 ⟨rfl, hb1⟩
  go_wp2_with fail
  refine (aw5 _).mono ?_
  rintro e w2 ⟨rfl, hb2⟩
  go_wp2
  go_ret
  exact ⟨rfl, hb1.trans (hb2.mono hb1.size)⟩
end Go.Proofs.Yteomimlmgjikjaa.Hx
