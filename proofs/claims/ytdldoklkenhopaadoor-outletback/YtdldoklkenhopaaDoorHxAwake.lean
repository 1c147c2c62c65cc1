/-
  The document's examples of layer 1: awake answers true.
-/
import Derived.Test.YtdldoklkenhopaaDoorHxHex
import Derived.Test.YtdldoklkenhopaaDoorHxUnhex
import Derived.Test.YtdldoklkenhopaaDoorHxDecs
namespace Go.Proofs.YtdldoklkenhopaaDoor.Hx
open Go.RowKit Go.PlainAid
set_option linter.unusedVariables false
set_option maxRecDepth 20000

theorem aw2f : DecForm ⟨#[49, 48]⟩ := ⟨by decide, by decide, fun j hj => by
  have : ∀ j : Fin 2, 48 ≤ bt ⟨#[49, 48]⟩ j.val ∧ bt ⟨#[49, 48]⟩ j.val ≤ 57 := by decide
  exact this ⟨j, hj⟩⟩
theorem aw3f : HexForm ⟨#[48, 48, 102, 70]⟩ := ⟨by decide, by decide, fun j hj => by
  have : ∀ j : Fin 4, aok (bt ⟨#[48, 48, 102, 70]⟩ j.val) = true := by decide
  exact this ⟨j, hj⟩⟩
theorem aw5d : digL 8 9223372036854775808 = [57, 50, 50, 51, 51, 55, 50, 48, 51, 54, 56, 53, 52, 55, 55, 53, 56, 48, 56] := by
  simp [digL, hd]
theorem aw5 (w : World) : Calls Tryd.prog 17 #[.int .i64 (-9223372036854775808)] w fun e w' => e = .returned (.string ⟨#[45, 57, 50, 50, 51, 51, 55, 50, 48, 51, 54, 56, 53, 52, 55, 55, 53, 56, 48, 56]⟩) ∧ Below w.heap.size w w' := by
  have h := dec_neg (-9223372036854775808) w (by decide) (by decide)
  rw [show (- -9223372036854775808 : Int).toNat = 9223372036854775808 by decide, aw5d] at h
  exact h

end Go.Proofs.YtdldoklkenhopaaDoor.Hx
