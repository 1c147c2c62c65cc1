/-
  The document's examples of layer 1: awake answers true.
-/
import Derived.Test.YtjdfninaccaagaaDoorHxHex
import Derived.Test.YtjdfninaccaagaaDoorHxUnhex
import Derived.Test.YtjdfninaccaagaaDoorHxDecs
namespace Go.Proofs.YtjdfninaccaagaaDoor.Hx
open Go.RowKit Go.PlainAid
set_option linter.unusedVariables false
set_option maxRecDepth 20000

theorem aw2f : DecForm ⟨#[49, 48]⟩ := ⟨by decide, by decide, fun j hj => by
  have : ∀ j : Fin 2, 48 ≤ bt ⟨#[49, 48]⟩ j.val ∧ bt ⟨#[49, 48]⟩ j.val ≤ 57 := by decide
  exact this ⟨j, hj⟩⟩
theorem aw3f : HexForm ⟨#[48, 48, 102, 70]⟩ := ⟨by decide, by decide, fun j hj => by
  have : ∀ j : Fin 4, aok (bt ⟨#[48, 48, 102, 70]⟩ j.val) = true := by decide
  exact this ⟨j, hj⟩⟩
theorem aw3 (w : World) : Calls Tryd.prog 47 #[.string ⟨#[48, 48, 102, 70]⟩, .int .i64 300] w fun e w' => e = .returned (.tuple #[.int .i64 255, .int .i64 0]) ∧ w = w' :=
  unhexnum_yes ⟨#[48, 48, 102, 70]⟩ 300 w aw3f (by decide) (by decide)
theorem aw5d : digL 8 9223372036854775808 = [57, 50, 50, 51, 51, 55, 50, 48, 51, 54, 56, 53, 52, 55, 55, 53, 56, 48, 56] := by
  simp [digL, hd]
end Go.Proofs.YtjdfninaccaagaaDoor.Hx
