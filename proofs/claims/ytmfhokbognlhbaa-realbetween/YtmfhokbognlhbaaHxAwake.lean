/-
  The document's examples of layer 1: awake answers true.
-/
import Derived.Test.YtmfhokbognlhbaaHxHex
import Derived.Test.YtmfhokbognlhbaaHxUnhex
import Derived.Test.YtmfhokbognlhbaaHxDecs
namespace Go.Proofs.Ytmfhokbognlhbaa.Hx
open Go.RowKit Go.PlainAid
set_option linter.unusedVariables false

theorem aw2f : DecForm ⟨#[49, 48]⟩ := ⟨by decide, by decide, fun j hj => by
  have : ∀ j : Fin 2, 48 ≤ bt ⟨#[49, 48]⟩ j.val ∧ bt ⟨#[49, 48]⟩ j.val ≤ 57 := by decide
  exact this ⟨j, hj⟩⟩
theorem aw3f : HexForm ⟨#[48, 48, 102, 70]⟩ := ⟨by decide, by decide, fun j hj => by
  have : ∀ j : Fin 4, aok (bt ⟨#[48, 48, 102, 70]⟩ j.val) = true := by decide
  exact this ⟨j, hj⟩⟩
theorem aw4 (w : World) : Calls Try.prog 51 #[.string ⟨#[10, 255]⟩] w fun e w' => e = .returned (.string ⟨#[48, 97, 102, 102]⟩) ∧ Below w.heap.size w w' :=
  hex_any ⟨#[10, 255]⟩ w (by decide)
theorem aw5d : digL 8 9223372036854775808 = [57, 50, 50, 51, 51, 55, 50, 48, 51, 54, 56, 53, 52, 55, 55, 53, 56, 48, 56] := by
  simp [digL, hd]
end Go.Proofs.Ytmfhokbognlhbaa.Hx
