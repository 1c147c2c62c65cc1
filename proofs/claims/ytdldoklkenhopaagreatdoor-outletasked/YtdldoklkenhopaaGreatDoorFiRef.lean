/-
  Contracts of IsToken, Text, Find and Low of the document's answers.
-/
import Derived.Test.YtdldoklkenhopaaGreatDoorSet2
import Derived.Test.YtdldoklkenhopaaGreatDoorSet2
namespace Go.Proofs.YtdldoklkenhopaaGreatDoor.Fi
open Go.RowKit Go.PlainAid
open Hx
set_option linter.unusedVariables false
set_option maxRecDepth 20000
set_option linter.unusedSimpArgs false

/-! ### Find -/
def NoneTo (b : UInt8) (s : ByteArray) (k : Nat) : Prop := ∀ j, j < k → (ls s)[j]? ≠ some b
/-- the place of the first byte b -/
def findI (b : UInt8) (l : List UInt8) : Int := match cutB b l with | none => -1 | some (x, _) => x.length
theorem find_yes {b : UInt8} {l x y : List UInt8} (h : cutB b l = some (x, y)) : findI b l = x.length := by unfold findI; rw [h]
theorem find_no {b : UInt8} {l : List UInt8} (h : cutB b l = none) : findI b l = -1 := by unfold findI; rw [h]
end Go.Proofs.YtdldoklkenhopaaGreatDoor.Fi
