/-
  Contracts of IsToken and Low of the document's answers.
-/
import Derived.Test.YtdldoklkenhopaaGreatDoorSet6
import Derived.Test.YtdldoklkenhopaaGreatDoorFiRef
namespace Go.Proofs.YtdldoklkenhopaaGreatDoor.Fi
open Go.RowKit Go.PlainAid
open Hx
set_option linter.unusedVariables false
set_option maxRecDepth 20000
set_option linter.unusedSimpArgs false

theorem low_snoc {s : ByteArray} {k : Nat} {x : UInt8} (h : (ls s)[k]? = some x) : low ((ls s).take (k + 1)) = low ((ls s).take k) ++ [lowB x] := by
  rw [List.take_add_one, h]; simp [low]
end Go.Proofs.YtdldoklkenhopaaGreatDoor.Fi
