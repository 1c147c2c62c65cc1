/-
  The document's examples of layer 8: awake answers true; great.
-/
import Derived.Test.YtdmgobffhpgjlaaGreatSlAll
namespace Go.Proofs.YtdmgobffhpgjlaaGreat.Sl
open Go.RowKit Go.PlainAid Go.Proofs.YtdmgobffhpgjlaaGreat.Cr
set_option linter.unusedVariables false
set_option maxRecDepth 20000
set_option linter.unusedSimpArgs false

def d7 : List Nat := 7 :: List.replicate 31 0
def x0 : Sp := ⟨5, none8, none8, d7, none8, 0, 0⟩
end Go.Proofs.YtdmgobffhpgjlaaGreat.Sl
