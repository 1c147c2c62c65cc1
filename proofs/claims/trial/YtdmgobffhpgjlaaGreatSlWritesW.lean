/-
  SlipWrites, walked.
-/
import Derived.Test.YtdmgobffhpgjlaaGreatSlRef2
import Derived.Test.YtdmgobffhpgjlaaGreatSlAwake
import Derived.Test.YtdmgobffhpgjlaaGreatSlOpen

namespace Go.Proofs.YtdmgobffhpgjlaaGreat.Sl
open Go.RowKit Go.PlainAid Go.Proofs.YtdmgobffhpgjlaaGreat.Cr
set_option linter.unusedVariables false
set_option maxRecDepth 20000
set_option linter.unusedSimpArgs false

/-- what the law holds: its slip -/
structure Sw (w0 w : World) (B : Nat) (x : Sp) : Prop where
  box : At w B 39 (slV x)
  bel : Below w0.heap.size w0 w
theorem Sw.below {w0 w w' : World} {B : Nat} {x : Sp} (h : Sw w0 w B x) (hb : Below w.heap.size w w') : Sw w0 w' B x := ⟨h.box.old hb, h.bel.trans (hb.mono h.bel.size)⟩
theorem Sw.drew {w0 w : World} {B : Nat} {x : Sp} (h : Sw w0 w B x) : Sw w0 w.drew B x := h.below ((Below.refl _ _).drew)
end Go.Proofs.YtdmgobffhpgjlaaGreat.Sl
