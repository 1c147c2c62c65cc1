/-
  No cell of these rows narrows 'for every input' (looked for: loops, veiled, ifaces, maps, wideKeys, modest, calm, conditions, laid).
  DERIVED. THE GIVEN ROWS OF THIS SEAT. 4 by the template 'for every input the law returns true; each argument reads behind the call as it read before'; 0 by the template 'total and deterministic' (their statements: YtahalddoloppmaaTotals.lean).
  GIVEN WITH THE SEED: the statements are not yours to turn. If you find one false, say at which input.
  Laid BY PROGRAM, IN A SANDBOX (cutbox-rows.mjs): the forced cells as the released guide's own fill.sh prints them over the translation 30d66e8952a28bae… (all of the seat's roots in one cut). By AI agents, Wed Nov 11 2026. No macro, syntax, notation, axiom, sorry.
-/
import Derived.Test.YtahalddoloppmaaChecked
import GoSem.Claim
import GoSem.ClaimJoined
import GoSem.ClaimMapViews
import Derived.JoinedTies
import Derived.KernelRfl
namespace Go.Proofs.Ytahalddoloppmaa
/- THE CELL 'sum', in the pinned program and in every row, IS THE sha256 OF THE DUMP (.gsa) THAT YtahalddoloppmaaProg.lean LOADS. Nothing in Lean hashes anything: it is a label: what it is worth is what the hold of that sum in a sandbox is worth. -/
noncomputable def Try.pinned : Pinned := { name := "ytahalddoloppmaa", sum := "30d66e8952a28bae070774b7aa51c1118823cb2a4d5b90761906c5b2fc84797f", checked := Try.checked }
namespace Rows
def none {H : Type} : Left H := { results := [], args := [] }

/-- 'manciplelaw08.SlipWrites': WHATEVER THE INPUT: true; the input reads as it did. -/
def slipWritesSpec : ChangeSpec := { name := "slipWrites", fn := fun _ => fun
  | [d] => { results := [.lit (.bool true)], args := [d] }
  | _ => none }
def slipWritesRow : OpenClaim := { program := "ytahalddoloppmaa", sum := "30d66e8952a28bae070774b7aa51c1118823cb2a4d5b90761906c5b2fc84797f", func := "manciple/manciplelaw08.SlipWrites", spec := "slipWrites", inPlace := ["internal/abi.NoEscape"], apart := false }
def SlipWritesSaid : Prop := slipWritesRow.holds Try.pinned (OpenSpec.ofChange slipWritesSpec)

/-- ITS FALSE NEIGHBOUR: 'it returns false'. Refute it at one input. -/
def slipWritesWrong : ChangeSpec := { name := "slipWrites", fn := fun _ => fun
  | [d] => { results := [.lit (.bool false)], args := [d] }
  | _ => none }
def SlipWritesWrongFalsely : Prop := slipWritesRow.holds Try.pinned (OpenSpec.ofChange slipWritesWrong)

/-- 'manciplelaw08.SlipReads': WHATEVER THE INPUT: true; the input reads as it did. -/
def slipReadsSpec : ChangeSpec := { name := "slipReads", fn := fun _ => fun
  | [d] => { results := [.lit (.bool true)], args := [d] }
  | _ => none }
def slipReadsRow : OpenClaim := { program := "ytahalddoloppmaa", sum := "30d66e8952a28bae070774b7aa51c1118823cb2a4d5b90761906c5b2fc84797f", func := "manciple/manciplelaw08.SlipReads", spec := "slipReads", inPlace := ["internal/abi.NoEscape"], apart := false }
def SlipReadsSaid : Prop := slipReadsRow.holds Try.pinned (OpenSpec.ofChange slipReadsSpec)

/-- ITS FALSE NEIGHBOUR: 'it returns false'. Refute it at one input. -/
def slipReadsWrong : ChangeSpec := { name := "slipReads", fn := fun _ => fun
  | [d] => { results := [.lit (.bool false)], args := [d] }
  | _ => none }
def SlipReadsWrongFalsely : Prop := slipReadsRow.holds Try.pinned (OpenSpec.ofChange slipReadsWrong)

/-- 'manciplelaw08.SlipBack': WHATEVER THE INPUT: true; the input reads as it did. -/
def slipBackSpec : ChangeSpec := { name := "slipBack", fn := fun _ => fun
  | [d1, d2] => { results := [.lit (.bool true)], args := [d1, d2] }
  | _ => none }
def slipBackRow : OpenClaim := { program := "ytahalddoloppmaa", sum := "30d66e8952a28bae070774b7aa51c1118823cb2a4d5b90761906c5b2fc84797f", func := "manciple/manciplelaw08.SlipBack", spec := "slipBack", inPlace := ["internal/abi.NoEscape"], apart := false }
def SlipBackSaid : Prop := slipBackRow.holds Try.pinned (OpenSpec.ofChange slipBackSpec)

/-- ITS FALSE NEIGHBOUR: 'it returns false'. Refute it at one input. -/
def slipBackWrong : ChangeSpec := { name := "slipBack", fn := fun _ => fun
  | [d1, d2] => { results := [.lit (.bool false)], args := [d1, d2] }
  | _ => none }
def SlipBackWrongFalsely : Prop := slipBackRow.holds Try.pinned (OpenSpec.ofChange slipBackWrong)

/-- 'manciplelaw08.SlipTorn': WHATEVER THE INPUT: true; the input reads as it did. -/
def slipTornSpec : ChangeSpec := { name := "slipTorn", fn := fun _ => fun
  | [d1, d2, d3, d4] => { results := [.lit (.bool true)], args := [d1, d2, d3, d4] }
  | _ => none }
def slipTornRow : OpenClaim := { program := "ytahalddoloppmaa", sum := "30d66e8952a28bae070774b7aa51c1118823cb2a4d5b90761906c5b2fc84797f", func := "manciple/manciplelaw08.SlipTorn", spec := "slipTorn", inPlace := ["internal/abi.NoEscape"], apart := false }
def SlipTornSaid : Prop := slipTornRow.holds Try.pinned (OpenSpec.ofChange slipTornSpec)

/-- ITS FALSE NEIGHBOUR: 'it returns false'. Refute it at one input. -/
def slipTornWrong : ChangeSpec := { name := "slipTorn", fn := fun _ => fun
  | [d1, d2, d3, d4] => { results := [.lit (.bool false)], args := [d1, d2, d3, d4] }
  | _ => none }
def SlipTornWrongFalsely : Prop := slipTornRow.holds Try.pinned (OpenSpec.ofChange slipTornWrong)

/- THE SECOND FORM. 'bulk': how many values and letters a reading holds, each counted each time it is reached (what is shared counts as often as it is met; a slice's spare places count too). A statement '..UptoSaid' is the law's where the arguments, and the package variables that the reading takes, are together of bulk at most 1048576: NARROWER than '..Said'. Prove '..Said' where nothing that the law and all that it calls make is longer than what came in: it says more and counts as full. Else prove '..UptoSaid'. A law counts once. -/
mutual
def uptoBulk {H : Type} : DataW H → Nat
  | .lit (.string bytes) => bytes.length + 1
  | .lit _ => 1
  | .nil => 1
  | .ptr d => uptoBulk d + 1
  | .slice elems spare => uptoBulkAll elems + uptoBulkAll spare + 1
  | .agg parts => uptoBulkAll parts + 1
  | .iface _ d => uptoBulk d + 1
  | .map entries => uptoBulkEntries entries + 1
  | .held _ => 1
def uptoBulkAll {H : Type} : List (DataW H) → Nat
  | [] => 0
  | d :: r => uptoBulk d + uptoBulkAll r
def uptoBulkEntries {H : Type} : List (Lit × DataW H) → Nat
  | [] => 0
  | x :: r => uptoBulkEntry x + uptoBulkEntries r
def uptoBulkEntry {H : Type} : Lit × DataW H → Nat
  | (.string bytes, d) => bytes.length + uptoBulk d + 1
  | (_, d) => uptoBulk d + 1
 end
def uptoSmall : (H : Type) → List (DataW H) → Bool := fun _ ds => decide (uptoBulkAll ds ≤ 1048576)
def OpenSpec.upto (s : _root_.Go.ChangeSpec) : _root_.Go.OpenSpec := { _root_.Go.OpenSpec.ofChange s with cond := some uptoSmall }

/-- 'manciplelaw08.SlipWrites', WHERE WHAT IT READS IS OF BULK AT MOST 1048576: true; the input reads as it did. -/
def slipWritesUptoRow : OpenClaim := { program := "ytahalddoloppmaa", sum := "30d66e8952a28bae070774b7aa51c1118823cb2a4d5b90761906c5b2fc84797f", func := "manciple/manciplelaw08.SlipWrites", spec := "slipWrites", inPlace := ["internal/abi.NoEscape"], apart := false, narrowed := true }
def SlipWritesUptoSaid : Prop := slipWritesUptoRow.holds Try.pinned (OpenSpec.upto slipWritesSpec)

/-- 'manciplelaw08.SlipReads', WHERE WHAT IT READS IS OF BULK AT MOST 1048576: true; the input reads as it did. -/
def slipReadsUptoRow : OpenClaim := { program := "ytahalddoloppmaa", sum := "30d66e8952a28bae070774b7aa51c1118823cb2a4d5b90761906c5b2fc84797f", func := "manciple/manciplelaw08.SlipReads", spec := "slipReads", inPlace := ["internal/abi.NoEscape"], apart := false, narrowed := true }
def SlipReadsUptoSaid : Prop := slipReadsUptoRow.holds Try.pinned (OpenSpec.upto slipReadsSpec)

/-- 'manciplelaw08.SlipBack', WHERE WHAT IT READS IS OF BULK AT MOST 1048576: true; the input reads as it did. -/
def slipBackUptoRow : OpenClaim := { program := "ytahalddoloppmaa", sum := "30d66e8952a28bae070774b7aa51c1118823cb2a4d5b90761906c5b2fc84797f", func := "manciple/manciplelaw08.SlipBack", spec := "slipBack", inPlace := ["internal/abi.NoEscape"], apart := false, narrowed := true }
def SlipBackUptoSaid : Prop := slipBackUptoRow.holds Try.pinned (OpenSpec.upto slipBackSpec)

/-- 'manciplelaw08.SlipTorn', WHERE WHAT IT READS IS OF BULK AT MOST 1048576: true; the input reads as it did. -/
def slipTornUptoRow : OpenClaim := { program := "ytahalddoloppmaa", sum := "30d66e8952a28bae070774b7aa51c1118823cb2a4d5b90761906c5b2fc84797f", func := "manciple/manciplelaw08.SlipTorn", spec := "slipTorn", inPlace := ["internal/abi.NoEscape"], apart := false, narrowed := true }
def SlipTornUptoSaid : Prop := slipTornUptoRow.holds Try.pinned (OpenSpec.upto slipTornSpec)

end Rows
end Go.Proofs.Ytahalddoloppmaa
