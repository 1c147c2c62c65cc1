/-
  No cell of these rows narrows 'for every input' (looked for: loops, veiled, ifaces, maps, wideKeys, modest, calm, conditions, laid).
  DERIVED. THE GIVEN ROWS OF THIS SEAT. 4 by the template 'for every input the law returns true; each argument reads behind the call as it read before'; 0 by the template 'total and deterministic' (their statements: YteomimlmgjikjaaTotals.lean).
  GIVEN WITH THE SEED: the statements are not yours to turn. If you find one false, say at which input.
  Laid BY PROGRAM, IN A SANDBOX (cutbox-rows.mjs): the forced cells as the released guide's own fill.sh prints them over the translation fe11dc92367afc1d… (all of the seat's roots in one cut). By AI agents, Wed Nov 11 2026. No macro, syntax, notation, axiom, sorry.
-/
import Derived.Test.YteomimlmgjikjaaChecked
import GoSem.Claim
import GoSem.ClaimJoined
import GoSem.ClaimMapViews
import Derived.JoinedTies
import Derived.KernelRfl
namespace Go.Proofs.Yteomimlmgjikjaa
/- THE CELL 'sum', in the pinned program and in every row, IS THE sha256 OF THE DUMP (.gsa) THAT YteomimlmgjikjaaProg.lean LOADS. Nothing in Lean hashes anything: it is a label: what it is worth is what the hold of that sum in a sandbox is worth. -/
noncomputable def Try.pinned : Pinned := { name := "yteomimlmgjikjaa", sum := "fe11dc92367afc1d448dfe27042c980bc353f88de9a2c344cf0583c67c9edd58", checked := Try.checked }
namespace Rows
def none {H : Type} : Left H := { results := [], args := [] }

/-- 'manciplelaw01.HexaBytes': WHATEVER THE INPUT: true; the input reads as it did. -/
def hexaBytesSpec : ChangeSpec := { name := "hexaBytes", fn := fun _ => fun
  | [d] => { results := [.lit (.bool true)], args := [d] }
  | _ => none }
def hexaBytesRow : OpenClaim := { program := "yteomimlmgjikjaa", sum := "fe11dc92367afc1d448dfe27042c980bc353f88de9a2c344cf0583c67c9edd58", func := "manciple/manciplelaw01.HexaBytes", spec := "hexaBytes", apart := false }
def HexaBytesSaid : Prop := hexaBytesRow.holds Try.pinned (OpenSpec.ofChange hexaBytesSpec)

/-- ITS FALSE NEIGHBOUR: 'it returns false'. Refute it at one input. -/
def hexaBytesWrong : ChangeSpec := { name := "hexaBytes", fn := fun _ => fun
  | [d] => { results := [.lit (.bool false)], args := [d] }
  | _ => none }
def HexaBytesWrongFalsely : Prop := hexaBytesRow.holds Try.pinned (OpenSpec.ofChange hexaBytesWrong)

/-- 'manciplelaw01.HexaNumbers': WHATEVER THE INPUT: true; the input reads as it did. -/
def hexaNumbersSpec : ChangeSpec := { name := "hexaNumbers", fn := fun _ => fun
  | [d1, d2, d3] => { results := [.lit (.bool true)], args := [d1, d2, d3] }
  | _ => none }
def hexaNumbersRow : OpenClaim := { program := "yteomimlmgjikjaa", sum := "fe11dc92367afc1d448dfe27042c980bc353f88de9a2c344cf0583c67c9edd58", func := "manciple/manciplelaw01.HexaNumbers", spec := "hexaNumbers", recurses := true, apart := false }
def HexaNumbersSaid : Prop := hexaNumbersRow.holds Try.pinned (OpenSpec.ofChange hexaNumbersSpec)

/-- ITS FALSE NEIGHBOUR: 'it returns false'. Refute it at one input. -/
def hexaNumbersWrong : ChangeSpec := { name := "hexaNumbers", fn := fun _ => fun
  | [d1, d2, d3] => { results := [.lit (.bool false)], args := [d1, d2, d3] }
  | _ => none }
def HexaNumbersWrongFalsely : Prop := hexaNumbersRow.holds Try.pinned (OpenSpec.ofChange hexaNumbersWrong)

/-- 'manciplelaw01.HexaBack': WHATEVER THE INPUT: true; the input reads as it did. -/
def hexaBackSpec : ChangeSpec := { name := "hexaBack", fn := fun _ => fun
  | [d] => { results := [.lit (.bool true)], args := [d] }
  | _ => none }
def hexaBackRow : OpenClaim := { program := "yteomimlmgjikjaa", sum := "fe11dc92367afc1d448dfe27042c980bc353f88de9a2c344cf0583c67c9edd58", func := "manciple/manciplelaw01.HexaBack", spec := "hexaBack", apart := false }
def HexaBackSaid : Prop := hexaBackRow.holds Try.pinned (OpenSpec.ofChange hexaBackSpec)

/-- ITS FALSE NEIGHBOUR: 'it returns false'. Refute it at one input. -/
def hexaBackWrong : ChangeSpec := { name := "hexaBack", fn := fun _ => fun
  | [d] => { results := [.lit (.bool false)], args := [d] }
  | _ => none }
def HexaBackWrongFalsely : Prop := hexaBackRow.holds Try.pinned (OpenSpec.ofChange hexaBackWrong)

/-- 'manciplelaw01.HexaCounts': WHATEVER THE INPUT: true; the input reads as it did. -/
def hexaCountsSpec : ChangeSpec := { name := "hexaCounts", fn := fun _ => fun
  | [d1, d2] => { results := [.lit (.bool true)], args := [d1, d2] }
  | _ => none }
def hexaCountsRow : OpenClaim := { program := "yteomimlmgjikjaa", sum := "fe11dc92367afc1d448dfe27042c980bc353f88de9a2c344cf0583c67c9edd58", func := "manciple/manciplelaw01.HexaCounts", spec := "hexaCounts", apart := false }
def HexaCountsSaid : Prop := hexaCountsRow.holds Try.pinned (OpenSpec.ofChange hexaCountsSpec)

/-- ITS FALSE NEIGHBOUR: 'it returns false'. Refute it at one input. -/
def hexaCountsWrong : ChangeSpec := { name := "hexaCounts", fn := fun _ => fun
  | [d1, d2] => { results := [.lit (.bool false)], args := [d1, d2] }
  | _ => none }
def HexaCountsWrongFalsely : Prop := hexaCountsRow.holds Try.pinned (OpenSpec.ofChange hexaCountsWrong)

/- THE SECOND FORM. 'bulk': how many values and letters a reading holds, each counted each time it is reached (what is shared counts as often as it is met; a slice's spare places count too). A statement '..UptoSaid' is the law's where the arguments, and the package variables that the reading takes, are together of bulk at most 1048576: NARROWER than '..Said'. Prove '..Said' where nothing that the law and all that it calls make is longer than what came in: it says more and counts as full. Else prove '..UptoSaid'. A law counts once. -/
mutual
def uptoBulk {H : Type} : DataW H → Nat
  | .lit (.string bytes) => bytes.length + 1
  | .lit _ => 1
  | .nil => 1
  | .ptr d => uptoBulk d + 1
  | .slice elems spare => uptoBulkAll elems + uptoBulkAll spare + 1
  | .agg parts => uptoBulkAll parts + 1
  | .iface _ d => uptoBulk d + 1
  | .map entries => uptoBulkEntries entries + 1
  | .held _ => 1
def uptoBulkAll {H : Type} : List (DataW H) → Nat
  | [] => 0
  | d :: r => uptoBulk d + uptoBulkAll r
def uptoBulkEntries {H : Type} : List (Lit × DataW H) → Nat
  | [] => 0
  | x :: r => uptoBulkEntry x + uptoBulkEntries r
def uptoBulkEntry {H : Type} : Lit × DataW H → Nat
  | (.string bytes, d) => bytes.length + uptoBulk d + 1
  | (_, d) => uptoBulk d + 1
 end
def uptoSmall : (H : Type) → List (DataW H) → Bool := fun _ ds => decide (uptoBulkAll ds ≤ 1048576)
def OpenSpec.upto (s : _root_.Go.ChangeSpec) : _root_.Go.OpenSpec := { _root_.Go.OpenSpec.ofChange s with cond := some uptoSmall }

/-- 'manciplelaw01.HexaBytes', WHERE WHAT IT READS IS OF BULK AT MOST 1048576: true; the input reads as it did. -/
def hexaBytesUptoRow : OpenClaim := { program := "yteomimlmgjikjaa", sum := "fe11dc92367afc1d448dfe27042c980bc353f88de9a2c344cf0583c67c9edd58", func := "manciple/manciplelaw01.HexaBytes", spec := "hexaBytes", apart := false, narrowed := true }
def HexaBytesUptoSaid : Prop := hexaBytesUptoRow.holds Try.pinned (OpenSpec.upto hexaBytesSpec)

/-- 'manciplelaw01.HexaNumbers', WHERE WHAT IT READS IS OF BULK AT MOST 1048576: true; the input reads as it did. -/
def hexaNumbersUptoRow : OpenClaim := { program := "yteomimlmgjikjaa", sum := "fe11dc92367afc1d448dfe27042c980bc353f88de9a2c344cf0583c67c9edd58", func := "manciple/manciplelaw01.HexaNumbers", spec := "hexaNumbers", recurses := true, apart := false, narrowed := true }
def HexaNumbersUptoSaid : Prop := hexaNumbersUptoRow.holds Try.pinned (OpenSpec.upto hexaNumbersSpec)

/-- 'manciplelaw01.HexaBack', WHERE WHAT IT READS IS OF BULK AT MOST 1048576: true; the input reads as it did. -/
def hexaBackUptoRow : OpenClaim := { program := "yteomimlmgjikjaa", sum := "fe11dc92367afc1d448dfe27042c980bc353f88de9a2c344cf0583c67c9edd58", func := "manciple/manciplelaw01.HexaBack", spec := "hexaBack", apart := false, narrowed := true }
def HexaBackUptoSaid : Prop := hexaBackUptoRow.holds Try.pinned (OpenSpec.upto hexaBackSpec)

/-- 'manciplelaw01.HexaCounts', WHERE WHAT IT READS IS OF BULK AT MOST 1048576: true; the input reads as it did. -/
def hexaCountsUptoRow : OpenClaim := { program := "yteomimlmgjikjaa", sum := "fe11dc92367afc1d448dfe27042c980bc353f88de9a2c344cf0583c67c9edd58", func := "manciple/manciplelaw01.HexaCounts", spec := "hexaCounts", apart := false, narrowed := true }
def HexaCountsUptoSaid : Prop := hexaCountsUptoRow.holds Try.pinned (OpenSpec.upto hexaCountsSpec)

end Rows
end Go.Proofs.Yteomimlmgjikjaa
