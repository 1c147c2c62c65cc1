/-
  NARROWER THAN 'FOR EVERY INPUT', by the rows' own cells (each row's printed sentence says how): InletReads: laid · InletLines: laid · InletCuts: laid · InletStrict: laid · InletPipes: laid.
  DERIVED. THE GIVEN ROWS OF THIS SEAT. 5 by the template 'for every input the law returns true; each argument reads behind the call as it read before'; 0 by the template 'total and deterministic' (their statements: YtbngfphiachnoaaGreatDoorTotals.lean).
  GIVEN WITH THE SEED: the statements are not yours to turn. If you find one false, say at which input.
  Laid BY PROGRAM, IN A SANDBOX (cutbox-rows.mjs): the forced cells as the released guide's own fill.sh prints them over the translation 09d18d9af848715a… (all of the seat's roots in one cut). By AI agents, Wed Nov 11 2026. No macro, syntax, notation, axiom, sorry.
-/
import Derived.Test.YtbngfphiachnoaaGreatDoorChecked
import GoSem.PinnedTables
import GoSem.Claim
import GoSem.ClaimJoined
import GoSem.ClaimMapViews
import Derived.JoinedTies
import Derived.KernelRfl
namespace Go.Proofs.YtbngfphiachnoaaGreatDoor
/- THE CELL 'sum', in the pinned program and in every row, IS THE sha256 OF THE DUMP (.gsa) THAT YtbngfphiachnoaaGreatDoorProg.lean LOADS. Nothing in Lean hashes anything: it is a label: what it is worth is what the hold of that sum in a sandbox is worth. -/
noncomputable def Tryz.pinned : Pinned := { name := "ytbngfphiachnoaagreatdoor", sum := "09d18d9af848715a7c6950b4fa239bf611988a8f84daf6505a2b4db155220247", checked := Tryz.checked }
namespace Rows
def none {H : Type} : Left H := { results := [], args := [] }

/- WHAT THE LISTED PACKAGE-LEVEL VARIABLES READ AS WHEN THE CALL BEGINS. Each datum BY PROGRAM (the guide's laid-datum.mjs) off the statement by which the dump's own 'gosem.cut.vars' lays the variable. In a bare row this is a premise. The card (YtbngfphiachnoaaGreatDoorCards.lean) ties it to the program's text. -/
def laid_unicode_utf8_acceptRanges {H : Type} : DataW H := .agg [.agg [.lit (.int .u8 128), .lit (.int .u8 191)], .agg [.lit (.int .u8 160), .lit (.int .u8 191)], .agg [.lit (.int .u8 128), .lit (.int .u8 159)], .agg [.lit (.int .u8 144), .lit (.int .u8 191)], .agg [.lit (.int .u8 128), .lit (.int .u8 143)], .agg [.lit (.int .u8 0), .lit (.int .u8 0)], .agg [.lit (.int .u8 0), .lit (.int .u8 0)], .agg [.lit (.int .u8 0), .lit (.int .u8 0)], .agg [.lit (.int .u8 0), .lit (.int .u8 0)], .agg [.lit (.int .u8 0), .lit (.int .u8 0)], .agg [.lit (.int .u8 0), .lit (.int .u8 0)], .agg [.lit (.int .u8 0), .lit (.int .u8 0)], .agg [.lit (.int .u8 0), .lit (.int .u8 0)], .agg [.lit (.int .u8 0), .lit (.int .u8 0)], .agg [.lit (.int .u8 0), .lit (.int .u8 0)], .agg [.lit (.int .u8 0), .lit (.int .u8 0)]]
/-- One of Go's own tables, pinned by name: the form's constant. -/
def laid_unicode_utf8_first : DataW Unit := Go.Pinned.utf8First

/-- 'manciplelaw12.InletReads': WHATEVER THE INPUT: true; the input reads as it did. -/
def inletReadsSpec : ChangeSpec := { name := "inletReads", fn := fun _ => fun
  | [d] => { results := [.lit (.bool true)], args := [d] }
  | _ => none }
def inletReadsRow : OpenClaim := { program := "ytbngfphiachnoaagreatdoor", sum := "09d18d9af848715a7c6950b4fa239bf611988a8f84daf6505a2b4db155220247", func := "manciple/manciplelaw12.InletReads", spec := "inletReads", inPlace := ["internal/bytealg.IndexByte", "internal/bytealg.IndexByteString", "internal/bytealg.IndexString"], unfollowed := true, recurses := true, named := ["internal/bytealg.MaxLen", "unicode/utf8.first", "unicode/utf8.acceptRanges"], apart := false, laid := [("unicode/utf8.acceptRanges", laid_unicode_utf8_acceptRanges), ("unicode/utf8.first", laid_unicode_utf8_first)] }
def InletReadsSaid : Prop := inletReadsRow.holds Tryz.pinned (OpenSpec.ofChange inletReadsSpec)

/-- ITS FALSE NEIGHBOUR: 'it returns false'. Refute it at one input. -/
def inletReadsWrong : ChangeSpec := { name := "inletReads", fn := fun _ => fun
  | [d] => { results := [.lit (.bool false)], args := [d] }
  | _ => none }
def InletReadsWrongFalsely : Prop := inletReadsRow.holds Tryz.pinned (OpenSpec.ofChange inletReadsWrong)

/-- 'manciplelaw12.InletLines': WHATEVER THE INPUT: true; the input reads as it did. -/
def inletLinesSpec : ChangeSpec := { name := "inletLines", fn := fun _ => fun
  | [d] => { results := [.lit (.bool true)], args := [d] }
  | _ => none }
def inletLinesRow : OpenClaim := { program := "ytbngfphiachnoaagreatdoor", sum := "09d18d9af848715a7c6950b4fa239bf611988a8f84daf6505a2b4db155220247", func := "manciple/manciplelaw12.InletLines", spec := "inletLines", inPlace := ["internal/bytealg.IndexByte", "internal/bytealg.IndexByteString", "internal/bytealg.IndexString"], unfollowed := true, recurses := true, named := ["internal/bytealg.MaxLen", "unicode/utf8.first", "unicode/utf8.acceptRanges"], apart := false, laid := [("unicode/utf8.acceptRanges", laid_unicode_utf8_acceptRanges), ("unicode/utf8.first", laid_unicode_utf8_first)] }
def InletLinesSaid : Prop := inletLinesRow.holds Tryz.pinned (OpenSpec.ofChange inletLinesSpec)

/-- ITS FALSE NEIGHBOUR: 'it returns false'. Refute it at one input. -/
def inletLinesWrong : ChangeSpec := { name := "inletLines", fn := fun _ => fun
  | [d] => { results := [.lit (.bool false)], args := [d] }
  | _ => none }
def InletLinesWrongFalsely : Prop := inletLinesRow.holds Tryz.pinned (OpenSpec.ofChange inletLinesWrong)

/-- 'manciplelaw12.InletCuts': WHATEVER THE INPUT: true; the input reads as it did. -/
def inletCutsSpec : ChangeSpec := { name := "inletCuts", fn := fun _ => fun
  | [d1, d2] => { results := [.lit (.bool true)], args := [d1, d2] }
  | _ => none }
def inletCutsRow : OpenClaim := { program := "ytbngfphiachnoaagreatdoor", sum := "09d18d9af848715a7c6950b4fa239bf611988a8f84daf6505a2b4db155220247", func := "manciple/manciplelaw12.InletCuts", spec := "inletCuts", inPlace := ["internal/bytealg.IndexByte", "internal/bytealg.IndexByteString", "internal/bytealg.IndexString"], unfollowed := true, recurses := true, named := ["internal/bytealg.MaxLen", "unicode/utf8.first", "unicode/utf8.acceptRanges"], apart := false, laid := [("unicode/utf8.acceptRanges", laid_unicode_utf8_acceptRanges), ("unicode/utf8.first", laid_unicode_utf8_first)] }
def InletCutsSaid : Prop := inletCutsRow.holds Tryz.pinned (OpenSpec.ofChange inletCutsSpec)

/-- ITS FALSE NEIGHBOUR: 'it returns false'. Refute it at one input. -/
def inletCutsWrong : ChangeSpec := { name := "inletCuts", fn := fun _ => fun
  | [d1, d2] => { results := [.lit (.bool false)], args := [d1, d2] }
  | _ => none }
def InletCutsWrongFalsely : Prop := inletCutsRow.holds Tryz.pinned (OpenSpec.ofChange inletCutsWrong)

/-- 'manciplelaw12.InletStrict': WHATEVER THE INPUT: true; the input reads as it did. -/
def inletStrictSpec : ChangeSpec := { name := "inletStrict", fn := fun _ => fun
  | [d1, d2] => { results := [.lit (.bool true)], args := [d1, d2] }
  | _ => none }
def inletStrictRow : OpenClaim := { program := "ytbngfphiachnoaagreatdoor", sum := "09d18d9af848715a7c6950b4fa239bf611988a8f84daf6505a2b4db155220247", func := "manciple/manciplelaw12.InletStrict", spec := "inletStrict", inPlace := ["internal/bytealg.IndexByte", "internal/bytealg.IndexByteString", "internal/bytealg.IndexString"], unfollowed := true, recurses := true, named := ["internal/bytealg.MaxLen", "unicode/utf8.first", "unicode/utf8.acceptRanges"], apart := false, laid := [("unicode/utf8.acceptRanges", laid_unicode_utf8_acceptRanges), ("unicode/utf8.first", laid_unicode_utf8_first)] }
def InletStrictSaid : Prop := inletStrictRow.holds Tryz.pinned (OpenSpec.ofChange inletStrictSpec)

/-- ITS FALSE NEIGHBOUR: 'it returns false'. Refute it at one input. -/
def inletStrictWrong : ChangeSpec := { name := "inletStrict", fn := fun _ => fun
  | [d1, d2] => { results := [.lit (.bool false)], args := [d1, d2] }
  | _ => none }
def InletStrictWrongFalsely : Prop := inletStrictRow.holds Tryz.pinned (OpenSpec.ofChange inletStrictWrong)

/-- 'manciplelaw12.InletPipes': WHATEVER THE INPUT: true; the input reads as it did. -/
def inletPipesSpec : ChangeSpec := { name := "inletPipes", fn := fun _ => fun
  | [d1, d2] => { results := [.lit (.bool true)], args := [d1, d2] }
  | _ => none }
def inletPipesRow : OpenClaim := { program := "ytbngfphiachnoaagreatdoor", sum := "09d18d9af848715a7c6950b4fa239bf611988a8f84daf6505a2b4db155220247", func := "manciple/manciplelaw12.InletPipes", spec := "inletPipes", inPlace := ["internal/bytealg.IndexByte", "internal/bytealg.IndexByteString", "internal/bytealg.IndexString"], unfollowed := true, recurses := true, named := ["internal/bytealg.MaxLen", "unicode/utf8.first", "unicode/utf8.acceptRanges"], apart := false, laid := [("unicode/utf8.acceptRanges", laid_unicode_utf8_acceptRanges), ("unicode/utf8.first", laid_unicode_utf8_first)] }
def InletPipesSaid : Prop := inletPipesRow.holds Tryz.pinned (OpenSpec.ofChange inletPipesSpec)

/-- ITS FALSE NEIGHBOUR: 'it returns false'. Refute it at one input. -/
def inletPipesWrong : ChangeSpec := { name := "inletPipes", fn := fun _ => fun
  | [d1, d2] => { results := [.lit (.bool false)], args := [d1, d2] }
  | _ => none }
def InletPipesWrongFalsely : Prop := inletPipesRow.holds Tryz.pinned (OpenSpec.ofChange inletPipesWrong)

/- THE SECOND FORM. 'bulk': how many values and letters a reading holds, each counted each time it is reached (what is shared counts as often as it is met; a slice's spare places count too). A statement '..UptoSaid' is the law's where the arguments, and the package variables that the reading takes, are together of bulk at most 1048576: NARROWER than '..Said'. Prove '..Said' where nothing that the law and all that it calls make is longer than what came in: it says more and counts as full. Else prove '..UptoSaid'. A law counts once. -/
mutual
def uptoBulk {H : Type} : DataW H → Nat
  | .lit (.string bytes) => bytes.length + 1
  | .lit _ => 1
  | .nil => 1
  | .ptr d => uptoBulk d + 1
  | .slice elems spare => uptoBulkAll elems + uptoBulkAll spare + 1
  | .agg parts => uptoBulkAll parts + 1
  | .iface _ d => uptoBulk d + 1
  | .map entries => uptoBulkEntries entries + 1
  | .held _ => 1
def uptoBulkAll {H : Type} : List (DataW H) → Nat
  | [] => 0
  | d :: r => uptoBulk d + uptoBulkAll r
def uptoBulkEntries {H : Type} : List (Lit × DataW H) → Nat
  | [] => 0
  | x :: r => uptoBulkEntry x + uptoBulkEntries r
def uptoBulkEntry {H : Type} : Lit × DataW H → Nat
  | (.string bytes, d) => bytes.length + uptoBulk d + 1
  | (_, d) => uptoBulk d + 1
 end
def uptoSmall : (H : Type) → List (DataW H) → Bool := fun _ ds => decide (uptoBulkAll ds ≤ 1048576)
def OpenSpec.upto (s : _root_.Go.ChangeSpec) : _root_.Go.OpenSpec := { _root_.Go.OpenSpec.ofChange s with cond := some uptoSmall }

/-- 'manciplelaw12.InletReads', WHERE WHAT IT READS IS OF BULK AT MOST 1048576: true; the input reads as it did. -/
def inletReadsUptoRow : OpenClaim := { program := "ytbngfphiachnoaagreatdoor", sum := "09d18d9af848715a7c6950b4fa239bf611988a8f84daf6505a2b4db155220247", func := "manciple/manciplelaw12.InletReads", spec := "inletReads", inPlace := ["internal/bytealg.IndexByte", "internal/bytealg.IndexByteString", "internal/bytealg.IndexString"], unfollowed := true, recurses := true, named := ["internal/bytealg.MaxLen", "unicode/utf8.first", "unicode/utf8.acceptRanges"], apart := false, laid := [("unicode/utf8.acceptRanges", laid_unicode_utf8_acceptRanges), ("unicode/utf8.first", laid_unicode_utf8_first)], narrowed := true }
def InletReadsUptoSaid : Prop := inletReadsUptoRow.holds Tryz.pinned (OpenSpec.upto inletReadsSpec)

/-- 'manciplelaw12.InletLines', WHERE WHAT IT READS IS OF BULK AT MOST 1048576: true; the input reads as it did. -/
def inletLinesUptoRow : OpenClaim := { program := "ytbngfphiachnoaagreatdoor", sum := "09d18d9af848715a7c6950b4fa239bf611988a8f84daf6505a2b4db155220247", func := "manciple/manciplelaw12.InletLines", spec := "inletLines", inPlace := ["internal/bytealg.IndexByte", "internal/bytealg.IndexByteString", "internal/bytealg.IndexString"], unfollowed := true, recurses := true, named := ["internal/bytealg.MaxLen", "unicode/utf8.first", "unicode/utf8.acceptRanges"], apart := false, laid := [("unicode/utf8.acceptRanges", laid_unicode_utf8_acceptRanges), ("unicode/utf8.first", laid_unicode_utf8_first)], narrowed := true }
def InletLinesUptoSaid : Prop := inletLinesUptoRow.holds Tryz.pinned (OpenSpec.upto inletLinesSpec)

/-- 'manciplelaw12.InletCuts', WHERE WHAT IT READS IS OF BULK AT MOST 1048576: true; the input reads as it did. -/
def inletCutsUptoRow : OpenClaim := { program := "ytbngfphiachnoaagreatdoor", sum := "09d18d9af848715a7c6950b4fa239bf611988a8f84daf6505a2b4db155220247", func := "manciple/manciplelaw12.InletCuts", spec := "inletCuts", inPlace := ["internal/bytealg.IndexByte", "internal/bytealg.IndexByteString", "internal/bytealg.IndexString"], unfollowed := true, recurses := true, named := ["internal/bytealg.MaxLen", "unicode/utf8.first", "unicode/utf8.acceptRanges"], apart := false, laid := [("unicode/utf8.acceptRanges", laid_unicode_utf8_acceptRanges), ("unicode/utf8.first", laid_unicode_utf8_first)], narrowed := true }
def InletCutsUptoSaid : Prop := inletCutsUptoRow.holds Tryz.pinned (OpenSpec.upto inletCutsSpec)

/-- 'manciplelaw12.InletStrict', WHERE WHAT IT READS IS OF BULK AT MOST 1048576: true; the input reads as it did. -/
def inletStrictUptoRow : OpenClaim := { program := "ytbngfphiachnoaagreatdoor", sum := "09d18d9af848715a7c6950b4fa239bf611988a8f84daf6505a2b4db155220247", func := "manciple/manciplelaw12.InletStrict", spec := "inletStrict", inPlace := ["internal/bytealg.IndexByte", "internal/bytealg.IndexByteString", "internal/bytealg.IndexString"], unfollowed := true, recurses := true, named := ["internal/bytealg.MaxLen", "unicode/utf8.first", "unicode/utf8.acceptRanges"], apart := false, laid := [("unicode/utf8.acceptRanges", laid_unicode_utf8_acceptRanges), ("unicode/utf8.first", laid_unicode_utf8_first)], narrowed := true }
def InletStrictUptoSaid : Prop := inletStrictUptoRow.holds Tryz.pinned (OpenSpec.upto inletStrictSpec)

/-- 'manciplelaw12.InletPipes', WHERE WHAT IT READS IS OF BULK AT MOST 1048576: true; the input reads as it did. -/
def inletPipesUptoRow : OpenClaim := { program := "ytbngfphiachnoaagreatdoor", sum := "09d18d9af848715a7c6950b4fa239bf611988a8f84daf6505a2b4db155220247", func := "manciple/manciplelaw12.InletPipes", spec := "inletPipes", inPlace := ["internal/bytealg.IndexByte", "internal/bytealg.IndexByteString", "internal/bytealg.IndexString"], unfollowed := true, recurses := true, named := ["internal/bytealg.MaxLen", "unicode/utf8.first", "unicode/utf8.acceptRanges"], apart := false, laid := [("unicode/utf8.acceptRanges", laid_unicode_utf8_acceptRanges), ("unicode/utf8.first", laid_unicode_utf8_first)], narrowed := true }
def InletPipesUptoSaid : Prop := inletPipesUptoRow.holds Tryz.pinned (OpenSpec.upto inletPipesSpec)

end Rows
end Go.Proofs.YtbngfphiachnoaaGreatDoor
