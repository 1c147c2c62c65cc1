/-
  No cell of these rows narrows 'for every input' (looked for: loops, veiled, ifaces, maps, wideKeys, modest, calm, conditions, laid).
  DERIVED. THE GIVEN ROWS OF THIS SEAT. 3 by the template 'for every input the law returns true; each argument reads behind the call as it read before'; 0 by the template 'total and deterministic' (their statements: YtdmgobffhpgjlaaTotals.lean).
  GIVEN WITH THE SEED: the statements are not yours to turn. If you find one false, say at which input.
  Laid BY PROGRAM, IN A SANDBOX (cutbox-rows.mjs): the forced cells as the released guide's own fill.sh prints them over the translation 3ec350882f121fc4… (all of the seat's roots in one cut). By AI agents, Wed Nov 11 2026. No macro, syntax, notation, axiom, sorry.
-/
import Derived.Test.YtdmgobffhpgjlaaChecked
import GoSem.Claim
import GoSem.ClaimJoined
import GoSem.ClaimMapViews
import Derived.JoinedTies
import Derived.KernelRfl
namespace Go.Proofs.Ytdmgobffhpgjlaa
/- THE CELL 'sum', in the pinned program and in every row, IS THE sha256 OF THE DUMP (.gsa) THAT YtdmgobffhpgjlaaProg.lean LOADS. Nothing in Lean hashes anything: it is a label: what it is worth is what the hold of that sum in a sandbox is worth. -/
noncomputable def Try.pinned : Pinned := { name := "ytdmgobffhpgjlaa", sum := "3ec350882f121fc4b3f5205600f307cfc5ac0cae7ff22dabccc3530018f6e788", checked := Try.checked }
namespace Rows
def none {H : Type} : Left H := { results := [], args := [] }

/-- 'manciplelaw09.DiaryKeeps': WHATEVER THE INPUT: true; the input reads as it did. -/
def diaryKeepsSpec : ChangeSpec := { name := "diaryKeeps", fn := fun _ => fun
  | [d1, d2, d3, d4] => { results := [.lit (.bool true)], args := [d1, d2, d3, d4] }
  | _ => none }
def diaryKeepsRow : OpenClaim := { program := "ytdmgobffhpgjlaa", sum := "3ec350882f121fc4b3f5205600f307cfc5ac0cae7ff22dabccc3530018f6e788", func := "manciple/manciplelaw09.DiaryKeeps", spec := "diaryKeeps", inPlace := ["internal/abi.NoEscape"], unfollowed := true, recurses := true, apart := false }
def DiaryKeepsSaid : Prop := diaryKeepsRow.holds Try.pinned (OpenSpec.ofChange diaryKeepsSpec)

/-- ITS FALSE NEIGHBOUR: 'it returns false'. Refute it at one input. -/
def diaryKeepsWrong : ChangeSpec := { name := "diaryKeeps", fn := fun _ => fun
  | [d1, d2, d3, d4] => { results := [.lit (.bool false)], args := [d1, d2, d3, d4] }
  | _ => none }
def DiaryKeepsWrongFalsely : Prop := diaryKeepsRow.holds Try.pinned (OpenSpec.ofChange diaryKeepsWrong)

/-- 'manciplelaw09.DiaryRewrites': WHATEVER THE INPUT: true; the input reads as it did. -/
def diaryRewritesSpec : ChangeSpec := { name := "diaryRewrites", fn := fun _ => fun
  | [d1, d2, d3, d4] => { results := [.lit (.bool true)], args := [d1, d2, d3, d4] }
  | _ => none }
def diaryRewritesRow : OpenClaim := { program := "ytdmgobffhpgjlaa", sum := "3ec350882f121fc4b3f5205600f307cfc5ac0cae7ff22dabccc3530018f6e788", func := "manciple/manciplelaw09.DiaryRewrites", spec := "diaryRewrites", inPlace := ["internal/abi.NoEscape"], unfollowed := true, recurses := true, apart := false }
def DiaryRewritesSaid : Prop := diaryRewritesRow.holds Try.pinned (OpenSpec.ofChange diaryRewritesSpec)

/-- ITS FALSE NEIGHBOUR: 'it returns false'. Refute it at one input. -/
def diaryRewritesWrong : ChangeSpec := { name := "diaryRewrites", fn := fun _ => fun
  | [d1, d2, d3, d4] => { results := [.lit (.bool false)], args := [d1, d2, d3, d4] }
  | _ => none }
def DiaryRewritesWrongFalsely : Prop := diaryRewritesRow.holds Try.pinned (OpenSpec.ofChange diaryRewritesWrong)

/-- 'manciplelaw09.DiarySick': WHATEVER THE INPUT: true; the input reads as it did. -/
def diarySickSpec : ChangeSpec := { name := "diarySick", fn := fun _ => fun
  | [d1, d2] => { results := [.lit (.bool true)], args := [d1, d2] }
  | _ => none }
def diarySickRow : OpenClaim := { program := "ytdmgobffhpgjlaa", sum := "3ec350882f121fc4b3f5205600f307cfc5ac0cae7ff22dabccc3530018f6e788", func := "manciple/manciplelaw09.DiarySick", spec := "diarySick", inPlace := ["internal/abi.NoEscape"], unfollowed := true, recurses := true, apart := false }
def DiarySickSaid : Prop := diarySickRow.holds Try.pinned (OpenSpec.ofChange diarySickSpec)

/-- ITS FALSE NEIGHBOUR: 'it returns false'. Refute it at one input. -/
def diarySickWrong : ChangeSpec := { name := "diarySick", fn := fun _ => fun
  | [d1, d2] => { results := [.lit (.bool false)], args := [d1, d2] }
  | _ => none }
def DiarySickWrongFalsely : Prop := diarySickRow.holds Try.pinned (OpenSpec.ofChange diarySickWrong)

/- THE SECOND FORM. 'bulk': how many values and letters a reading holds, each counted each time it is reached (what is shared counts as often as it is met; a slice's spare places count too). A statement '..UptoSaid' is the law's where the arguments, and the package variables that the reading takes, are together of bulk at most 1048576: NARROWER than '..Said'. Prove '..Said' where nothing that the law and all that it calls make is longer than what came in: it says more and counts as full. Else prove '..UptoSaid'. A law counts once. -/
mutual
def uptoBulk {H : Type} : DataW H → Nat
  | .lit (.string bytes) => bytes.length + 1
  | .lit _ => 1
  | .nil => 1
  | .ptr d => uptoBulk d + 1
  | .slice elems spare => uptoBulkAll elems + uptoBulkAll spare + 1
  | .agg parts => uptoBulkAll parts + 1
  | .iface _ d => uptoBulk d + 1
  | .map entries => uptoBulkEntries entries + 1
  | .held _ => 1
def uptoBulkAll {H : Type} : List (DataW H) → Nat
  | [] => 0
  | d :: r => uptoBulk d + uptoBulkAll r
def uptoBulkEntries {H : Type} : List (Lit × DataW H) → Nat
  | [] => 0
  | x :: r => uptoBulkEntry x + uptoBulkEntries r
def uptoBulkEntry {H : Type} : Lit × DataW H → Nat
  | (.string bytes, d) => bytes.length + uptoBulk d + 1
  | (_, d) => uptoBulk d + 1
 end
def uptoSmall : (H : Type) → List (DataW H) → Bool := fun _ ds => decide (uptoBulkAll ds ≤ 1048576)
def OpenSpec.upto (s : _root_.Go.ChangeSpec) : _root_.Go.OpenSpec := { _root_.Go.OpenSpec.ofChange s with cond := some uptoSmall }

/-- 'manciplelaw09.DiaryKeeps', WHERE WHAT IT READS IS OF BULK AT MOST 1048576: true; the input reads as it did. -/
def diaryKeepsUptoRow : OpenClaim := { program := "ytdmgobffhpgjlaa", sum := "3ec350882f121fc4b3f5205600f307cfc5ac0cae7ff22dabccc3530018f6e788", func := "manciple/manciplelaw09.DiaryKeeps", spec := "diaryKeeps", inPlace := ["internal/abi.NoEscape"], unfollowed := true, recurses := true, apart := false, narrowed := true }
def DiaryKeepsUptoSaid : Prop := diaryKeepsUptoRow.holds Try.pinned (OpenSpec.upto diaryKeepsSpec)

/-- 'manciplelaw09.DiaryRewrites', WHERE WHAT IT READS IS OF BULK AT MOST 1048576: true; the input reads as it did. -/
def diaryRewritesUptoRow : OpenClaim := { program := "ytdmgobffhpgjlaa", sum := "3ec350882f121fc4b3f5205600f307cfc5ac0cae7ff22dabccc3530018f6e788", func := "manciple/manciplelaw09.DiaryRewrites", spec := "diaryRewrites", inPlace := ["internal/abi.NoEscape"], unfollowed := true, recurses := true, apart := false, narrowed := true }
def DiaryRewritesUptoSaid : Prop := diaryRewritesUptoRow.holds Try.pinned (OpenSpec.upto diaryRewritesSpec)

/-- 'manciplelaw09.DiarySick', WHERE WHAT IT READS IS OF BULK AT MOST 1048576: true; the input reads as it did. -/
def diarySickUptoRow : OpenClaim := { program := "ytdmgobffhpgjlaa", sum := "3ec350882f121fc4b3f5205600f307cfc5ac0cae7ff22dabccc3530018f6e788", func := "manciple/manciplelaw09.DiarySick", spec := "diarySick", inPlace := ["internal/abi.NoEscape"], unfollowed := true, recurses := true, apart := false, narrowed := true }
def DiarySickUptoSaid : Prop := diarySickUptoRow.holds Try.pinned (OpenSpec.upto diarySickSpec)

end Rows
end Go.Proofs.Ytdmgobffhpgjlaa
