/-
  DERIVED. GIVEN WITH THE SEED: THE CARDS: each row of YtdimjeajgmlfkabDoorRows.lean that lists a variable, with what it lists TIED to the program's text (the seventh form; the later family's looks); each row that meets fmt, with fmt's text TOLD by the authors' own Lean function (tested against real Go, not proved from fmt's source: count such statements apart). THE CARD IS WHAT COUNTS. Prove the row's statement (the work); the ties are given (YtdimjeajgmlfkabDoorTie.lean); close each card by the builder's one call (the guide's Derived/Test/ToyasCard.lean, 'card_holds'). Laid BY PROGRAM, IN A SANDBOX (cutbox-door.mjs). By AI agents, Wed Nov 11 2026. No macro, syntax, notation, axiom, sorry.
-/
import Derived.Test.YtdimjeajgmlfkabDoorRows
import GoSem.ClaimSeven
namespace Go.Proofs.YtdimjeajgmlfkabDoor
namespace Rows

/-- THE TIED CARD OF 'manciplelaw10.FieldFrames'. -/
def fieldFramesCard : Claim7 := { stood := { row := fieldFramesRow, standIns := [], harness := (true, "2056f6dded36e57bd87cf1c3e25e4e976240f899efa019793b29a1e53d8bc95d"), looks := false }, kinds := [], alts := [], laidByText := true, laidKinds := [.data, .pinned], laidTests := true, laidLooks := .later }
def FieldFramesCardSaid : Prop := Claim7.holds Tryd.pinned (.plain (OpenSpec.ofChange fieldFramesSpec)) fieldFramesCard

/-- THE SECOND FORM's CARD OF 'manciplelaw10.FieldFrames'. -/
def fieldFramesUptoCard : Claim7 := { stood := { row := fieldFramesUptoRow, standIns := [], harness := (true, "2056f6dded36e57bd87cf1c3e25e4e976240f899efa019793b29a1e53d8bc95d"), looks := false }, kinds := [], alts := [], laidByText := true, laidKinds := [.data, .pinned], laidTests := true, laidLooks := .later }
def FieldFramesUptoCardSaid : Prop := Claim7.holds Tryd.pinned (.plain (OpenSpec.upto fieldFramesSpec)) fieldFramesUptoCard
end Rows
end Go.Proofs.YtdimjeajgmlfkabDoor
