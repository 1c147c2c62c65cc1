/-
  DERIVED. GIVEN WITH THE SEED: THE CARDS: each row of YtbngfphiachnoaaGreatDoorRows.lean that lists a variable, with what it lists TIED to the program's text (the seventh form; the later family's looks); each row that meets fmt, with fmt's text TOLD by the authors' own Lean function (tested against real Go, not proved from fmt's source: count such statements apart). THE CARD IS WHAT COUNTS. Prove the row's statement (the work); the ties are given (YtbngfphiachnoaaGreatDoorTie.lean); close each card by the builder's one call (the guide's Derived/Test/ToyasCard.lean, 'card_holds'). Laid BY PROGRAM, IN A SANDBOX (cutbox-door.mjs). By AI agents, Wed Nov 11 2026. No macro, syntax, notation, axiom, sorry.
-/
import Derived.Test.YtbngfphiachnoaaGreatDoorRows
import GoSem.ClaimSeven
namespace Go.Proofs.YtbngfphiachnoaaGreatDoor
namespace Rows

/-- THE TIED CARD OF 'manciplelaw12.InletReads'. -/
def inletReadsCard : Claim7 := { stood := { row := inletReadsRow, standIns := [], harness := (true, "53dfcf0cd67018dc1336eb0f03c08ff8abd1a79271afe3aa85f8556906db135a"), looks := false }, kinds := [], alts := [], laidByText := true, laidKinds := [.data, .pinned], laidTests := true, laidLooks := .later }
def InletReadsCardSaid : Prop := Claim7.holds Tryz.pinned (.plain (OpenSpec.ofChange inletReadsSpec)) inletReadsCard

/-- THE TIED CARD OF 'manciplelaw12.InletLines'. -/
def inletLinesCard : Claim7 := { stood := { row := inletLinesRow, standIns := [], harness := (true, "53dfcf0cd67018dc1336eb0f03c08ff8abd1a79271afe3aa85f8556906db135a"), looks := false }, kinds := [], alts := [], laidByText := true, laidKinds := [.data, .pinned], laidTests := true, laidLooks := .later }
def InletLinesCardSaid : Prop := Claim7.holds Tryz.pinned (.plain (OpenSpec.ofChange inletLinesSpec)) inletLinesCard

/-- THE TIED CARD OF 'manciplelaw12.InletCuts'. -/
def inletCutsCard : Claim7 := { stood := { row := inletCutsRow, standIns := [], harness := (true, "53dfcf0cd67018dc1336eb0f03c08ff8abd1a79271afe3aa85f8556906db135a"), looks := false }, kinds := [], alts := [], laidByText := true, laidKinds := [.data, .pinned], laidTests := true, laidLooks := .later }
def InletCutsCardSaid : Prop := Claim7.holds Tryz.pinned (.plain (OpenSpec.ofChange inletCutsSpec)) inletCutsCard

/-- THE TIED CARD OF 'manciplelaw12.InletStrict'. -/
def inletStrictCard : Claim7 := { stood := { row := inletStrictRow, standIns := [], harness := (true, "53dfcf0cd67018dc1336eb0f03c08ff8abd1a79271afe3aa85f8556906db135a"), looks := false }, kinds := [], alts := [], laidByText := true, laidKinds := [.data, .pinned], laidTests := true, laidLooks := .later }
def InletStrictCardSaid : Prop := Claim7.holds Tryz.pinned (.plain (OpenSpec.ofChange inletStrictSpec)) inletStrictCard

/-- THE TIED CARD OF 'manciplelaw12.InletPipes'. -/
def inletPipesCard : Claim7 := { stood := { row := inletPipesRow, standIns := [], harness := (true, "53dfcf0cd67018dc1336eb0f03c08ff8abd1a79271afe3aa85f8556906db135a"), looks := false }, kinds := [], alts := [], laidByText := true, laidKinds := [.data, .pinned], laidTests := true, laidLooks := .later }
def InletPipesCardSaid : Prop := Claim7.holds Tryz.pinned (.plain (OpenSpec.ofChange inletPipesSpec)) inletPipesCard

/-- THE SECOND FORM's CARD OF 'manciplelaw12.InletReads'. -/
def inletReadsUptoCard : Claim7 := { stood := { row := inletReadsUptoRow, standIns := [], harness := (true, "53dfcf0cd67018dc1336eb0f03c08ff8abd1a79271afe3aa85f8556906db135a"), looks := false }, kinds := [], alts := [], laidByText := true, laidKinds := [.data, .pinned], laidTests := true, laidLooks := .later }
def InletReadsUptoCardSaid : Prop := Claim7.holds Tryz.pinned (.plain (OpenSpec.upto inletReadsSpec)) inletReadsUptoCard

/-- THE SECOND FORM's CARD OF 'manciplelaw12.InletLines'. -/
def inletLinesUptoCard : Claim7 := { stood := { row := inletLinesUptoRow, standIns := [], harness := (true, "53dfcf0cd67018dc1336eb0f03c08ff8abd1a79271afe3aa85f8556906db135a"), looks := false }, kinds := [], alts := [], laidByText := true, laidKinds := [.data, .pinned], laidTests := true, laidLooks := .later }
def InletLinesUptoCardSaid : Prop := Claim7.holds Tryz.pinned (.plain (OpenSpec.upto inletLinesSpec)) inletLinesUptoCard

/-- THE SECOND FORM's CARD OF 'manciplelaw12.InletCuts'. -/
def inletCutsUptoCard : Claim7 := { stood := { row := inletCutsUptoRow, standIns := [], harness := (true, "53dfcf0cd67018dc1336eb0f03c08ff8abd1a79271afe3aa85f8556906db135a"), looks := false }, kinds := [], alts := [], laidByText := true, laidKinds := [.data, .pinned], laidTests := true, laidLooks := .later }
def InletCutsUptoCardSaid : Prop := Claim7.holds Tryz.pinned (.plain (OpenSpec.upto inletCutsSpec)) inletCutsUptoCard

/-- THE SECOND FORM's CARD OF 'manciplelaw12.InletStrict'. -/
def inletStrictUptoCard : Claim7 := { stood := { row := inletStrictUptoRow, standIns := [], harness := (true, "53dfcf0cd67018dc1336eb0f03c08ff8abd1a79271afe3aa85f8556906db135a"), looks := false }, kinds := [], alts := [], laidByText := true, laidKinds := [.data, .pinned], laidTests := true, laidLooks := .later }
def InletStrictUptoCardSaid : Prop := Claim7.holds Tryz.pinned (.plain (OpenSpec.upto inletStrictSpec)) inletStrictUptoCard

/-- THE SECOND FORM's CARD OF 'manciplelaw12.InletPipes'. -/
def inletPipesUptoCard : Claim7 := { stood := { row := inletPipesUptoRow, standIns := [], harness := (true, "53dfcf0cd67018dc1336eb0f03c08ff8abd1a79271afe3aa85f8556906db135a"), looks := false }, kinds := [], alts := [], laidByText := true, laidKinds := [.data, .pinned], laidTests := true, laidLooks := .later }
def InletPipesUptoCardSaid : Prop := Claim7.holds Tryz.pinned (.plain (OpenSpec.upto inletPipesSpec)) inletPipesUptoCard
end Rows
end Go.Proofs.YtbngfphiachnoaaGreatDoor
