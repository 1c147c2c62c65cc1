/-
  DERIVED. GIVEN WITH THE SEED: THE CARDS: each row of YtdimjeajgmlfkaaDoorRows.lean that lists a variable, with what it lists TIED to the program's text (the seventh form; the later family's looks); each row that meets fmt, with fmt's text TOLD by the authors' own Lean function (tested against real Go, not proved from fmt's source: count such statements apart). THE CARD IS WHAT COUNTS. Prove the row's statement (the work); the ties are given (YtdimjeajgmlfkaaDoorTie.lean); close each card by the builder's one call (the guide's Derived/Test/ToyasCard.lean, 'card_holds'). Laid BY PROGRAM, IN A SANDBOX (cutbox-door.mjs). By AI agents, Wed Nov 11 2026. No macro, syntax, notation, axiom, sorry.
-/
import Derived.Test.YtdimjeajgmlfkaaDoorRows
import GoSem.ClaimSeven
namespace Go.Proofs.YtdimjeajgmlfkaaDoor
namespace Rows

/-- THE TIED CARD OF 'manciplelaw10.FieldLines'. -/
def fieldLinesCard : Claim7 := { stood := { row := fieldLinesRow, standIns := [], harness := (true, "8d4ef53735335394328fb4d235082e73d733968d324e0e65dbaf23058d119fe5"), looks := false }, kinds := [], alts := [], laidByText := true, laidKinds := [.data, .pinned], laidTests := true, laidLooks := .later }
def FieldLinesCardSaid : Prop := Claim7.holds Tryd.pinned (.plain (OpenSpec.ofChange fieldLinesSpec)) fieldLinesCard

/-- THE TIED CARD OF 'manciplelaw10.FieldHeads'. -/
def fieldHeadsCard : Claim7 := { stood := { row := fieldHeadsRow, standIns := [], harness := (true, "8d4ef53735335394328fb4d235082e73d733968d324e0e65dbaf23058d119fe5"), looks := false }, kinds := [], alts := [], laidByText := true, laidKinds := [.data, .pinned], laidTests := true, laidLooks := .later }
def FieldHeadsCardSaid : Prop := Claim7.holds Tryd.pinned (.plain (OpenSpec.ofChange fieldHeadsSpec)) fieldHeadsCard

/-- THE TIED CARD OF 'manciplelaw10.FieldLists'. -/
def fieldListsCard : Claim7 := { stood := { row := fieldListsRow, standIns := [], harness := (true, "8d4ef53735335394328fb4d235082e73d733968d324e0e65dbaf23058d119fe5"), looks := false }, kinds := [], alts := [], laidByText := true, laidKinds := [.data, .pinned], laidTests := true, laidLooks := .later }
def FieldListsCardSaid : Prop := Claim7.holds Tryd.pinned (.plain (OpenSpec.ofChange fieldListsSpec)) fieldListsCard

/-- THE TIED CARD OF 'manciplelaw10.FieldBack'. -/
def fieldBackCard : Claim7 := { stood := { row := fieldBackRow, standIns := [], harness := (true, "8d4ef53735335394328fb4d235082e73d733968d324e0e65dbaf23058d119fe5"), looks := false }, kinds := [], alts := [], laidByText := true, laidKinds := [.data, .pinned], laidTests := true, laidLooks := .later }
def FieldBackCardSaid : Prop := Claim7.holds Tryd.pinned (.plain (OpenSpec.ofChange fieldBackSpec)) fieldBackCard

/-- THE TIED CARD OF 'manciplelaw10.FieldStays'. -/
def fieldStaysCard : Claim7 := { stood := { row := fieldStaysRow, standIns := [], harness := (true, "8d4ef53735335394328fb4d235082e73d733968d324e0e65dbaf23058d119fe5"), looks := false }, kinds := [], alts := [], laidByText := true, laidKinds := [.data, .pinned], laidTests := true, laidLooks := .later }
def FieldStaysCardSaid : Prop := Claim7.holds Tryd.pinned (.plain (OpenSpec.ofChange fieldStaysSpec)) fieldStaysCard

/-- THE TIED CARD OF 'manciplelaw10.FieldNames'. -/
def fieldNamesCard : Claim7 := { stood := { row := fieldNamesRow, standIns := [], harness := (true, "8d4ef53735335394328fb4d235082e73d733968d324e0e65dbaf23058d119fe5"), looks := false }, kinds := [], alts := [], laidByText := true, laidKinds := [.data, .pinned], laidTests := true, laidLooks := .later }
def FieldNamesCardSaid : Prop := Claim7.holds Tryd.pinned (.plain (OpenSpec.ofChange fieldNamesSpec)) fieldNamesCard

/-- THE SECOND FORM's CARD OF 'manciplelaw10.FieldLines'. -/
def fieldLinesUptoCard : Claim7 := { stood := { row := fieldLinesUptoRow, standIns := [], harness := (true, "8d4ef53735335394328fb4d235082e73d733968d324e0e65dbaf23058d119fe5"), looks := false }, kinds := [], alts := [], laidByText := true, laidKinds := [.data, .pinned], laidTests := true, laidLooks := .later }
def FieldLinesUptoCardSaid : Prop := Claim7.holds Tryd.pinned (.plain (OpenSpec.upto fieldLinesSpec)) fieldLinesUptoCard

/-- THE SECOND FORM's CARD OF 'manciplelaw10.FieldHeads'. -/
def fieldHeadsUptoCard : Claim7 := { stood := { row := fieldHeadsUptoRow, standIns := [], harness := (true, "8d4ef53735335394328fb4d235082e73d733968d324e0e65dbaf23058d119fe5"), looks := false }, kinds := [], alts := [], laidByText := true, laidKinds := [.data, .pinned], laidTests := true, laidLooks := .later }
def FieldHeadsUptoCardSaid : Prop := Claim7.holds Tryd.pinned (.plain (OpenSpec.upto fieldHeadsSpec)) fieldHeadsUptoCard

/-- THE SECOND FORM's CARD OF 'manciplelaw10.FieldLists'. -/
def fieldListsUptoCard : Claim7 := { stood := { row := fieldListsUptoRow, standIns := [], harness := (true, "8d4ef53735335394328fb4d235082e73d733968d324e0e65dbaf23058d119fe5"), looks := false }, kinds := [], alts := [], laidByText := true, laidKinds := [.data, .pinned], laidTests := true, laidLooks := .later }
def FieldListsUptoCardSaid : Prop := Claim7.holds Tryd.pinned (.plain (OpenSpec.upto fieldListsSpec)) fieldListsUptoCard

/-- THE SECOND FORM's CARD OF 'manciplelaw10.FieldBack'. -/
def fieldBackUptoCard : Claim7 := { stood := { row := fieldBackUptoRow, standIns := [], harness := (true, "8d4ef53735335394328fb4d235082e73d733968d324e0e65dbaf23058d119fe5"), looks := false }, kinds := [], alts := [], laidByText := true, laidKinds := [.data, .pinned], laidTests := true, laidLooks := .later }
def FieldBackUptoCardSaid : Prop := Claim7.holds Tryd.pinned (.plain (OpenSpec.upto fieldBackSpec)) fieldBackUptoCard

/-- THE SECOND FORM's CARD OF 'manciplelaw10.FieldStays'. -/
def fieldStaysUptoCard : Claim7 := { stood := { row := fieldStaysUptoRow, standIns := [], harness := (true, "8d4ef53735335394328fb4d235082e73d733968d324e0e65dbaf23058d119fe5"), looks := false }, kinds := [], alts := [], laidByText := true, laidKinds := [.data, .pinned], laidTests := true, laidLooks := .later }
def FieldStaysUptoCardSaid : Prop := Claim7.holds Tryd.pinned (.plain (OpenSpec.upto fieldStaysSpec)) fieldStaysUptoCard

/-- THE SECOND FORM's CARD OF 'manciplelaw10.FieldNames'. -/
def fieldNamesUptoCard : Claim7 := { stood := { row := fieldNamesUptoRow, standIns := [], harness := (true, "8d4ef53735335394328fb4d235082e73d733968d324e0e65dbaf23058d119fe5"), looks := false }, kinds := [], alts := [], laidByText := true, laidKinds := [.data, .pinned], laidTests := true, laidLooks := .later }
def FieldNamesUptoCardSaid : Prop := Claim7.holds Tryd.pinned (.plain (OpenSpec.upto fieldNamesSpec)) fieldNamesUptoCard
end Rows
end Go.Proofs.YtdimjeajgmlfkaaDoor
