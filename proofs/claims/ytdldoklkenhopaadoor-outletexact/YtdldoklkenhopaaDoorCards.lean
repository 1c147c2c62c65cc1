/-
  DERIVED. GIVEN WITH THE SEED: THE CARDS: each row of YtdldoklkenhopaaDoorRows.lean that lists a variable, with what it lists TIED to the program's text (the seventh form; the later family's looks); each row that meets fmt, with fmt's text TOLD by the authors' own Lean function (tested against real Go, not proved from fmt's source: count such statements apart). THE CARD IS WHAT COUNTS. Prove the row's statement (the work); the ties are given (YtdldoklkenhopaaDoorTie.lean); close each card by the builder's one call (the guide's Derived/Test/ToyasCard.lean, 'card_holds'). Laid BY PROGRAM, IN A SANDBOX (cutbox-door.mjs). By AI agents, Wed Nov 11 2026. No macro, syntax, notation, axiom, sorry.
-/
import Derived.Test.YtdldoklkenhopaaDoorRows
import GoSem.ClaimSeven
namespace Go.Proofs.YtdldoklkenhopaaDoor
namespace Rows

/-- THE TIED CARD OF 'manciplelaw13.OutletExact'. -/
def outletExactCard : Claim7 := { stood := { row := outletExactRow, standIns := [], harness := (true, "76431c95d1e4897380971161b8f25a29c3131311c1dd1b7df3618decf28faf8b"), looks := false }, kinds := [], alts := [], laidByText := true, laidKinds := [.data, .pinned], laidTests := true, laidLooks := .later }
def OutletExactCardSaid : Prop := Claim7.holds Tryd.pinned (.plain (OpenSpec.ofChange outletExactSpec)) outletExactCard

/-- THE TIED CARD OF 'manciplelaw13.OutletBack'. -/
def outletBackCard : Claim7 := { stood := { row := outletBackRow, standIns := [], harness := (true, "76431c95d1e4897380971161b8f25a29c3131311c1dd1b7df3618decf28faf8b"), looks := false }, kinds := [], alts := [], laidByText := true, laidKinds := [.data, .pinned], laidTests := true, laidLooks := .later }
def OutletBackCardSaid : Prop := Claim7.holds Tryd.pinned (.plain (OpenSpec.ofChange outletBackSpec)) outletBackCard

/-- THE SECOND FORM's CARD OF 'manciplelaw13.OutletExact'. -/
def outletExactUptoCard : Claim7 := { stood := { row := outletExactUptoRow, standIns := [], harness := (true, "76431c95d1e4897380971161b8f25a29c3131311c1dd1b7df3618decf28faf8b"), looks := false }, kinds := [], alts := [], laidByText := true, laidKinds := [.data, .pinned], laidTests := true, laidLooks := .later }
def OutletExactUptoCardSaid : Prop := Claim7.holds Tryd.pinned (.plain (OpenSpec.upto outletExactSpec)) outletExactUptoCard

/-- THE SECOND FORM's CARD OF 'manciplelaw13.OutletBack'. -/
def outletBackUptoCard : Claim7 := { stood := { row := outletBackUptoRow, standIns := [], harness := (true, "76431c95d1e4897380971161b8f25a29c3131311c1dd1b7df3618decf28faf8b"), looks := false }, kinds := [], alts := [], laidByText := true, laidKinds := [.data, .pinned], laidTests := true, laidLooks := .later }
def OutletBackUptoCardSaid : Prop := Claim7.holds Tryd.pinned (.plain (OpenSpec.upto outletBackSpec)) outletBackUptoCard
end Rows
end Go.Proofs.YtdldoklkenhopaaDoor
