/-
  DERIVED. GIVEN WITH THE SEED: THE CARDS: each row of YtaccfepnhmgagaaGreatDoorRows.lean that lists a variable, with what it lists TIED to the program's text (the seventh form; the later family's looks); each row that meets fmt, with fmt's text TOLD by the authors' own Lean function (tested against real Go, not proved from fmt's source: count such statements apart). THE CARD IS WHAT COUNTS. Prove the row's statement (the work); the ties are given (YtaccfepnhmgagaaGreatDoorTie.lean); close each card by the builder's one call (the guide's Derived/Test/ToyasCard.lean, 'card_holds'). Laid BY PROGRAM, IN A SANDBOX (cutbox-door.mjs). By AI agents, Wed Nov 11 2026. No macro, syntax, notation, axiom, sorry.
-/
import Derived.Test.YtaccfepnhmgagaaGreatDoorRows
import GoSem.ClaimSeven
namespace Go.Proofs.YtaccfepnhmgagaaGreatDoor
namespace Rows

/-- THE TIED CARD OF 'armillarylaw15.CellTells'. -/
def cellTellsCard : Claim7 := { stood := { row := cellTellsRow, standIns := [], harness := (true, "e83d0dd970192d30b53dec7f128283adac7114b4239bdaae09d5e96db4693704"), looks := false }, kinds := [], alts := [], laidByText := true, laidKinds := [.data], laidTests := true, laidLooks := .later }
def CellTellsCardSaid : Prop := Claim7.holds Tryz.pinned (.plain (OpenSpec.ofChange cellTellsSpec)) cellTellsCard

/-- THE TIED CARD OF 'armillarylaw15.CellWaits'. -/
def cellWaitsCard : Claim7 := { stood := { row := cellWaitsRow, standIns := [], harness := (true, "e83d0dd970192d30b53dec7f128283adac7114b4239bdaae09d5e96db4693704"), looks := false }, kinds := [], alts := [], laidByText := true, laidKinds := [.data], laidTests := true, laidLooks := .later }
def CellWaitsCardSaid : Prop := Claim7.holds Tryz.pinned (.plain (OpenSpec.ofChange cellWaitsSpec)) cellWaitsCard

/-- THE TIED CARD OF 'armillarylaw11.LookMost'. -/
def lookMostCard : Claim7 := { stood := { row := lookMostRow, standIns := [], harness := (true, "e83d0dd970192d30b53dec7f128283adac7114b4239bdaae09d5e96db4693704"), looks := false }, kinds := [], alts := [], laidByText := true, laidKinds := [.data], laidTests := true, laidLooks := .later }
def LookMostCardSaid : Prop := Claim7.holds Tryz.pinned (.plain (OpenSpec.ofChange lookMostSpec)) lookMostCard

/-- THE TIED CARD OF 'armillarylaw10.WalkMoves'. -/
def walkMovesCard : Claim7 := { stood := { row := walkMovesRow, standIns := [], harness := (true, "e83d0dd970192d30b53dec7f128283adac7114b4239bdaae09d5e96db4693704"), looks := false }, kinds := [], alts := [], laidByText := true, laidKinds := [.data], laidTests := true, laidLooks := .later }
def WalkMovesCardSaid : Prop := Claim7.holds Tryz.pinned (.plain (OpenSpec.ofChange walkMovesSpec)) walkMovesCard

/-- THE SECOND FORM's CARD OF 'armillarylaw15.CellTells'. -/
def cellTellsUptoCard : Claim7 := { stood := { row := cellTellsUptoRow, standIns := [], harness := (true, "e83d0dd970192d30b53dec7f128283adac7114b4239bdaae09d5e96db4693704"), looks := false }, kinds := [], alts := [], laidByText := true, laidKinds := [.data], laidTests := true, laidLooks := .later }
def CellTellsUptoCardSaid : Prop := Claim7.holds Tryz.pinned (.plain (OpenSpec.upto cellTellsSpec)) cellTellsUptoCard

/-- THE SECOND FORM's CARD OF 'armillarylaw15.CellWaits'. -/
def cellWaitsUptoCard : Claim7 := { stood := { row := cellWaitsUptoRow, standIns := [], harness := (true, "e83d0dd970192d30b53dec7f128283adac7114b4239bdaae09d5e96db4693704"), looks := false }, kinds := [], alts := [], laidByText := true, laidKinds := [.data], laidTests := true, laidLooks := .later }
def CellWaitsUptoCardSaid : Prop := Claim7.holds Tryz.pinned (.plain (OpenSpec.upto cellWaitsSpec)) cellWaitsUptoCard

/-- THE SECOND FORM's CARD OF 'armillarylaw11.LookMost'. -/
def lookMostUptoCard : Claim7 := { stood := { row := lookMostUptoRow, standIns := [], harness := (true, "e83d0dd970192d30b53dec7f128283adac7114b4239bdaae09d5e96db4693704"), looks := false }, kinds := [], alts := [], laidByText := true, laidKinds := [.data], laidTests := true, laidLooks := .later }
def LookMostUptoCardSaid : Prop := Claim7.holds Tryz.pinned (.plain (OpenSpec.upto lookMostSpec)) lookMostUptoCard

/-- THE SECOND FORM's CARD OF 'armillarylaw10.WalkMoves'. -/
def walkMovesUptoCard : Claim7 := { stood := { row := walkMovesUptoRow, standIns := [], harness := (true, "e83d0dd970192d30b53dec7f128283adac7114b4239bdaae09d5e96db4693704"), looks := false }, kinds := [], alts := [], laidByText := true, laidKinds := [.data], laidTests := true, laidLooks := .later }
def WalkMovesUptoCardSaid : Prop := Claim7.holds Tryz.pinned (.plain (OpenSpec.upto walkMovesSpec)) walkMovesUptoCard
end Rows
end Go.Proofs.YtaccfepnhmgagaaGreatDoor
