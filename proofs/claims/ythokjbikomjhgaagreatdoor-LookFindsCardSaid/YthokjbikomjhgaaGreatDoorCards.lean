/-
  DERIVED. GIVEN WITH THE SEED: THE CARDS: each row of YthokjbikomjhgaaGreatDoorRows.lean that lists a variable, with what it lists TIED to the program's text (the seventh form; the later family's looks); each row that meets fmt, with fmt's text TOLD by the authors' own Lean function (tested against real Go, not proved from fmt's source: count such statements apart). THE CARD IS WHAT COUNTS. Prove the row's statement (the work); the ties are given (YthokjbikomjhgaaGreatDoorTie.lean); close each card by the builder's one call (the guide's Derived/Test/ToyasCard.lean, 'card_holds'). Laid BY PROGRAM, IN A SANDBOX (cutbox-door.mjs). By AI agents, Wed Nov 11 2026. No macro, syntax, notation, axiom, sorry.
-/
import Derived.Test.YthokjbikomjhgaaGreatDoorRows
import GoSem.ClaimSeven
namespace Go.Proofs.YthokjbikomjhgaaGreatDoor
namespace Rows

/-- THE TIED CARD OF 'armillarylaw10.WalkMoves'. -/
def walkMovesCard : Claim7 := { stood := { row := walkMovesRow, standIns := [], harness := (true, "9b8db0a00e3a3dc468fbf4dc76380a07a6c7d9e905d14782616ddb73f6894f76"), looks := true }, kinds := [], alts := [], laidByText := true, laidKinds := [.data], laidTests := true, laidLooks := .later }
def WalkMovesCardSaid : Prop := Claim7.holds Tryz.pinned (.plain (OpenSpec.ofChange walkMovesSpec)) walkMovesCard

/-- THE TIED CARD OF 'armillarylaw11.LookTells'. -/
def lookTellsCard : Claim7 := { stood := { row := lookTellsRow, standIns := [], harness := (true, "9b8db0a00e3a3dc468fbf4dc76380a07a6c7d9e905d14782616ddb73f6894f76"), looks := true }, kinds := [], alts := [], laidByText := true, laidKinds := [.data], laidTests := true, laidLooks := .later }
def LookTellsCardSaid : Prop := Claim7.holds Tryz.pinned (.plain (OpenSpec.ofChange lookTellsSpec)) lookTellsCard

/-- THE TIED CARD OF 'armillarylaw11.LookFinds'. -/
def lookFindsCard : Claim7 := { stood := { row := lookFindsRow, standIns := [], harness := (true, "9b8db0a00e3a3dc468fbf4dc76380a07a6c7d9e905d14782616ddb73f6894f76"), looks := true }, kinds := [], alts := [], laidByText := true, laidKinds := [.data], laidTests := true, laidLooks := .later }
def LookFindsCardSaid : Prop := Claim7.holds Tryz.pinned (.plain (OpenSpec.ofChange lookFindsSpec)) lookFindsCard

/-- THE TIED CARD OF 'armillarylaw11.LookOnce'. -/
def lookOnceCard : Claim7 := { stood := { row := lookOnceRow, standIns := [], harness := (true, "9b8db0a00e3a3dc468fbf4dc76380a07a6c7d9e905d14782616ddb73f6894f76"), looks := true }, kinds := [], alts := [], laidByText := true, laidKinds := [.data], laidTests := true, laidLooks := .later }
def LookOnceCardSaid : Prop := Claim7.holds Tryz.pinned (.plain (OpenSpec.ofChange lookOnceSpec)) lookOnceCard

/-- THE TIED CARD OF 'armillarylaw11.LookMost'. -/
def lookMostCard : Claim7 := { stood := { row := lookMostRow, standIns := [], harness := (true, "9b8db0a00e3a3dc468fbf4dc76380a07a6c7d9e905d14782616ddb73f6894f76"), looks := true }, kinds := [], alts := [], laidByText := true, laidKinds := [.data], laidTests := true, laidLooks := .later }
def LookMostCardSaid : Prop := Claim7.holds Tryz.pinned (.plain (OpenSpec.ofChange lookMostSpec)) lookMostCard

/-- THE TIED CARD OF 'armillarylaw12.GetReads'. -/
def getReadsCard : Claim7 := { stood := { row := getReadsRow, standIns := [], harness := (true, "9b8db0a00e3a3dc468fbf4dc76380a07a6c7d9e905d14782616ddb73f6894f76"), looks := true }, kinds := [], alts := [], laidByText := true, laidKinds := [.data, .data], laidTests := true, laidLooks := .later }
def GetReadsCardSaid : Prop := Claim7.holds Tryz.pinned (.plain (OpenSpec.ofChange getReadsSpec)) getReadsCard

/-- THE TIED CARD OF 'armillarylaw12.GetMoves'. -/
def getMovesCard : Claim7 := { stood := { row := getMovesRow, standIns := [], harness := (true, "9b8db0a00e3a3dc468fbf4dc76380a07a6c7d9e905d14782616ddb73f6894f76"), looks := true }, kinds := [], alts := [], laidByText := true, laidKinds := [.data, .data], laidTests := true, laidLooks := .later }
def GetMovesCardSaid : Prop := Claim7.holds Tryz.pinned (.plain (OpenSpec.ofChange getMovesSpec)) getMovesCard

/-- THE TIED CARD OF 'armillarylaw13.ClaimTells'. -/
def claimTellsCard : Claim7 := { stood := { row := claimTellsRow, standIns := [], harness := (true, "9b8db0a00e3a3dc468fbf4dc76380a07a6c7d9e905d14782616ddb73f6894f76"), looks := true }, kinds := [], alts := [], laidByText := true, laidKinds := [.handle, .data], laidTests := true, laidLooks := .later }
def ClaimTellsCardSaid : Prop := Claim7.holds Tryz.pinned (.plain (OpenSpec.ofChange claimTellsSpec)) claimTellsCard

/-- THE TIED CARD OF 'armillarylaw13.ClaimHelped'. -/
def claimHelpedCard : Claim7 := { stood := { row := claimHelpedRow, standIns := [], harness := (true, "9b8db0a00e3a3dc468fbf4dc76380a07a6c7d9e905d14782616ddb73f6894f76"), looks := true }, kinds := [], alts := [], laidByText := true, laidKinds := [.data], laidTests := true, laidLooks := .later }
def ClaimHelpedCardSaid : Prop := Claim7.holds Tryz.pinned (.plain (OpenSpec.ofChange claimHelpedSpec)) claimHelpedCard

/-- THE SECOND FORM's CARD OF 'armillarylaw10.WalkMoves'. -/
def walkMovesUptoCard : Claim7 := { stood := { row := walkMovesUptoRow, standIns := [], harness := (true, "9b8db0a00e3a3dc468fbf4dc76380a07a6c7d9e905d14782616ddb73f6894f76"), looks := true }, kinds := [], alts := [], laidByText := true, laidKinds := [.data], laidTests := true, laidLooks := .later }
def WalkMovesUptoCardSaid : Prop := Claim7.holds Tryz.pinned (.plain (OpenSpec.upto walkMovesSpec)) walkMovesUptoCard

/-- THE SECOND FORM's CARD OF 'armillarylaw11.LookTells'. -/
def lookTellsUptoCard : Claim7 := { stood := { row := lookTellsUptoRow, standIns := [], harness := (true, "9b8db0a00e3a3dc468fbf4dc76380a07a6c7d9e905d14782616ddb73f6894f76"), looks := true }, kinds := [], alts := [], laidByText := true, laidKinds := [.data], laidTests := true, laidLooks := .later }
def LookTellsUptoCardSaid : Prop := Claim7.holds Tryz.pinned (.plain (OpenSpec.upto lookTellsSpec)) lookTellsUptoCard

/-- THE SECOND FORM's CARD OF 'armillarylaw11.LookFinds'. -/
def lookFindsUptoCard : Claim7 := { stood := { row := lookFindsUptoRow, standIns := [], harness := (true, "9b8db0a00e3a3dc468fbf4dc76380a07a6c7d9e905d14782616ddb73f6894f76"), looks := true }, kinds := [], alts := [], laidByText := true, laidKinds := [.data], laidTests := true, laidLooks := .later }
def LookFindsUptoCardSaid : Prop := Claim7.holds Tryz.pinned (.plain (OpenSpec.upto lookFindsSpec)) lookFindsUptoCard

/-- THE SECOND FORM's CARD OF 'armillarylaw11.LookOnce'. -/
def lookOnceUptoCard : Claim7 := { stood := { row := lookOnceUptoRow, standIns := [], harness := (true, "9b8db0a00e3a3dc468fbf4dc76380a07a6c7d9e905d14782616ddb73f6894f76"), looks := true }, kinds := [], alts := [], laidByText := true, laidKinds := [.data], laidTests := true, laidLooks := .later }
def LookOnceUptoCardSaid : Prop := Claim7.holds Tryz.pinned (.plain (OpenSpec.upto lookOnceSpec)) lookOnceUptoCard

/-- THE SECOND FORM's CARD OF 'armillarylaw11.LookMost'. -/
def lookMostUptoCard : Claim7 := { stood := { row := lookMostUptoRow, standIns := [], harness := (true, "9b8db0a00e3a3dc468fbf4dc76380a07a6c7d9e905d14782616ddb73f6894f76"), looks := true }, kinds := [], alts := [], laidByText := true, laidKinds := [.data], laidTests := true, laidLooks := .later }
def LookMostUptoCardSaid : Prop := Claim7.holds Tryz.pinned (.plain (OpenSpec.upto lookMostSpec)) lookMostUptoCard

/-- THE SECOND FORM's CARD OF 'armillarylaw12.GetReads'. -/
def getReadsUptoCard : Claim7 := { stood := { row := getReadsUptoRow, standIns := [], harness := (true, "9b8db0a00e3a3dc468fbf4dc76380a07a6c7d9e905d14782616ddb73f6894f76"), looks := true }, kinds := [], alts := [], laidByText := true, laidKinds := [.data, .data], laidTests := true, laidLooks := .later }
def GetReadsUptoCardSaid : Prop := Claim7.holds Tryz.pinned (.plain (OpenSpec.upto getReadsSpec)) getReadsUptoCard

/-- THE SECOND FORM's CARD OF 'armillarylaw12.GetMoves'. -/
def getMovesUptoCard : Claim7 := { stood := { row := getMovesUptoRow, standIns := [], harness := (true, "9b8db0a00e3a3dc468fbf4dc76380a07a6c7d9e905d14782616ddb73f6894f76"), looks := true }, kinds := [], alts := [], laidByText := true, laidKinds := [.data, .data], laidTests := true, laidLooks := .later }
def GetMovesUptoCardSaid : Prop := Claim7.holds Tryz.pinned (.plain (OpenSpec.upto getMovesSpec)) getMovesUptoCard

/-- THE SECOND FORM's CARD OF 'armillarylaw13.ClaimTells'. -/
def claimTellsUptoCard : Claim7 := { stood := { row := claimTellsUptoRow, standIns := [], harness := (true, "9b8db0a00e3a3dc468fbf4dc76380a07a6c7d9e905d14782616ddb73f6894f76"), looks := true }, kinds := [], alts := [], laidByText := true, laidKinds := [.handle, .data], laidTests := true, laidLooks := .later }
def ClaimTellsUptoCardSaid : Prop := Claim7.holds Tryz.pinned (.plain (OpenSpec.upto claimTellsSpec)) claimTellsUptoCard

/-- THE SECOND FORM's CARD OF 'armillarylaw13.ClaimHelped'. -/
def claimHelpedUptoCard : Claim7 := { stood := { row := claimHelpedUptoRow, standIns := [], harness := (true, "9b8db0a00e3a3dc468fbf4dc76380a07a6c7d9e905d14782616ddb73f6894f76"), looks := true }, kinds := [], alts := [], laidByText := true, laidKinds := [.data], laidTests := true, laidLooks := .later }
def ClaimHelpedUptoCardSaid : Prop := Claim7.holds Tryz.pinned (.plain (OpenSpec.upto claimHelpedSpec)) claimHelpedUptoCard
end Rows
end Go.Proofs.YthokjbikomjhgaaGreatDoor
