/-
  DERIVED. GIVEN WITH THE SEED: THE CARDS: each row of YtnaahjlpldnjjaaGreatDoorRows.lean that lists a variable, with what it lists TIED to the program's text (the seventh form; the later family's looks); each row that meets fmt, with fmt's text TOLD by the authors' own Lean function (tested against real Go, not proved from fmt's source: count such statements apart). THE CARD IS WHAT COUNTS. Prove the row's statement (the work); the ties are given (YtnaahjlpldnjjaaGreatDoorTie.lean); close each card by the builder's one call (the guide's Derived/Test/ToyasCard.lean, 'card_holds'). Laid BY PROGRAM, IN A SANDBOX (cutbox-door.mjs). By AI agents, Wed Nov 11 2026. No macro, syntax, notation, axiom, sorry.
-/
import Derived.Test.YtnaahjlpldnjjaaGreatDoorRows
import GoSem.ClaimSeven
namespace Go.Proofs.YtnaahjlpldnjjaaGreatDoor
namespace Rows

/-- THE TIED CARD OF 'armillarylaw14.ScanReads'. -/
def scanReadsCard : Claim7 := { stood := { row := scanReadsRow, standIns := [], harness := (true, "41bdb48020805f7d9934e299638784630030bba0b8e243f6dd7e5eff266fc0cb"), looks := true }, kinds := [], alts := [], laidByText := true, laidKinds := [.handle, .data, .data], laidTests := true, laidLooks := .later }
def ScanReadsCardSaid : Prop := Claim7.holds Tryz.pinned (.plain (OpenSpec.ofChange scanReadsSpec)) scanReadsCard

/-- THE TIED CARD OF 'armillarylaw14.ScanParts'. -/
def scanPartsCard : Claim7 := { stood := { row := scanPartsRow, standIns := [], harness := (true, "41bdb48020805f7d9934e299638784630030bba0b8e243f6dd7e5eff266fc0cb"), looks := true }, kinds := [], alts := [], laidByText := true, laidKinds := [.handle, .data, .data], laidTests := true, laidLooks := .later }
def ScanPartsCardSaid : Prop := Claim7.holds Tryz.pinned (.plain (OpenSpec.ofChange scanPartsSpec)) scanPartsCard

/-- THE TIED CARD OF 'armillarylaw14.ScanVersions'. -/
def scanVersionsCard : Claim7 := { stood := { row := scanVersionsRow, standIns := [], harness := (true, "41bdb48020805f7d9934e299638784630030bba0b8e243f6dd7e5eff266fc0cb"), looks := true }, kinds := [], alts := [], laidByText := true, laidKinds := [.handle, .data, .data], laidTests := true, laidLooks := .later }
def ScanVersionsCardSaid : Prop := Claim7.holds Tryz.pinned (.plain (OpenSpec.ofChange scanVersionsSpec)) scanVersionsCard

/-- THE TIED CARD OF 'armillarylaw12.GetReads'. -/
def getReadsCard : Claim7 := { stood := { row := getReadsRow, standIns := [], harness := (true, "41bdb48020805f7d9934e299638784630030bba0b8e243f6dd7e5eff266fc0cb"), looks := true }, kinds := [], alts := [], laidByText := true, laidKinds := [.data, .data], laidTests := true, laidLooks := .later }
def GetReadsCardSaid : Prop := Claim7.holds Tryz.pinned (.plain (OpenSpec.ofChange getReadsSpec)) getReadsCard

/-- THE TIED CARD OF 'armillarylaw13.ClaimHelped'. -/
def claimHelpedCard : Claim7 := { stood := { row := claimHelpedRow, standIns := [], harness := (true, "41bdb48020805f7d9934e299638784630030bba0b8e243f6dd7e5eff266fc0cb"), looks := true }, kinds := [], alts := [], laidByText := true, laidKinds := [.data], laidTests := true, laidLooks := .later }
def ClaimHelpedCardSaid : Prop := Claim7.holds Tryz.pinned (.plain (OpenSpec.ofChange claimHelpedSpec)) claimHelpedCard

/-- THE TIED CARD OF 'armillarylaw11.LookMost'. -/
def lookMostCard : Claim7 := { stood := { row := lookMostRow, standIns := [], harness := (true, "41bdb48020805f7d9934e299638784630030bba0b8e243f6dd7e5eff266fc0cb"), looks := true }, kinds := [], alts := [], laidByText := true, laidKinds := [.data], laidTests := true, laidLooks := .later }
def LookMostCardSaid : Prop := Claim7.holds Tryz.pinned (.plain (OpenSpec.ofChange lookMostSpec)) lookMostCard

/-- THE TIED CARD OF 'armillarylaw10.WalkMoves'. -/
def walkMovesCard : Claim7 := { stood := { row := walkMovesRow, standIns := [], harness := (true, "41bdb48020805f7d9934e299638784630030bba0b8e243f6dd7e5eff266fc0cb"), looks := true }, kinds := [], alts := [], laidByText := true, laidKinds := [.data], laidTests := true, laidLooks := .later }
def WalkMovesCardSaid : Prop := Claim7.holds Tryz.pinned (.plain (OpenSpec.ofChange walkMovesSpec)) walkMovesCard

/-- THE SECOND FORM's CARD OF 'armillarylaw14.ScanReads'. -/
def scanReadsUptoCard : Claim7 := { stood := { row := scanReadsUptoRow, standIns := [], harness := (true, "41bdb48020805f7d9934e299638784630030bba0b8e243f6dd7e5eff266fc0cb"), looks := true }, kinds := [], alts := [], laidByText := true, laidKinds := [.handle, .data, .data], laidTests := true, laidLooks := .later }
def ScanReadsUptoCardSaid : Prop := Claim7.holds Tryz.pinned (.plain (OpenSpec.upto scanReadsSpec)) scanReadsUptoCard

/-- THE SECOND FORM's CARD OF 'armillarylaw14.ScanParts'. -/
def scanPartsUptoCard : Claim7 := { stood := { row := scanPartsUptoRow, standIns := [], harness := (true, "41bdb48020805f7d9934e299638784630030bba0b8e243f6dd7e5eff266fc0cb"), looks := true }, kinds := [], alts := [], laidByText := true, laidKinds := [.handle, .data, .data], laidTests := true, laidLooks := .later }
def ScanPartsUptoCardSaid : Prop := Claim7.holds Tryz.pinned (.plain (OpenSpec.upto scanPartsSpec)) scanPartsUptoCard

/-- THE SECOND FORM's CARD OF 'armillarylaw14.ScanVersions'. -/
def scanVersionsUptoCard : Claim7 := { stood := { row := scanVersionsUptoRow, standIns := [], harness := (true, "41bdb48020805f7d9934e299638784630030bba0b8e243f6dd7e5eff266fc0cb"), looks := true }, kinds := [], alts := [], laidByText := true, laidKinds := [.handle, .data, .data], laidTests := true, laidLooks := .later }
def ScanVersionsUptoCardSaid : Prop := Claim7.holds Tryz.pinned (.plain (OpenSpec.upto scanVersionsSpec)) scanVersionsUptoCard

/-- THE SECOND FORM's CARD OF 'armillarylaw12.GetReads'. -/
def getReadsUptoCard : Claim7 := { stood := { row := getReadsUptoRow, standIns := [], harness := (true, "41bdb48020805f7d9934e299638784630030bba0b8e243f6dd7e5eff266fc0cb"), looks := true }, kinds := [], alts := [], laidByText := true, laidKinds := [.data, .data], laidTests := true, laidLooks := .later }
def GetReadsUptoCardSaid : Prop := Claim7.holds Tryz.pinned (.plain (OpenSpec.upto getReadsSpec)) getReadsUptoCard

/-- THE SECOND FORM's CARD OF 'armillarylaw13.ClaimHelped'. -/
def claimHelpedUptoCard : Claim7 := { stood := { row := claimHelpedUptoRow, standIns := [], harness := (true, "41bdb48020805f7d9934e299638784630030bba0b8e243f6dd7e5eff266fc0cb"), looks := true }, kinds := [], alts := [], laidByText := true, laidKinds := [.data], laidTests := true, laidLooks := .later }
def ClaimHelpedUptoCardSaid : Prop := Claim7.holds Tryz.pinned (.plain (OpenSpec.upto claimHelpedSpec)) claimHelpedUptoCard

/-- THE SECOND FORM's CARD OF 'armillarylaw11.LookMost'. -/
def lookMostUptoCard : Claim7 := { stood := { row := lookMostUptoRow, standIns := [], harness := (true, "41bdb48020805f7d9934e299638784630030bba0b8e243f6dd7e5eff266fc0cb"), looks := true }, kinds := [], alts := [], laidByText := true, laidKinds := [.data], laidTests := true, laidLooks := .later }
def LookMostUptoCardSaid : Prop := Claim7.holds Tryz.pinned (.plain (OpenSpec.upto lookMostSpec)) lookMostUptoCard

/-- THE SECOND FORM's CARD OF 'armillarylaw10.WalkMoves'. -/
def walkMovesUptoCard : Claim7 := { stood := { row := walkMovesUptoRow, standIns := [], harness := (true, "41bdb48020805f7d9934e299638784630030bba0b8e243f6dd7e5eff266fc0cb"), looks := true }, kinds := [], alts := [], laidByText := true, laidKinds := [.data], laidTests := true, laidLooks := .later }
def WalkMovesUptoCardSaid : Prop := Claim7.holds Tryz.pinned (.plain (OpenSpec.upto walkMovesSpec)) walkMovesUptoCard
end Rows
end Go.Proofs.YtnaahjlpldnjjaaGreatDoor
