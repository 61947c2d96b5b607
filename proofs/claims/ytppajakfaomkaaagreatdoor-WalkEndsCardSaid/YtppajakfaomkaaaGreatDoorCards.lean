/-
  DERIVED. GIVEN WITH THE SEED: THE CARDS: each row of YtppajakfaomkaaaGreatDoorRows.lean that lists a variable, with what it lists TIED to the program's text (the seventh form; the later family's looks); each row that meets fmt, with fmt's text TOLD by the authors' own Lean function (tested against real Go, not proved from fmt's source: count such statements apart). THE CARD IS WHAT COUNTS. Prove the row's statement (the work); the ties are given (YtppajakfaomkaaaGreatDoorTie.lean); close each card by the builder's one call (the guide's Derived/Test/ToyasCard.lean, 'card_holds'). Laid BY PROGRAM, IN A SANDBOX (cutbox-door.mjs). By AI agents, Wed Nov 11 2026. No macro, syntax, notation, axiom, sorry.
-/
import Derived.Test.YtppajakfaomkaaaGreatDoorRows
import GoSem.ClaimSeven
namespace Go.Proofs.YtppajakfaomkaaaGreatDoor
namespace Rows

/-- THE TIED CARD OF 'armillarylaw12.GetReads'. -/
def getReadsCard : Claim7 := { stood := { row := getReadsRow, standIns := [], harness := (true, "a1c8772d526a4a113b1ef78b19dff25c1fa93b406cf751a4b6cd54359b2592f2"), looks := false }, kinds := [], alts := [], laidByText := true, laidKinds := [.data, .data], laidTests := true, laidLooks := .later }
def GetReadsCardSaid : Prop := Claim7.holds Tryz.pinned (.plain (OpenSpec.ofChange getReadsSpec)) getReadsCard

/-- THE TIED CARD OF 'armillarylaw12.GetMoves'. -/
def getMovesCard : Claim7 := { stood := { row := getMovesRow, standIns := [], harness := (true, "a1c8772d526a4a113b1ef78b19dff25c1fa93b406cf751a4b6cd54359b2592f2"), looks := false }, kinds := [], alts := [], laidByText := true, laidKinds := [.data, .data], laidTests := true, laidLooks := .later }
def GetMovesCardSaid : Prop := Claim7.holds Tryz.pinned (.plain (OpenSpec.ofChange getMovesSpec)) getMovesCard

/-- THE TIED CARD OF 'armillarylaw10.WalkFinds'. -/
def walkFindsCard : Claim7 := { stood := { row := walkFindsRow, standIns := [], harness := (true, "a1c8772d526a4a113b1ef78b19dff25c1fa93b406cf751a4b6cd54359b2592f2"), looks := false }, kinds := [], alts := [], laidByText := true, laidKinds := [.data], laidTests := true, laidLooks := .later }
def WalkFindsCardSaid : Prop := Claim7.holds Tryz.pinned (.plain (OpenSpec.ofChange walkFindsSpec)) walkFindsCard

/-- THE TIED CARD OF 'armillarylaw10.WalkHints'. -/
def walkHintsCard : Claim7 := { stood := { row := walkHintsRow, standIns := [], harness := (true, "a1c8772d526a4a113b1ef78b19dff25c1fa93b406cf751a4b6cd54359b2592f2"), looks := false }, kinds := [], alts := [], laidByText := true, laidKinds := [.data], laidTests := true, laidLooks := .later }
def WalkHintsCardSaid : Prop := Claim7.holds Tryz.pinned (.plain (OpenSpec.ofChange walkHintsSpec)) walkHintsCard

/-- THE TIED CARD OF 'armillarylaw10.WalkMoves'. -/
def walkMovesCard : Claim7 := { stood := { row := walkMovesRow, standIns := [], harness := (true, "a1c8772d526a4a113b1ef78b19dff25c1fa93b406cf751a4b6cd54359b2592f2"), looks := false }, kinds := [], alts := [], laidByText := true, laidKinds := [.data], laidTests := true, laidLooks := .later }
def WalkMovesCardSaid : Prop := Claim7.holds Tryz.pinned (.plain (OpenSpec.ofChange walkMovesSpec)) walkMovesCard

/-- THE TIED CARD OF 'armillarylaw10.WalkEnds'. -/
def walkEndsCard : Claim7 := { stood := { row := walkEndsRow, standIns := [], harness := (true, "a1c8772d526a4a113b1ef78b19dff25c1fa93b406cf751a4b6cd54359b2592f2"), looks := false }, kinds := [], alts := [], laidByText := true, laidKinds := [.data], laidTests := true, laidLooks := .later }
def WalkEndsCardSaid : Prop := Claim7.holds Tryz.pinned (.plain (OpenSpec.ofChange walkEndsSpec)) walkEndsCard

/-- THE TIED CARD OF 'armillarylaw11.LookTells'. -/
def lookTellsCard : Claim7 := { stood := { row := lookTellsRow, standIns := [], harness := (true, "a1c8772d526a4a113b1ef78b19dff25c1fa93b406cf751a4b6cd54359b2592f2"), looks := false }, kinds := [], alts := [], laidByText := true, laidKinds := [.data], laidTests := true, laidLooks := .later }
def LookTellsCardSaid : Prop := Claim7.holds Tryz.pinned (.plain (OpenSpec.ofChange lookTellsSpec)) lookTellsCard

/-- THE TIED CARD OF 'armillarylaw11.LookFinds'. -/
def lookFindsCard : Claim7 := { stood := { row := lookFindsRow, standIns := [], harness := (true, "a1c8772d526a4a113b1ef78b19dff25c1fa93b406cf751a4b6cd54359b2592f2"), looks := false }, kinds := [], alts := [], laidByText := true, laidKinds := [.data], laidTests := true, laidLooks := .later }
def LookFindsCardSaid : Prop := Claim7.holds Tryz.pinned (.plain (OpenSpec.ofChange lookFindsSpec)) lookFindsCard

/-- THE TIED CARD OF 'armillarylaw11.LookOnce'. -/
def lookOnceCard : Claim7 := { stood := { row := lookOnceRow, standIns := [], harness := (true, "a1c8772d526a4a113b1ef78b19dff25c1fa93b406cf751a4b6cd54359b2592f2"), looks := false }, kinds := [], alts := [], laidByText := true, laidKinds := [.data], laidTests := true, laidLooks := .later }
def LookOnceCardSaid : Prop := Claim7.holds Tryz.pinned (.plain (OpenSpec.ofChange lookOnceSpec)) lookOnceCard

/-- THE SECOND FORM's CARD OF 'armillarylaw12.GetReads'. -/
def getReadsUptoCard : Claim7 := { stood := { row := getReadsUptoRow, standIns := [], harness := (true, "a1c8772d526a4a113b1ef78b19dff25c1fa93b406cf751a4b6cd54359b2592f2"), looks := false }, kinds := [], alts := [], laidByText := true, laidKinds := [.data, .data], laidTests := true, laidLooks := .later }
def GetReadsUptoCardSaid : Prop := Claim7.holds Tryz.pinned (.plain (OpenSpec.upto getReadsSpec)) getReadsUptoCard

/-- THE SECOND FORM's CARD OF 'armillarylaw12.GetMoves'. -/
def getMovesUptoCard : Claim7 := { stood := { row := getMovesUptoRow, standIns := [], harness := (true, "a1c8772d526a4a113b1ef78b19dff25c1fa93b406cf751a4b6cd54359b2592f2"), looks := false }, kinds := [], alts := [], laidByText := true, laidKinds := [.data, .data], laidTests := true, laidLooks := .later }
def GetMovesUptoCardSaid : Prop := Claim7.holds Tryz.pinned (.plain (OpenSpec.upto getMovesSpec)) getMovesUptoCard

/-- THE SECOND FORM's CARD OF 'armillarylaw10.WalkFinds'. -/
def walkFindsUptoCard : Claim7 := { stood := { row := walkFindsUptoRow, standIns := [], harness := (true, "a1c8772d526a4a113b1ef78b19dff25c1fa93b406cf751a4b6cd54359b2592f2"), looks := false }, kinds := [], alts := [], laidByText := true, laidKinds := [.data], laidTests := true, laidLooks := .later }
def WalkFindsUptoCardSaid : Prop := Claim7.holds Tryz.pinned (.plain (OpenSpec.upto walkFindsSpec)) walkFindsUptoCard

/-- THE SECOND FORM's CARD OF 'armillarylaw10.WalkHints'. -/
def walkHintsUptoCard : Claim7 := { stood := { row := walkHintsUptoRow, standIns := [], harness := (true, "a1c8772d526a4a113b1ef78b19dff25c1fa93b406cf751a4b6cd54359b2592f2"), looks := false }, kinds := [], alts := [], laidByText := true, laidKinds := [.data], laidTests := true, laidLooks := .later }
def WalkHintsUptoCardSaid : Prop := Claim7.holds Tryz.pinned (.plain (OpenSpec.upto walkHintsSpec)) walkHintsUptoCard

/-- THE SECOND FORM's CARD OF 'armillarylaw10.WalkMoves'. -/
def walkMovesUptoCard : Claim7 := { stood := { row := walkMovesUptoRow, standIns := [], harness := (true, "a1c8772d526a4a113b1ef78b19dff25c1fa93b406cf751a4b6cd54359b2592f2"), looks := false }, kinds := [], alts := [], laidByText := true, laidKinds := [.data], laidTests := true, laidLooks := .later }
def WalkMovesUptoCardSaid : Prop := Claim7.holds Tryz.pinned (.plain (OpenSpec.upto walkMovesSpec)) walkMovesUptoCard

/-- THE SECOND FORM's CARD OF 'armillarylaw10.WalkEnds'. -/
def walkEndsUptoCard : Claim7 := { stood := { row := walkEndsUptoRow, standIns := [], harness := (true, "a1c8772d526a4a113b1ef78b19dff25c1fa93b406cf751a4b6cd54359b2592f2"), looks := false }, kinds := [], alts := [], laidByText := true, laidKinds := [.data], laidTests := true, laidLooks := .later }
def WalkEndsUptoCardSaid : Prop := Claim7.holds Tryz.pinned (.plain (OpenSpec.upto walkEndsSpec)) walkEndsUptoCard

/-- THE SECOND FORM's CARD OF 'armillarylaw11.LookTells'. -/
def lookTellsUptoCard : Claim7 := { stood := { row := lookTellsUptoRow, standIns := [], harness := (true, "a1c8772d526a4a113b1ef78b19dff25c1fa93b406cf751a4b6cd54359b2592f2"), looks := false }, kinds := [], alts := [], laidByText := true, laidKinds := [.data], laidTests := true, laidLooks := .later }
def LookTellsUptoCardSaid : Prop := Claim7.holds Tryz.pinned (.plain (OpenSpec.upto lookTellsSpec)) lookTellsUptoCard

/-- THE SECOND FORM's CARD OF 'armillarylaw11.LookFinds'. -/
def lookFindsUptoCard : Claim7 := { stood := { row := lookFindsUptoRow, standIns := [], harness := (true, "a1c8772d526a4a113b1ef78b19dff25c1fa93b406cf751a4b6cd54359b2592f2"), looks := false }, kinds := [], alts := [], laidByText := true, laidKinds := [.data], laidTests := true, laidLooks := .later }
def LookFindsUptoCardSaid : Prop := Claim7.holds Tryz.pinned (.plain (OpenSpec.upto lookFindsSpec)) lookFindsUptoCard

/-- THE SECOND FORM's CARD OF 'armillarylaw11.LookOnce'. -/
def lookOnceUptoCard : Claim7 := { stood := { row := lookOnceUptoRow, standIns := [], harness := (true, "a1c8772d526a4a113b1ef78b19dff25c1fa93b406cf751a4b6cd54359b2592f2"), looks := false }, kinds := [], alts := [], laidByText := true, laidKinds := [.data], laidTests := true, laidLooks := .later }
def LookOnceUptoCardSaid : Prop := Claim7.holds Tryz.pinned (.plain (OpenSpec.upto lookOnceSpec)) lookOnceUptoCard
end Rows
end Go.Proofs.YtppajakfaomkaaaGreatDoor
