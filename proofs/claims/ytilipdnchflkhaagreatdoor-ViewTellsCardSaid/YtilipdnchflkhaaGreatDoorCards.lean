/-
  DERIVED. GIVEN WITH THE SEED: THE CARDS: each row of YtilipdnchflkhaaGreatDoorRows.lean that lists a variable, with what it lists TIED to the program's text (the seventh form; the later family's looks); each row that meets fmt, with fmt's text TOLD by the authors' own Lean function (tested against real Go, not proved from fmt's source: count such statements apart). THE CARD IS WHAT COUNTS. Prove the row's statement (the work); the ties are given (YtilipdnchflkhaaGreatDoorTie.lean); close each card by the builder's one call (the guide's Derived/Test/ToyasCard.lean, 'card_holds'). Laid BY PROGRAM, IN A SANDBOX (cutbox-door.mjs). By AI agents, Wed Nov 11 2026. No macro, syntax, notation, axiom, sorry.
-/
import Derived.Test.YtilipdnchflkhaaGreatDoorRows
import GoSem.ClaimSeven
namespace Go.Proofs.YtilipdnchflkhaaGreatDoor
namespace Rows

/-- THE TIED CARD OF 'armillarylaw11.LookTells'. -/
def lookTellsCard : Claim7 := { stood := { row := lookTellsRow, standIns := [], harness := (true, "365bcf63a1f6eeb664db89b017ccb1bc11caa351eb4b9a37e23130aa73c4df83"), looks := true }, kinds := [], alts := [], laidByText := true, laidKinds := [.data], laidTests := true, laidLooks := .later }
def LookTellsCardSaid : Prop := Claim7.holds Tryz.pinned (.plain (OpenSpec.ofChange lookTellsSpec)) lookTellsCard

/-- THE TIED CARD OF 'armillarylaw11.LookFinds'. -/
def lookFindsCard : Claim7 := { stood := { row := lookFindsRow, standIns := [], harness := (true, "365bcf63a1f6eeb664db89b017ccb1bc11caa351eb4b9a37e23130aa73c4df83"), looks := true }, kinds := [], alts := [], laidByText := true, laidKinds := [.data], laidTests := true, laidLooks := .later }
def LookFindsCardSaid : Prop := Claim7.holds Tryz.pinned (.plain (OpenSpec.ofChange lookFindsSpec)) lookFindsCard

/-- THE TIED CARD OF 'armillarylaw11.LookOnce'. -/
def lookOnceCard : Claim7 := { stood := { row := lookOnceRow, standIns := [], harness := (true, "365bcf63a1f6eeb664db89b017ccb1bc11caa351eb4b9a37e23130aa73c4df83"), looks := true }, kinds := [], alts := [], laidByText := true, laidKinds := [.data], laidTests := true, laidLooks := .later }
def LookOnceCardSaid : Prop := Claim7.holds Tryz.pinned (.plain (OpenSpec.ofChange lookOnceSpec)) lookOnceCard

/-- THE TIED CARD OF 'armillarylaw11.LookMost'. -/
def lookMostCard : Claim7 := { stood := { row := lookMostRow, standIns := [], harness := (true, "365bcf63a1f6eeb664db89b017ccb1bc11caa351eb4b9a37e23130aa73c4df83"), looks := true }, kinds := [], alts := [], laidByText := true, laidKinds := [.data], laidTests := true, laidLooks := .later }
def LookMostCardSaid : Prop := Claim7.holds Tryz.pinned (.plain (OpenSpec.ofChange lookMostSpec)) lookMostCard

/-- THE TIED CARD OF 'armillarylaw6.ViewTells'. -/
def viewTellsCard : Claim7 := { stood := { row := viewTellsRow, standIns := [], harness := (true, "365bcf63a1f6eeb664db89b017ccb1bc11caa351eb4b9a37e23130aa73c4df83"), looks := true }, kinds := [], alts := [], laidByText := true, laidKinds := [.handle], laidTests := true, laidLooks := .later }
def ViewTellsCardSaid : Prop := Claim7.holds Tryz.pinned (.plain (OpenSpec.ofChange viewTellsSpec)) viewTellsCard

/-- THE TIED CARD OF 'armillarylaw10.WalkFinds'. -/
def walkFindsCard : Claim7 := { stood := { row := walkFindsRow, standIns := [], harness := (true, "365bcf63a1f6eeb664db89b017ccb1bc11caa351eb4b9a37e23130aa73c4df83"), looks := true }, kinds := [], alts := [], laidByText := true, laidKinds := [.data], laidTests := true, laidLooks := .later }
def WalkFindsCardSaid : Prop := Claim7.holds Tryz.pinned (.plain (OpenSpec.ofChange walkFindsSpec)) walkFindsCard

/-- THE TIED CARD OF 'armillarylaw10.WalkHints'. -/
def walkHintsCard : Claim7 := { stood := { row := walkHintsRow, standIns := [], harness := (true, "365bcf63a1f6eeb664db89b017ccb1bc11caa351eb4b9a37e23130aa73c4df83"), looks := true }, kinds := [], alts := [], laidByText := true, laidKinds := [.data], laidTests := true, laidLooks := .later }
def WalkHintsCardSaid : Prop := Claim7.holds Tryz.pinned (.plain (OpenSpec.ofChange walkHintsSpec)) walkHintsCard

/-- THE TIED CARD OF 'armillarylaw10.WalkMoves'. -/
def walkMovesCard : Claim7 := { stood := { row := walkMovesRow, standIns := [], harness := (true, "365bcf63a1f6eeb664db89b017ccb1bc11caa351eb4b9a37e23130aa73c4df83"), looks := true }, kinds := [], alts := [], laidByText := true, laidKinds := [.data], laidTests := true, laidLooks := .later }
def WalkMovesCardSaid : Prop := Claim7.holds Tryz.pinned (.plain (OpenSpec.ofChange walkMovesSpec)) walkMovesCard

/-- THE TIED CARD OF 'armillarylaw10.WalkEnds'. -/
def walkEndsCard : Claim7 := { stood := { row := walkEndsRow, standIns := [], harness := (true, "365bcf63a1f6eeb664db89b017ccb1bc11caa351eb4b9a37e23130aa73c4df83"), looks := true }, kinds := [], alts := [], laidByText := true, laidKinds := [.data], laidTests := true, laidLooks := .later }
def WalkEndsCardSaid : Prop := Claim7.holds Tryz.pinned (.plain (OpenSpec.ofChange walkEndsSpec)) walkEndsCard

/-- THE SECOND FORM's CARD OF 'armillarylaw11.LookTells'. -/
def lookTellsUptoCard : Claim7 := { stood := { row := lookTellsUptoRow, standIns := [], harness := (true, "365bcf63a1f6eeb664db89b017ccb1bc11caa351eb4b9a37e23130aa73c4df83"), looks := true }, kinds := [], alts := [], laidByText := true, laidKinds := [.data], laidTests := true, laidLooks := .later }
def LookTellsUptoCardSaid : Prop := Claim7.holds Tryz.pinned (.plain (OpenSpec.upto lookTellsSpec)) lookTellsUptoCard

/-- THE SECOND FORM's CARD OF 'armillarylaw11.LookFinds'. -/
def lookFindsUptoCard : Claim7 := { stood := { row := lookFindsUptoRow, standIns := [], harness := (true, "365bcf63a1f6eeb664db89b017ccb1bc11caa351eb4b9a37e23130aa73c4df83"), looks := true }, kinds := [], alts := [], laidByText := true, laidKinds := [.data], laidTests := true, laidLooks := .later }
def LookFindsUptoCardSaid : Prop := Claim7.holds Tryz.pinned (.plain (OpenSpec.upto lookFindsSpec)) lookFindsUptoCard

/-- THE SECOND FORM's CARD OF 'armillarylaw11.LookOnce'. -/
def lookOnceUptoCard : Claim7 := { stood := { row := lookOnceUptoRow, standIns := [], harness := (true, "365bcf63a1f6eeb664db89b017ccb1bc11caa351eb4b9a37e23130aa73c4df83"), looks := true }, kinds := [], alts := [], laidByText := true, laidKinds := [.data], laidTests := true, laidLooks := .later }
def LookOnceUptoCardSaid : Prop := Claim7.holds Tryz.pinned (.plain (OpenSpec.upto lookOnceSpec)) lookOnceUptoCard

/-- THE SECOND FORM's CARD OF 'armillarylaw11.LookMost'. -/
def lookMostUptoCard : Claim7 := { stood := { row := lookMostUptoRow, standIns := [], harness := (true, "365bcf63a1f6eeb664db89b017ccb1bc11caa351eb4b9a37e23130aa73c4df83"), looks := true }, kinds := [], alts := [], laidByText := true, laidKinds := [.data], laidTests := true, laidLooks := .later }
def LookMostUptoCardSaid : Prop := Claim7.holds Tryz.pinned (.plain (OpenSpec.upto lookMostSpec)) lookMostUptoCard

/-- THE SECOND FORM's CARD OF 'armillarylaw6.ViewTells'. -/
def viewTellsUptoCard : Claim7 := { stood := { row := viewTellsUptoRow, standIns := [], harness := (true, "365bcf63a1f6eeb664db89b017ccb1bc11caa351eb4b9a37e23130aa73c4df83"), looks := true }, kinds := [], alts := [], laidByText := true, laidKinds := [.handle], laidTests := true, laidLooks := .later }
def ViewTellsUptoCardSaid : Prop := Claim7.holds Tryz.pinned (.plain (OpenSpec.upto viewTellsSpec)) viewTellsUptoCard

/-- THE SECOND FORM's CARD OF 'armillarylaw10.WalkFinds'. -/
def walkFindsUptoCard : Claim7 := { stood := { row := walkFindsUptoRow, standIns := [], harness := (true, "365bcf63a1f6eeb664db89b017ccb1bc11caa351eb4b9a37e23130aa73c4df83"), looks := true }, kinds := [], alts := [], laidByText := true, laidKinds := [.data], laidTests := true, laidLooks := .later }
def WalkFindsUptoCardSaid : Prop := Claim7.holds Tryz.pinned (.plain (OpenSpec.upto walkFindsSpec)) walkFindsUptoCard

/-- THE SECOND FORM's CARD OF 'armillarylaw10.WalkHints'. -/
def walkHintsUptoCard : Claim7 := { stood := { row := walkHintsUptoRow, standIns := [], harness := (true, "365bcf63a1f6eeb664db89b017ccb1bc11caa351eb4b9a37e23130aa73c4df83"), looks := true }, kinds := [], alts := [], laidByText := true, laidKinds := [.data], laidTests := true, laidLooks := .later }
def WalkHintsUptoCardSaid : Prop := Claim7.holds Tryz.pinned (.plain (OpenSpec.upto walkHintsSpec)) walkHintsUptoCard

/-- THE SECOND FORM's CARD OF 'armillarylaw10.WalkMoves'. -/
def walkMovesUptoCard : Claim7 := { stood := { row := walkMovesUptoRow, standIns := [], harness := (true, "365bcf63a1f6eeb664db89b017ccb1bc11caa351eb4b9a37e23130aa73c4df83"), looks := true }, kinds := [], alts := [], laidByText := true, laidKinds := [.data], laidTests := true, laidLooks := .later }
def WalkMovesUptoCardSaid : Prop := Claim7.holds Tryz.pinned (.plain (OpenSpec.upto walkMovesSpec)) walkMovesUptoCard

/-- THE SECOND FORM's CARD OF 'armillarylaw10.WalkEnds'. -/
def walkEndsUptoCard : Claim7 := { stood := { row := walkEndsUptoRow, standIns := [], harness := (true, "365bcf63a1f6eeb664db89b017ccb1bc11caa351eb4b9a37e23130aa73c4df83"), looks := true }, kinds := [], alts := [], laidByText := true, laidKinds := [.data], laidTests := true, laidLooks := .later }
def WalkEndsUptoCardSaid : Prop := Claim7.holds Tryz.pinned (.plain (OpenSpec.upto walkEndsSpec)) walkEndsUptoCard
end Rows
end Go.Proofs.YtilipdnchflkhaaGreatDoor
