/-
  DERIVED. GIVEN WITH THE SEED: THE CARDS: each row of YtbddhncgemeohaaGreatDoorRows.lean that lists a variable, with what it lists TIED to the program's text (the seventh form; the later family's looks); each row that meets fmt, with fmt's text TOLD by the authors' own Lean function (tested against real Go, not proved from fmt's source: count such statements apart). THE CARD IS WHAT COUNTS. Prove the row's statement (the work); the ties are given (YtbddhncgemeohaaGreatDoorTie.lean); close each card by the builder's one call (the guide's Derived/Test/ToyasCard.lean, 'card_holds'). Laid BY PROGRAM, IN A SANDBOX (cutbox-door.mjs). By AI agents, Wed Nov 11 2026. No macro, syntax, notation, axiom, sorry.
-/
import Derived.Test.YtbddhncgemeohaaGreatDoorRows
import GoSem.ClaimSeven
namespace Go.Proofs.YtbddhncgemeohaaGreatDoor
namespace Rows

/-- THE TIED CARD OF 'armillarylaw10.WalkFinds'. -/
def walkFindsCard : Claim7 := { stood := { row := walkFindsRow, standIns := [], harness := (true, "d996a24eef8bc12791705c543cd41c061a884f7b39b9c0371e8aa91ff9ac5cf1"), looks := false }, kinds := [], alts := [], laidByText := true, laidKinds := [.data], laidTests := true, laidLooks := .later }
def WalkFindsCardSaid : Prop := Claim7.holds Tryz.pinned (.plain (OpenSpec.ofChange walkFindsSpec)) walkFindsCard

/-- THE TIED CARD OF 'armillarylaw10.WalkHints'. -/
def walkHintsCard : Claim7 := { stood := { row := walkHintsRow, standIns := [], harness := (true, "d996a24eef8bc12791705c543cd41c061a884f7b39b9c0371e8aa91ff9ac5cf1"), looks := false }, kinds := [], alts := [], laidByText := true, laidKinds := [.data], laidTests := true, laidLooks := .later }
def WalkHintsCardSaid : Prop := Claim7.holds Tryz.pinned (.plain (OpenSpec.ofChange walkHintsSpec)) walkHintsCard

/-- THE SECOND FORM's CARD OF 'armillarylaw10.WalkFinds'. -/
def walkFindsUptoCard : Claim7 := { stood := { row := walkFindsUptoRow, standIns := [], harness := (true, "d996a24eef8bc12791705c543cd41c061a884f7b39b9c0371e8aa91ff9ac5cf1"), looks := false }, kinds := [], alts := [], laidByText := true, laidKinds := [.data], laidTests := true, laidLooks := .later }
def WalkFindsUptoCardSaid : Prop := Claim7.holds Tryz.pinned (.plain (OpenSpec.upto walkFindsSpec)) walkFindsUptoCard

/-- THE SECOND FORM's CARD OF 'armillarylaw10.WalkHints'. -/
def walkHintsUptoCard : Claim7 := { stood := { row := walkHintsUptoRow, standIns := [], harness := (true, "d996a24eef8bc12791705c543cd41c061a884f7b39b9c0371e8aa91ff9ac5cf1"), looks := false }, kinds := [], alts := [], laidByText := true, laidKinds := [.data], laidTests := true, laidLooks := .later }
def WalkHintsUptoCardSaid : Prop := Claim7.holds Tryz.pinned (.plain (OpenSpec.upto walkHintsSpec)) walkHintsUptoCard
end Rows
end Go.Proofs.YtbddhncgemeohaaGreatDoor
