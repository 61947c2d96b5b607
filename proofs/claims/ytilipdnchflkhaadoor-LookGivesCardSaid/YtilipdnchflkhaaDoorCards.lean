/-
  DERIVED. GIVEN WITH THE SEED: THE CARDS: each row of YtilipdnchflkhaaDoorRows.lean that lists a variable, with what it lists TIED to the program's text (the seventh form; the later family's looks); each row that meets fmt, with fmt's text TOLD by the authors' own Lean function (tested against real Go, not proved from fmt's source: count such statements apart). THE CARD IS WHAT COUNTS. Prove the row's statement (the work); the ties are given (YtilipdnchflkhaaDoorTie.lean); close each card by the builder's one call (the guide's Derived/Test/ToyasCard.lean, 'card_holds'). Laid BY PROGRAM, IN A SANDBOX (cutbox-door.mjs). By AI agents, Wed Nov 11 2026. No macro, syntax, notation, axiom, sorry.
-/
import Derived.Test.YtilipdnchflkhaaDoorRows
import GoSem.ClaimSeven
namespace Go.Proofs.YtilipdnchflkhaaDoor
namespace Rows

/-- THE TIED CARD OF 'armillarylaw11.LookGives'. -/
def lookGivesCard : Claim7 := { stood := { row := lookGivesRow, standIns := [], harness := (true, "d3c5aa8cfd13c6d438ab9161c08f4be52f3f3f797159700cef6c3235356c26ff"), looks := false }, kinds := [], alts := [], laidByText := true, laidKinds := [.data], laidTests := true, laidLooks := .later }
def LookGivesCardSaid : Prop := Claim7.holds Tryd.pinned (.plain (OpenSpec.ofChange lookGivesSpec)) lookGivesCard

/-- THE SECOND FORM's CARD OF 'armillarylaw11.LookGives'. -/
def lookGivesUptoCard : Claim7 := { stood := { row := lookGivesUptoRow, standIns := [], harness := (true, "d3c5aa8cfd13c6d438ab9161c08f4be52f3f3f797159700cef6c3235356c26ff"), looks := false }, kinds := [], alts := [], laidByText := true, laidKinds := [.data], laidTests := true, laidLooks := .later }
def LookGivesUptoCardSaid : Prop := Claim7.holds Tryd.pinned (.plain (OpenSpec.upto lookGivesSpec)) lookGivesUptoCard
end Rows
end Go.Proofs.YtilipdnchflkhaaDoor
