/-
  DERIVED. GIVEN WITH THE SEED: THE CARDS: each row of YtjhefbenmhmbcaaDoorRows.lean that lists a variable, with what it lists TIED to the program's text (the seventh form; the later family's looks); each row that meets fmt, with fmt's text TOLD by the authors' own Lean function (tested against real Go, not proved from fmt's source: count such statements apart). THE CARD IS WHAT COUNTS. Prove the row's statement (the work); the ties are given (YtjhefbenmhmbcaaDoorTie.lean); close each card by the builder's one call (the guide's Derived/Test/ToyasCard.lean, 'card_holds'). Laid BY PROGRAM, IN A SANDBOX (cutbox-door.mjs). By AI agents, Wed Nov 11 2026. No macro, syntax, notation, axiom, sorry.
-/
import Derived.Test.YtjhefbenmhmbcaaDoorRows
import GoSem.ClaimSeven
namespace Go.Proofs.YtjhefbenmhmbcaaDoor
namespace Rows

/-- THE TIED CARD OF 'armillarylaw12.GetItems'. -/
def getItemsCard : Claim7 := { stood := { row := getItemsRow, standIns := [], harness := (true, "3f03d6ee02bc2424b303ab7a8b427e5177376d24a192d732b8f4e743ad6e605b"), looks := false }, kinds := [], alts := [], laidByText := true, laidKinds := [.data, .data], laidTests := true, laidLooks := .later }
def GetItemsCardSaid : Prop := Claim7.holds Tryd.pinned (.plain (OpenSpec.ofChange getItemsSpec)) getItemsCard

/-- THE SECOND FORM's CARD OF 'armillarylaw12.GetItems'. -/
def getItemsUptoCard : Claim7 := { stood := { row := getItemsUptoRow, standIns := [], harness := (true, "3f03d6ee02bc2424b303ab7a8b427e5177376d24a192d732b8f4e743ad6e605b"), looks := false }, kinds := [], alts := [], laidByText := true, laidKinds := [.data, .data], laidTests := true, laidLooks := .later }
def GetItemsUptoCardSaid : Prop := Claim7.holds Tryd.pinned (.plain (OpenSpec.upto getItemsSpec)) getItemsUptoCard
end Rows
end Go.Proofs.YtjhefbenmhmbcaaDoor
