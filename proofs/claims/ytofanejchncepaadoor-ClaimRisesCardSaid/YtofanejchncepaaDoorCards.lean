/-
  DERIVED. GIVEN WITH THE SEED: THE CARDS: each row of YtofanejchncepaaDoorRows.lean that lists a variable, with what it lists TIED to the program's text (the seventh form; the later family's looks); each row that meets fmt, with fmt's text TOLD by the authors' own Lean function (tested against real Go, not proved from fmt's source: count such statements apart). THE CARD IS WHAT COUNTS. Prove the row's statement (the work); the ties are given (YtofanejchncepaaDoorTie.lean); close each card by the builder's one call (the guide's Derived/Test/ToyasCard.lean, 'card_holds'). Laid BY PROGRAM, IN A SANDBOX (cutbox-door.mjs). By AI agents, Wed Nov 11 2026. No macro, syntax, notation, axiom, sorry.
-/
import Derived.Test.YtofanejchncepaaDoorRows
import GoSem.ClaimSeven
namespace Go.Proofs.YtofanejchncepaaDoor
namespace Rows

/-- THE TIED CARD OF 'armillarylaw12.GetItems'. -/
def getItemsCard : Claim7 := { stood := { row := getItemsRow, standIns := [], harness := (true, "2c03bb8bc2627313dfd5a9c7b450bf2a2f72c6cda8eba6adce59673697b0898b"), looks := true }, kinds := [], alts := [], laidByText := true, laidKinds := [.data, .data], laidTests := true, laidLooks := .later }
def GetItemsCardSaid : Prop := Claim7.holds Tryd.pinned (.plain (OpenSpec.ofChange getItemsSpec)) getItemsCard

/-- THE TIED CARD OF 'armillarylaw13.ClaimRises'. -/
def claimRisesCard : Claim7 := { stood := { row := claimRisesRow, standIns := [], harness := (true, "2c03bb8bc2627313dfd5a9c7b450bf2a2f72c6cda8eba6adce59673697b0898b"), looks := true }, kinds := [], alts := [], laidByText := true, laidKinds := [.data], laidTests := true, laidLooks := .later }
def ClaimRisesCardSaid : Prop := Claim7.holds Tryd.pinned (.plain (OpenSpec.ofChange claimRisesSpec)) claimRisesCard

/-- THE TIED CARD OF 'armillarylaw13.ClaimEnds'. -/
def claimEndsCard : Claim7 := { stood := { row := claimEndsRow, standIns := [], harness := (true, "2c03bb8bc2627313dfd5a9c7b450bf2a2f72c6cda8eba6adce59673697b0898b"), looks := true }, kinds := [], alts := [], laidByText := true, laidKinds := [.data], laidTests := true, laidLooks := .later }
def ClaimEndsCardSaid : Prop := Claim7.holds Tryd.pinned (.plain (OpenSpec.ofChange claimEndsSpec)) claimEndsCard

/-- THE SECOND FORM's CARD OF 'armillarylaw12.GetItems'. -/
def getItemsUptoCard : Claim7 := { stood := { row := getItemsUptoRow, standIns := [], harness := (true, "2c03bb8bc2627313dfd5a9c7b450bf2a2f72c6cda8eba6adce59673697b0898b"), looks := true }, kinds := [], alts := [], laidByText := true, laidKinds := [.data, .data], laidTests := true, laidLooks := .later }
def GetItemsUptoCardSaid : Prop := Claim7.holds Tryd.pinned (.plain (OpenSpec.upto getItemsSpec)) getItemsUptoCard

/-- THE SECOND FORM's CARD OF 'armillarylaw13.ClaimRises'. -/
def claimRisesUptoCard : Claim7 := { stood := { row := claimRisesUptoRow, standIns := [], harness := (true, "2c03bb8bc2627313dfd5a9c7b450bf2a2f72c6cda8eba6adce59673697b0898b"), looks := true }, kinds := [], alts := [], laidByText := true, laidKinds := [.data], laidTests := true, laidLooks := .later }
def ClaimRisesUptoCardSaid : Prop := Claim7.holds Tryd.pinned (.plain (OpenSpec.upto claimRisesSpec)) claimRisesUptoCard

/-- THE SECOND FORM's CARD OF 'armillarylaw13.ClaimEnds'. -/
def claimEndsUptoCard : Claim7 := { stood := { row := claimEndsUptoRow, standIns := [], harness := (true, "2c03bb8bc2627313dfd5a9c7b450bf2a2f72c6cda8eba6adce59673697b0898b"), looks := true }, kinds := [], alts := [], laidByText := true, laidKinds := [.data], laidTests := true, laidLooks := .later }
def ClaimEndsUptoCardSaid : Prop := Claim7.holds Tryd.pinned (.plain (OpenSpec.upto claimEndsSpec)) claimEndsUptoCard
end Rows
end Go.Proofs.YtofanejchncepaaDoor
