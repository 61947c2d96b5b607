/- ClaimRises and ClaimEnds: whatever the input, each law returns true and the input reads as it did. Their rows list the package-level variables that they name; the cards tie them to the program's text. No further condition. -/
import Derived.Test.YtofanejchncepaaDoorQal
set_option linter.unusedVariables false
set_option linter.unusedSimpArgs false
set_option maxRecDepth 100000
set_option maxHeartbeats 12800000
namespace Go.Proofs.YtofanejchncepaaDoor.both13
theorem rises:Rows.ClaimRisesCardSaid:=claimRises.card
theorem ends:Rows.ClaimEndsCardSaid:=claimEnds.card
end Go.Proofs.YtofanejchncepaaDoor.both13
