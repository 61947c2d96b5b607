/- WalkFinds and WalkHints: whatever the input, each law returns true and the input reads as it did. Their rows list the package-level variables that they name; the cards tie them to the program's text. No further condition. -/
import Derived.Test.YtbddhncgemeohaaGreatDoorYbp
import Derived.Test.YtbddhncgemeohaaGreatDoorYbr
set_option linter.unusedVariables false
set_option linter.unusedSimpArgs false
set_option maxRecDepth 100000
set_option maxHeartbeats 12800000
namespace Go.Proofs.YtbddhncgemeohaaGreatDoor.both10
theorem finds:Rows.WalkFindsCardSaid:=walkFinds.card
theorem hints:Rows.WalkHintsCardSaid:=walkHints.card
end Go.Proofs.YtbddhncgemeohaaGreatDoor.both10
