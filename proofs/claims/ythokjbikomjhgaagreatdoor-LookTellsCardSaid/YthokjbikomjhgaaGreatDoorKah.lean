/- LookTells and LookOnce: whatever the input, each law returns true and the input reads as it did. Their rows list the package-level variables that they name; the cards tie them to the program's text. No further condition. -/
import Derived.Test.YthokjbikomjhgaaGreatDoorKaf
import Derived.Test.YthokjbikomjhgaaGreatDoorKag
set_option linter.unusedVariables false
set_option linter.unusedSimpArgs false
set_option maxRecDepth 100000
namespace Go.Proofs.YthokjbikomjhgaaGreatDoor.both11
theorem tellsL:Rows.LookTellsCardSaid:=lookTells.card
theorem onceL:Rows.LookOnceCardSaid:=lookOnce.card
end Go.Proofs.YthokjbikomjhgaaGreatDoor.both11
