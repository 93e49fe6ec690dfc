/- Sets of runes: what a cell is. No Go in sight. -/
import Derived.Test.YtahckikemljlnaaGreatDoorRuneMath4
set_option linter.unusedVariables false
set_option linter.unusedSimpArgs false
namespace Go.Proofs.YtahckikemljlnaaGreatDoor.Ru

end Go.Proofs.YtahckikemljlnaaGreatDoor.Ru
