/- Sets of runes: what a cell is. No Go in sight. -/
import Derived.Test.YtmgfpcblbbpahaaGreatRuneMath4
set_option linter.unusedVariables false
set_option linter.unusedSimpArgs false
namespace Go.Proofs.YtmgfpcblbbpahaaGreat.Ru

end Go.Proofs.YtmgfpcblbbpahaaGreat.Ru
