/- An argument that is a slice of structs of two whole numbers is a row. -/
import Derived.Test.YtbanmggkfpnalaaGreatDoorRowsOf
import Derived.ChangeSlices
import Derived.ChangeSame
import Derived.ChangeArms
import Derived.Deep.Slices
import Derived.Lib.SmallJoins
import Derived.WideShapes
import Derived.ProofKit
import Derived.OpenShut
namespace Go.Proofs.YtbanmggkfpnalaaGreatDoor
open Go.RowKit Go.ChangeShapes Go.WideShapes Go.ChangeAt Go.Deep Go.Joins
set_option linter.unusedVariables false
set_option linter.unusedSimpArgs false

/-- the cells of a slice of pairs -/
def flatK (k : IntKind) (l : List (Int × Int)) : List Value := l.flatMap fun p => [.int k p.1, .int k p.2]
end Go.Proofs.YtbanmggkfpnalaaGreatDoor
