import Derived.Test.YtfkmajjgkdjncaaGreatDoorDecMath
set_option linter.unusedVariables false
set_option linter.unusedSimpArgs false
namespace Go.Proofs.YtfkmajjgkdjncaaGreatDoor
namespace Pm
def noR : List Int := [47, 124, 42, 40, 41, 91, 93, 92, 46]
def inR : List Int := [40, 91, 92, 46]
def atm (r : Int) : Bool := decide (32 ≤ r) && (!(decide (r ∈ noR)) || decide (r ∈ inR))
end Pm
end Go.Proofs.YtfkmajjgkdjncaaGreatDoor
