import Derived.Test.YtfkmajjgkdjncaaGreatDoorDecMath
set_option linter.unusedVariables false
set_option linter.unusedSimpArgs false
namespace Go.Proofs.YtfkmajjgkdjncaaGreatDoor
namespace Pm
def zA:List Int:=[47,124,42,40,41,91,93,92,46]
def vJ:List Int:=[40,91,92,46]
def eG (r:Int):Bool:=decide (32≤r) && (!(decide (r∈zA)) || decide (r∈vJ))
end Pm
end Go.Proofs.YtfkmajjgkdjncaaGreatDoor
