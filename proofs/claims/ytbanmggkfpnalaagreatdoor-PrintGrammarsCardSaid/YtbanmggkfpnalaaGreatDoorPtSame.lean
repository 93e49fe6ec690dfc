/- gram: SamePat. -/
import Derived.Test.YtbanmggkfpnalaaGreatDoorPt
set_option linter.unusedVariables false
set_option linter.unusedSimpArgs false
namespace Go.Proofs.YtbanmggkfpnalaaGreatDoor
open Go.RowKit Ru

namespace PT
mutual
/-- are two trees the same -/
def same : PT → PT → Bool
  | .mk k n e l, f => decide (k = f.kind) && (decide (n = f.names) && (decide (e = f.ends) && (decide (l.length = f.parts.length) && sameL l f.parts)))
def sameL : List PT → List PT → Bool
  | [], _ => true
  | a :: l, m => match m with
    | [] => true
    | b :: m => same a b && sameL l m
end
end PT
end Go.Proofs.YtbanmggkfpnalaaGreatDoor
