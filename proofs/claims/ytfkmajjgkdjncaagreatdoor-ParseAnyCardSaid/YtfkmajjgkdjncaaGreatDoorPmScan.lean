import Derived.Test.YtfkmajjgkdjncaaGreatDoorPmAtm
import Derived.Test.YtfkmajjgkdjncaaGreatDoorClsPeek
set_option linter.unusedVariables false
set_option linter.unusedSimpArgs false
namespace Go.Proofs.YtfkmajjgkdjncaaGreatDoor
open Go.RowKit De Wd
namespace Pm
inductive dh (L:Its):Nat→Nat→Prop
 | stop {k:Nat} (h:k<L.length→pk L k=93):dh L k k
 | esc {k j:Nat} (h:k+1<L.length) (e:pk L k=92) (r:dh L (k+2) j):dh L k j
 | go {k j:Nat} (h:k<L.length) (e:pk L k≠93) (e2:pk L k≠92) (r:dh L (k+1) j):dh L k j
inductive jI (L:Its):Nat→Nat→Prop
 | stop {k:Nat} (h:k<L.length→pk L k=125):jI L k k
 | go {k j:Nat} (h:k<L.length) (e:pk L k≠125) (r:jI L (k+1) j):jI L k j
end Pm
end Go.Proofs.YtfkmajjgkdjncaaGreatDoor
