import Derived.Test.YtfkmajjgkdjncaaGreatDoorPmAtm
import Derived.Test.YtfkmajjgkdjncaaGreatDoorClsPeek
set_option linter.unusedVariables false
set_option linter.unusedSimpArgs false
namespace Go.Proofs.YtfkmajjgkdjncaaGreatDoor
open Go.RowKit De Wd
namespace Pm
inductive ScanC (L : Its) : Nat → Nat → Prop
 | stop {k : Nat} (h : k < L.length → pk L k = 93) : ScanC L k k
 | esc {k j : Nat} (h : k + 1 < L.length) (e : pk L k = 92) (r : ScanC L (k + 2) j) : ScanC L k j
 | go {k j : Nat} (h : k < L.length) (e : pk L k ≠ 93) (e2 : pk L k ≠ 92) (r : ScanC L (k + 1) j) : ScanC L k j
inductive ScanB (L : Its) : Nat → Nat → Prop
 | stop {k : Nat} (h : k < L.length → pk L k = 125) : ScanB L k k
 | go {k j : Nat} (h : k < L.length) (e : pk L k ≠ 125) (r : ScanB L (k + 1) j) : ScanB L k j
end Pm
end Go.Proofs.YtfkmajjgkdjncaaGreatDoor
