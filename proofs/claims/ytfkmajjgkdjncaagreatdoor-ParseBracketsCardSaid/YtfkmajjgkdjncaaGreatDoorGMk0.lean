import Derived.Test.YtfkmajjgkdjncaaGreatDoorGSame
import Derived.Deep.RegionHeld
import Derived.Deep.DeepCutAuto
import Derived.Deep.RegionHeld3
set_option linter.unusedVariables false
set_option linter.unusedSimpArgs false
set_option maxHeartbeats 8000000
set_option maxRecDepth 100000
namespace Go.Proofs.YtfkmajjgkdjncaaGreatDoor
open Go.RowKit Ru
theorem one_exact (r : Int) (w : World) :
 Calls Tryz.prog 16 #[.int .i32 r] w fun e w' => e = .returned (.agg #[.int .i64 2, .slice (some ⟨w.heap.size + 1, 0, none⟩) 1 1, .slice none 0 0]) ∧ w' = (w.alloc (.cells #[.int .i64 2, .slice (some ⟨w.heap.size + 1, 0, none⟩) 1 1, .slice none 0 0] 35)).alloc (.cells #[.int .i32 r, .int .i32 r] 79) := by
 go_enter Tryz.func16, Tryz.ntmps16
 go_wp2_with fail
 simp [bodyPost, results, Tryz.results16, go_sem]
 trace_state
end Go.Proofs.YtfkmajjgkdjncaaGreatDoor
