/- gobolaw6.One. -/
import Derived.Test.YtmgfpcblbbpahaaGreatGRefE
import Derived.Deep.RegionHeld
import Derived.Deep.DeepCutAuto
import Derived.Deep.RegionHeld3
set_option linter.unusedVariables false
set_option linter.unusedSimpArgs false
namespace Go.Proofs.YtmgfpcblbbpahaaGreat
open Go.RowKit Ru

set_option maxHeartbeats 8000000 in
set_option maxRecDepth 100000 in
theorem one_exact (r : Int) (w : World) :
    Calls Tryz.prog 34 #[.int .i32 r] w fun e w' => e = .returned (.agg #[.int .i64 2, .slice (some ⟨w.heap.size + 1, 0, none⟩) 1 1, .slice none 0 0]) ∧ w' = (w.alloc (.cells #[.int .i64 2, .slice (some ⟨w.heap.size + 1, 0, none⟩) 1 1, .slice none 0 0] 41)).alloc (.cells #[.int .i32 r, .int .i32 r] 54) := by
  go_enter Tryz.func34, Tryz.ntmps34
  go_wp2_with fail
  simp [bodyPost, results, Tryz.results34, go_sem]
end Go.Proofs.YtmgfpcblbbpahaaGreat
