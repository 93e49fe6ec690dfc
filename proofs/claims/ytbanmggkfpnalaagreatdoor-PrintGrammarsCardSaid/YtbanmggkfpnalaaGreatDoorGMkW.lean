/- gobolaw11.pattern; GramBreaks at any numbers. -/
import Derived.Test.YtbanmggkfpnalaaGreatDoorGMkA
import Derived.Test.YtbanmggkfpnalaaGreatDoorGMkA3
import Derived.Test.YtbanmggkfpnalaaGreatDoorGMkA7
import Derived.Test.YtbanmggkfpnalaaGreatDoorGMkA8
import Derived.Test.YtbanmggkfpnalaaGreatDoorGMk5
import Derived.Test.YtbanmggkfpnalaaGreatDoorGMk17
set_option linter.unusedVariables false
set_option linter.unusedSimpArgs false
namespace Go.Proofs.YtbanmggkfpnalaaGreatDoor
open Go.RowKit Ru PT

set_option maxHeartbeats 20000000 in
set_option maxRecDepth 100000 in
theorem pattern_any : PatOK := by
  intro T l lv iv cv rv I C R w hl E
  have hl0 := hl
  obtain ⟨ol, cl, rfl, -⟩ := hl
  obtain ⟨oi, ci, rfl, -⟩ := E.hI.here
  obtain ⟨oc, cc, rfl, -⟩ := E.hC.here
  obtain ⟨or, cr, rfl, -⟩ := E.hR.here
  refine (patCore (fun n v => (v < 3) ∨ (v = 3) ∨ (v = 4) ∨ (v = 5) ∨ (n = 0 ∧ 5 < v) ∨ (0 < n ∧ v = 6) ∨ (n = 1 ∧ 7 < v) ∨ (0 < n ∧ v = 7) ∨ (1 < n ∧ (v = 8 ∨ v = 9)) ∨ (1 < n ∧ v = 10)) T l cl oi ci oc cc or cr I C R w).2 (fun n v hv => by omega) ol hl0 E ?_
  intro ip hp0 hp1 hp2 hp3 HE Q0 K0 A0 wr _ _ _ _ _ _ _ _ _ _ _ _ _ _ _ _ _ _ _ _ _ _ _ _ _ _ _ _ _ _ _ _ _ _ _ _ _ _ _ _ _ _ _ _ _ _ _ _ _ _ _ _ _ _ _ _ _ _ _ _ _ _ _ _ _ _ _ _ _ _ _ _ _ _ _ _ _ _ _ _ _ _ _ _ _ _ _ _ _ _ _ _ _ _ _ _ _ _ _ _ _ _ _ _ _ _ _ _ _ _ _ _ _ _ _ _ _ _ _ _ _ _ _ _ _ _ _ _ _ _ _ _ _ _ _ _ _ _ _ _ _ _ _ _ _ _ _ _ _ _ _ _ _ _ _ _ _ _ _ _ _ _ _ _ _ _ _ _ _ _ _ _ _ _ _ _ _ _ _ _ _ J0 K1 j o n c ps hn8 k v hv ev1 ev2 HKE hd1 hd2 b off hk0 A1 hj8 hjl g A2 hjg K2 A3 K3 A4 nq wq HQ hcase
  rcases hcase with h | h | h | h | h | h | h | h | h | h
  · exact pat_arm0 T l cl oi ci oc cc or cr I C R w ip hp0 hp1 hp2 hp3 HE K0 A0 wr _ _ _ _ _ _ _ _ _ _ _ _ _ _ _ _ _ _ _ _ _ _ _ _ _ _ _ _ _ _ _ _ _ _ _ _ _ _ _ _ _ _ _ _ _ _ _ _ _ _ _ _ _ _ _ _ _ _ _ _ _ _ _ _ _ _ _ _ _ _ _ _ _ _ _ _ _ _ _ _ _ _ _ _ _ _ _ _ _ _ _ _ _ _ _ _ _ _ _ _ _ _ _ _ _ _ _ _ _ _ _ _ _ _ _ _ _ _ _ _ _ _ _ _ _ _ _ _ _ _ _ _ _ _ _ _ _ _ _ _ _ _ _ _ _ _ _ _ _ _ _ _ _ _ _ _ _ _ _ _ _ _ _ _ _ _ _ _ _ _ _ _ _ _ _ _ _ _ _ _ _ J0 K1 j o n c ps hn8 k v hv ev1 ev2 HKE hd1 hd2 b off hk0 A1 hj8 hjl g A2 hjg K2 A3 K3 A4 nq wq HQ h
  · exact pat_arm1 T l cl oi ci oc cc or cr I C R w ip hp0 hp1 hp2 hp3 HE K0 A0 wr _ _ _ _ _ _ _ _ _ _ _ _ _ _ _ _ _ _ _ _ _ _ _ _ _ _ _ _ _ _ _ _ _ _ _ _ _ _ _ _ _ _ _ _ _ _ _ _ _ _ _ _ _ _ _ _ _ _ _ _ _ _ _ _ _ _ _ _ _ _ _ _ _ _ _ _ _ _ _ _ _ _ _ _ _ _ _ _ _ _ _ _ _ _ _ _ _ _ _ _ _ _ _ _ _ _ _ _ _ _ _ _ _ _ _ _ _ _ _ _ _ _ _ _ _ _ _ _ _ _ _ _ _ _ _ _ _ _ _ _ _ _ _ _ _ _ _ _ _ _ _ _ _ _ _ _ _ _ _ _ _ _ _ _ _ _ _ _ _ _ _ _ _ _ _ _ _ _ _ _ _ J0 K1 j o n c ps hn8 k v hv ev1 ev2 HKE hd1 hd2 b off hk0 A1 hj8 hjl g A2 hjg K2 A3 K3 A4 nq wq HQ h
  · exact pat_arm2 T l cl oi ci oc cc or cr I C R w ip hp0 hp1 hp2 hp3 HE K0 A0 wr _ _ _ _ _ _ _ _ _ _ _ _ _ _ _ _ _ _ _ _ _ _ _ _ _ _ _ _ _ _ _ _ _ _ _ _ _ _ _ _ _ _ _ _ _ _ _ _ _ _ _ _ _ _ _ _ _ _ _ _ _ _ _ _ _ _ _ _ _ _ _ _ _ _ _ _ _ _ _ _ _ _ _ _ _ _ _ _ _ _ _ _ _ _ _ _ _ _ _ _ _ _ _ _ _ _ _ _ _ _ _ _ _ _ _ _ _ _ _ _ _ _ _ _ _ _ _ _ _ _ _ _ _ _ _ _ _ _ _ _ _ _ _ _ _ _ _ _ _ _ _ _ _ _ _ _ _ _ _ _ _ _ _ _ _ _ _ _ _ _ _ _ _ _ _ _ _ _ _ _ _ J0 K1 j o n c ps hn8 k v hv ev1 ev2 HKE hd1 hd2 b off hk0 A1 hj8 hjl g A2 hjg K2 A3 K3 A4 nq wq HQ h
  · exact pat_arm3 T l cl oi ci oc cc or cr I C R w ip hp0 hp1 hp2 hp3 HE K0 A0 wr _ _ _ _ _ _ _ _ _ _ _ _ _ _ _ _ _ _ _ _ _ _ _ _ _ _ _ _ _ _ _ _ _ _ _ _ _ _ _ _ _ _ _ _ _ _ _ _ _ _ _ _ _ _ _ _ _ _ _ _ _ _ _ _ _ _ _ _ _ _ _ _ _ _ _ _ _ _ _ _ _ _ _ _ _ _ _ _ _ _ _ _ _ _ _ _ _ _ _ _ _ _ _ _ _ _ _ _ _ _ _ _ _ _ _ _ _ _ _ _ _ _ _ _ _ _ _ _ _ _ _ _ _ _ _ _ _ _ _ _ _ _ _ _ _ _ _ _ _ _ _ _ _ _ _ _ _ _ _ _ _ _ _ _ _ _ _ _ _ _ _ _ _ _ _ _ _ _ _ _ _ J0 K1 j o n c ps hn8 k v hv ev1 ev2 HKE hd1 hd2 b off hk0 A1 hj8 hjl g A2 hjg K2 A3 K3 A4 nq wq HQ h
  · exact pat_arm4 T l cl oi ci oc cc or cr I C R w ip hp0 hp1 hp2 hp3 HE K0 A0 wr _ _ _ _ _ _ _ _ _ _ _ _ _ _ _ _ _ _ _ _ _ _ _ _ _ _ _ _ _ _ _ _ _ _ _ _ _ _ _ _ _ _ _ _ _ _ _ _ _ _ _ _ _ _ _ _ _ _ _ _ _ _ _ _ _ _ _ _ _ _ _ _ _ _ _ _ _ _ _ _ _ _ _ _ _ _ _ _ _ _ _ _ _ _ _ _ _ _ _ _ _ _ _ _ _ _ _ _ _ _ _ _ _ _ _ _ _ _ _ _ _ _ _ _ _ _ _ _ _ _ _ _ _ _ _ _ _ _ _ _ _ _ _ _ _ _ _ _ _ _ _ _ _ _ _ _ _ _ _ _ _ _ _ _ _ _ _ _ _ _ _ _ _ _ _ _ _ _ _ _ _ J0 K1 j o n c ps hn8 k v hv ev1 ev2 HKE hd1 hd2 b off hk0 A1 hj8 hjl g A2 hjg K2 A3 K3 A4 nq wq HQ h
  · exact pat_arm5 T l cl oi ci oc cc or cr I C R w ip hp0 hp1 hp2 hp3 HE K0 A0 wr _ _ _ _ _ _ _ _ _ _ _ _ _ _ _ _ _ _ _ _ _ _ _ _ _ _ _ _ _ _ _ _ _ _ _ _ _ _ _ _ _ _ _ _ _ _ _ _ _ _ _ _ _ _ _ _ _ _ _ _ _ _ _ _ _ _ _ _ _ _ _ _ _ _ _ _ _ _ _ _ _ _ _ _ _ _ _ _ _ _ _ _ _ _ _ _ _ _ _ _ _ _ _ _ _ _ _ _ _ _ _ _ _ _ _ _ _ _ _ _ _ _ _ _ _ _ _ _ _ _ _ _ _ _ _ _ _ _ _ _ _ _ _ _ _ _ _ _ _ _ _ _ _ _ _ _ _ _ _ _ _ _ _ _ _ _ _ _ _ _ _ _ _ _ _ _ _ _ _ _ _ J0 K1 j o n c ps hn8 k v hv ev1 ev2 HKE hd1 hd2 b off hk0 A1 hj8 hjl g A2 hjg K2 A3 K3 A4 nq wq HQ h
  · exact pat_arm6 T l cl oi ci oc cc or cr I C R w ip hp0 hp1 hp2 hp3 HE K0 A0 wr _ _ _ _ _ _ _ _ _ _ _ _ _ _ _ _ _ _ _ _ _ _ _ _ _ _ _ _ _ _ _ _ _ _ _ _ _ _ _ _ _ _ _ _ _ _ _ _ _ _ _ _ _ _ _ _ _ _ _ _ _ _ _ _ _ _ _ _ _ _ _ _ _ _ _ _ _ _ _ _ _ _ _ _ _ _ _ _ _ _ _ _ _ _ _ _ _ _ _ _ _ _ _ _ _ _ _ _ _ _ _ _ _ _ _ _ _ _ _ _ _ _ _ _ _ _ _ _ _ _ _ _ _ _ _ _ _ _ _ _ _ _ _ _ _ _ _ _ _ _ _ _ _ _ _ _ _ _ _ _ _ _ _ _ _ _ _ _ _ _ _ _ _ _ _ _ _ _ _ _ _ J0 K1 j o n c ps hn8 k v hv ev1 ev2 HKE hd1 hd2 b off hk0 A1 hj8 hjl g A2 hjg K2 A3 K3 A4 nq wq HQ h
  · exact pat_arm7 T l cl oi ci oc cc or cr I C R w ip hp0 hp1 hp2 hp3 HE K0 A0 wr _ _ _ _ _ _ _ _ _ _ _ _ _ _ _ _ _ _ _ _ _ _ _ _ _ _ _ _ _ _ _ _ _ _ _ _ _ _ _ _ _ _ _ _ _ _ _ _ _ _ _ _ _ _ _ _ _ _ _ _ _ _ _ _ _ _ _ _ _ _ _ _ _ _ _ _ _ _ _ _ _ _ _ _ _ _ _ _ _ _ _ _ _ _ _ _ _ _ _ _ _ _ _ _ _ _ _ _ _ _ _ _ _ _ _ _ _ _ _ _ _ _ _ _ _ _ _ _ _ _ _ _ _ _ _ _ _ _ _ _ _ _ _ _ _ _ _ _ _ _ _ _ _ _ _ _ _ _ _ _ _ _ _ _ _ _ _ _ _ _ _ _ _ _ _ _ _ _ _ _ _ J0 K1 j o n c ps hn8 k v hv ev1 ev2 HKE hd1 hd2 b off hk0 A1 hj8 hjl g A2 hjg K2 A3 K3 A4 nq wq HQ h
  · exact pat_arm8 T l cl oi ci oc cc or cr I C R w ip hp0 hp1 hp2 hp3 HE K0 A0 wr _ _ _ _ _ _ _ _ _ _ _ _ _ _ _ _ _ _ _ _ _ _ _ _ _ _ _ _ _ _ _ _ _ _ _ _ _ _ _ _ _ _ _ _ _ _ _ _ _ _ _ _ _ _ _ _ _ _ _ _ _ _ _ _ _ _ _ _ _ _ _ _ _ _ _ _ _ _ _ _ _ _ _ _ _ _ _ _ _ _ _ _ _ _ _ _ _ _ _ _ _ _ _ _ _ _ _ _ _ _ _ _ _ _ _ _ _ _ _ _ _ _ _ _ _ _ _ _ _ _ _ _ _ _ _ _ _ _ _ _ _ _ _ _ _ _ _ _ _ _ _ _ _ _ _ _ _ _ _ _ _ _ _ _ _ _ _ _ _ _ _ _ _ _ _ _ _ _ _ _ _ J0 K1 j o n c ps hn8 k v hv ev1 ev2 HKE hd1 hd2 b off hk0 A1 hj8 hjl g A2 hjg K2 A3 K3 A4 nq wq HQ h
  · exact pat_arm9 T l cl oi ci oc cc or cr I C R w ip hp0 hp1 hp2 hp3 HE K0 A0 wr _ _ _ _ _ _ _ _ _ _ _ _ _ _ _ _ _ _ _ _ _ _ _ _ _ _ _ _ _ _ _ _ _ _ _ _ _ _ _ _ _ _ _ _ _ _ _ _ _ _ _ _ _ _ _ _ _ _ _ _ _ _ _ _ _ _ _ _ _ _ _ _ _ _ _ _ _ _ _ _ _ _ _ _ _ _ _ _ _ _ _ _ _ _ _ _ _ _ _ _ _ _ _ _ _ _ _ _ _ _ _ _ _ _ _ _ _ _ _ _ _ _ _ _ _ _ _ _ _ _ _ _ _ _ _ _ _ _ _ _ _ _ _ _ _ _ _ _ _ _ _ _ _ _ _ _ _ _ _ _ _ _ _ _ _ _ _ _ _ _ _ _ _ _ _ _ _ _ _ _ _ J0 K1 j o n c ps hn8 k v hv ev1 ev2 HKE hd1 hd2 b off hk0 A1 hj8 hjl g A2 hjg K2 A3 K3 A4 nq wq HQ h
/-- gobolaw11.Make, as a function of its numbers -/
theorem make_okF : MakeOKF := mkX.2.2 pattern_any mk_arm5 mk_arm17
end Go.Proofs.YtbanmggkfpnalaaGreatDoor
