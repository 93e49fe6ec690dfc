import Derived.Test.YtfkmajjgkdjncaaGreatDoorPaAlt
import Derived.Test.YtfkmajjgkdjncaaGreatDoorClsG
import Derived.Test.YtfkmajjgkdjncaaGreatDoorPmScan
import Derived.IntWalk
set_option linter.unusedVariables false
set_option linter.unusedSimpArgs false
set_option maxHeartbeats 1000000
namespace Go.Proofs.YtfkmajjgkdjncaaGreatDoor
open Go.RowKit De Wd
theorem sb_extract' (s : ByteArray) (a b : Nat) : sb (s.extract a b) = ((sb s).drop a).take (b - a) := by
 have h : (s.extract a b).data.toList = (s.data.toList.drop a).take (b - a) := by
  rw [ByteArray.data_extract, Array.toList_extract]
 unfold sb
 rw [h, List.map_take, List.map_drop]
def clS (s : ByteArray) (a b : Nat) : Cr := clsF (all 0 (sb (s.extract a b))) (s.extract a b).size
theorem paset_any (o : Option Addr) (n cap : Nat) (w : World) :
 Calls Tryz.prog 157 #[.slice o n cap] w fun e w' => e = .returned (.agg #[.int .i64 2, .slice o n cap, .slice none 0 0]) ∧ Below w.heap.size w w' := by
 go_enter Tryz.func157, Tryz.ntmps157
 go_wp2_with fail
 refine bodyPost_ret (v := .agg #[.int .i64 2, .slice o n cap, .slice none 0 0]) (by simp [results, Tryz.results157, go_sem]) rfl ⟨rfl, ?_⟩
 repeat (first | exact Below.refl _ _ | (refine Below.setCell ?_ (by simp) _) | (refine Below.alloc ?_ (by simp) _))
theorem paRunes_ok (p k d a b : Nat) (s : ByteArray) (L : Its) (v : Value) (S : List (Int × Int)) (w : World) (h : XI w p s L k d v) (hab : a ≤ b) (hb : b ≤ s.size) (hsz : b - a ≤ 100000) (hc : clS s a b = .ok S) :
 Calls Tryz.prog 175 #[.pointer (some ⟨p, 0, none⟩), .int .i64 a, .int .i64 b] w fun e w' => ∃ u, e = .returned u ∧ w'.ownsRow w.heap.size 79 2 u S.length (flatK .i32 S) ∧ Below w.heap.size w w' := by
 obtain ⟨⟨c0, c1, c2, c3⟩, f0, f1, f2, f3⟩ := cells4_of h.hh
 have hx : (s.extract a b).size ≤ 100000 := by rw [ByteArray.size_extract]; omega
 have hcl := fun w => classF_any (s.extract a b) w hx (sc_all _ 0 _ (Nat.le_refl _) (sb_u8 _))
 have HC := Lib.hid hc
 have HCL := Lib.hid hcl
 have i1 : (0 : Int) ≤ (a : Int) := by omega
 have i2 : (a : Int) ≤ (b : Int) := by omega
 have i3 : (b : Int) ≤ (s.size : Int) := by omega
 clear h hc hcl
 go_enter Tryz.func175, Tryz.ntmps175
 go_wp2_with fail
 refine (HCL.out _).mono ?_
 rintro e w1 hpost
 unfold ClsPostF at hpost
 have e1 : clsF (all 0 (sb (s.extract a b))) (s.extract a b).size = .ok S := HC.out
 rw [e1] at hpost
 obtain ⟨u, rfl, hown, hbel⟩ := hpost
 have HO := Lib.hid (And.intro hown hbel)
 clear hown hbel e1
 go_wp2_with fail
 go_ret
 exact ⟨u, rfl, HO.out.1, HO.out.2⟩
theorem ScanB.inv {L : Its} {k j : Nat} (h : Pm.ScanB L k j) : (k = j ∧ (k < L.length → pk L k = 125)) ∨ (k < L.length ∧ pk L k ≠ 125 ∧ Pm.ScanB L (k + 1) j) := by
 cases h with
 | stop h => exact .inl ⟨rfl, h⟩
 | go h e r => exact .inr ⟨h, e, r⟩
end Go.Proofs.YtfkmajjgkdjncaaGreatDoor
