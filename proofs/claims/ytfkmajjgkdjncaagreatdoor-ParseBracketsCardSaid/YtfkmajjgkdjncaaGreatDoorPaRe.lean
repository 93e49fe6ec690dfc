/- Merged. -/
import Derived.Test.YtfkmajjgkdjncaaGreatDoorPaTwo
import Derived.Deep.LoopGhost
import Derived.Deep.RegionLaw
import Derived.Test.YtfkmajjgkdjncaaGreatDoorClsG
import Derived.Test.YtfkmajjgkdjncaaGreatDoorPmScan
import Derived.IntWalk
import Derived.RegionTactic
import Derived.ChangeAlike
import Derived.BigRegion
set_option linter.unusedVariables false
set_option linter.unusedSimpArgs false
set_option maxHeartbeats 4000000
set_option maxRecDepth 100000
namespace Go.Proofs.YtfkmajjgkdjncaaGreatDoor
open Go.RowKit De Wd
theorem alt_any (p k d k1 k2 : Nat) (s : ByteArray) (L : Its) (v : Value) (a e : RE) (w : World) (h : XI w p s L k d v) (h128 : Sc L) (P : Nat → RE → Nat → Prop) (hmono : ∀ k b k', P k b k' → k < k') (h1 : P k a k1) (hl : SqL L P a k1 e k2) (hatm : Pm.atm (pk L k) = true)
 (hat : ∀ w k a k1, P k a k1 → XI w p s L k d v → Calls Tryz.prog 111 #[.pointer (some ⟨p, 0, none⟩)] w fun x w' => ReP w w' a x ∧ Ch w w' p ∧ XI w' p s L k1 d v) :
 Calls Tryz.prog 69 #[.pointer (some ⟨p, 0, none⟩)] w fun x w' => ReP w w' e x ∧ Ch w w' p ∧ XI w' p s L k2 d v := by
 have hlt := h.lt
 have hA := h.moved (bel_new (Below.refl _ _) (.cells #[.int .i64 0, .slice none 0 0, .slice none 0 0] 35))
 have HX := Lib.hid h
 have HA := Lib.hid hA
 have HT := Lib.hid hat
 have HL := Lib.hid hl
 have HH1 := Lib.hid h1
 have H128 := Lib.hid h128
 clear h hA hat hl h1 h128
 go_enter Tryz.func69, Tryz.ntmps69
 go_wp2_with fail
 refine (atomNext_any p k d s L v _ HA.out H128.out).mono ?_
 rintro x wz ⟨rfl, hwz⟩
 rw [hatm]
 have hsz : w.heap.size < wz.heap.size := by have := hwz.size; simp at this; omega
 have hrz : wz.heap[w.heap.size]? = some (.cells #[.int .i64 0, .slice none 0 0, .slice none 0 0] 35 (0, 0)) := by rw [hwz.block _ (by simp)]; exact heap_alloc_new w _
 have hcz : Ch w wz p := (Ch.of (bel_new (Below.refl _ _) _)).trans (Ch.of hwz)
 have HAZ := Lib.hid (HA.out.moved hwz)
 clear hwz
 go_wp2_with fail
 refine (HT.out _ _ _ _ HH1.out HAZ.out).mono ?_
 rintro x w1 ⟨⟨sv, lv, rfl, hkp⟩, hch, hxi⟩
 obtain ⟨⟨o1, q1, rfl⟩, ⟨o2, q2, rfl⟩⟩ := hkp.here.form
 have hs1 : w.heap.size < w1.heap.size := by have := hch.size; omega
 have hr1 : w1.heap[w.heap.size]? = some (.cells #[.int .i64 0, .slice none 0 0, .slice none 0 0] 35 (0, 0)) := by rw [hch.block _ hsz (by omega)]; exact hrz
 have hpb : p ≠ w1.heap.size := by omega
 have hxi2 := hxi.moved (bel_new (Below.refl _ _) (.cells #[.int .i64 a.kind, .slice o1 a.set.length q1, .slice o2 a.parts.length q2] 35))
 have hpi : PoI w (w1.alloc (.cells #[.int .i64 a.kind, .slice o1 a.set.length q1, .slice o2 a.parts.length q2] 35)) p w1.heap.size w.heap.size s L d k1 v a (.slice o1 a.set.length q1) (.slice o2 a.parts.length q2) := by
  refine ⟨hxi2, ?_, heap_alloc_new w1 _, ⟨.int .i64 0, .slice none 0 0, .slice none 0 0, ?_⟩, ?_⟩
  · exact (hcz.trans hch).trans (Ch.of (bel_new (Below.refl _ _) _))
  · rw [(bel_new (Below.refl w1.heap.size w1) _).block _ hs1]; exact hr1
  · intro w' hag
    refine hkp w' ⟨hag.os, hag.tape, hag.output, by have := hag.size; simp at this; omega, fun j hj hS => ?_⟩
    have hS' : wz.heap.size ≤ j := hS
    rw [hag.block j (by simp; omega) ⟨by omega, by omega⟩]
    exact (bel_new (Below.refl w1.heap.size w1) _).block j hj
 have HPI := Lib.hid hpi
 have hle := hxi.le
 clear hpi hxi2 hxi hch hkp hr1 hcz hrz
 go_wp2_with fail
 go_loopg [] (L.length - k1) (fun g wx => ∃ (a' : RE) (ki : Nat) (o3 o4 : Option Addr) (q3 q4 : Nat), ki + g = L.length ∧ PoI w wx p w1.heap.size w.heap.size s L d ki v a' (.slice o3 a'.set.length q3) (.slice o4 a'.parts.length q4) ∧ SqL L P a' ki e k2)
 case atStart => exact ⟨a, k1, _, _, _, _, by omega, HPI.out, HL.out⟩
 case round =>
  obtain ⟨a', ki, o3, o4, q3, q4, hkg, hpi, hpo⟩ := hrel
  have HP := Lib.hid hpi
  obtain ⟨⟨c0, c1, c2⟩, f0, f1, f2⟩ := cells3_of' hpi.hb
  clear hpi
  rcases hpo.inv with ⟨hcnd, rfl, rfl⟩ | ⟨hcnd, nb, kj, hpp, hpo2⟩
  · have HN := Lib.hid hcnd
    clear hpo hcnd
    go_wp2_with fail
    refine (atomNext_any p ki d s L v _ HP.out.x H128.out).mono ?_
    rintro x w2 ⟨rfl, hwz⟩
    have hc2 : Ch _ w2 p := Ch.of hwz
    have hx2 := HP.out.x.moved hwz
    clear hwz
    rw [HN.out]
    have hb2 := (hc2.block _ (lt_of_some HP.out.hb) (fun e => hpb e.symm)).trans HP.out.hb
    obtain ⟨z0, z1, z2, hz⟩ := HP.out.hr
    have hr2 := (hc2.block _ (lt_of_some hz) (by omega)).trans hz
    have hbr : ¬ w1.heap.size = w.heap.size := by omega
    obtain ⟨⟨d0, d1, d2⟩, g0, g1, g2⟩ := cells3_of' hb2
    obtain ⟨⟨r0, r1, r2⟩, x0, x1, x2⟩ := cells3_of' hr2
    have hkp2 := HP.out.kp.to (hc2.ag.sub (fun j _ hj => by omega))
    have HK := Lib.hid hkp2
    have HC := Lib.hid (HP.out.c.trans hc2)
    have HX2 := Lib.hid hx2
    have HR2 := Lib.hid hr2
    clear c0 c1 c2 f0 f1 f2 hb2 hz hkp2 hc2 hx2 HP hr2
    go_wp2_with fail
    obtain ⟨W9, hW⟩ : ∃ W9, W9 = ((w2.setCell ⟨w.heap.size, 0, none⟩ (.int .i64 a'.kind)).setCell ⟨w.heap.size, 1, none⟩ (.slice o3 a'.set.length q3)).setCell ⟨w.heap.size, 2, none⟩ (.slice o4 a'.parts.length q4) := ⟨_, rfl⟩
    have h9 : W9.heap[w.heap.size]? = some (.cells #[.int .i64 a'.kind, .slice o3 a'.set.length q3, .slice o4 a'.parts.length q4] 35 (0, 0)) := by
     rw [hW]; have := HR2.out; simp [World.setCell, Array.getElem?_modify, this]
    have hag : Ag (fun j => w.heap.size < j ∧ j ≠ w1.heap.size) w2 W9 := by
     rw [hW]
     exact (((Ag.refl _ _).setCell (fun h => Nat.lt_irrefl _ h.1) _).setCell (fun h => Nat.lt_irrefl _ h.1) _).setCell (fun h => Nat.lt_irrefl _ h.1) _
    have hc9 : Ch w W9 p := by rw [hW]; exact ((HC.out.setNew' (Nat.le_refl _)).setNew' (Nat.le_refl _)).setNew' (Nat.le_refl _)
    have hx9 : XI W9 p s L ki d v := by rw [hW]; exact HX.out.setNew (HX.out.setNew (HX.out.setNew HX2.out (Nat.le_refl _)) (Nat.le_refl _)) (Nat.le_refl _)
    rw [← hW]
    clear hW r0 r1 r2 x0 x1 x2 d0 d1 d2 g0 g1 g2
    obtain ⟨⟨d0, d1, d2⟩, g0, g1, g2⟩ := cells3_of' h9
    refine bodyPost_ret (v := .agg #[.int .i64 a'.kind, .slice o3 a'.set.length q3, .slice o4 a'.parts.length q4]) (by simp [results, Tryz.results69, go_sem, d0, d1, d2, g0, g1, g2]) rfl ?_
    exact ⟨⟨_, _, rfl, (HK.out.to hag).sub (fun j _ hj => Nat.le_of_lt hj.1)⟩, hc9, hx9⟩
  · have HN := Lib.hid hcnd
    clear hpo hcnd
    go_wp2_with fail
    refine (atomNext_any p ki d s L v _ HP.out.x H128.out).mono ?_
    rintro x w2 ⟨rfl, hwz⟩
    have hc2 : Ch _ w2 p := Ch.of hwz
    have hx2 := HP.out.x.moved hwz
    clear hwz
    have hki : ki < L.length := by have h1 := HN.out; unfold Pm.atm at h1; simp at h1; exact pk_in' rfl (by omega)
    rw [HN.out]
    have hb2 := (hc2.block _ (lt_of_some HP.out.hb) (fun e => hpb e.symm)).trans HP.out.hb
    have hblt := lt_of_some hb2
    obtain ⟨z0, z1, z2, hz⟩ := HP.out.hr
    have hr2 := (hc2.block _ (lt_of_some hz) (by omega)).trans hz
    have hrlt := lt_of_some hr2
    have hbr : ¬ w1.heap.size = w.heap.size := by omega
    obtain ⟨⟨d0, d1, d2⟩, g0, g1, g2⟩ := cells3_of' hb2
    have hkp2 := HP.out.kp.to (hc2.ag.sub (fun j _ hj => by omega))
    have HK := Lib.hid hkp2
    have HC := Lib.hid (HP.out.c.trans hc2)
    have HX2 := Lib.hid hx2
    have HR2 := Lib.hid hr2
    have HB2 := Lib.hid hb2
    have HPO := Lib.hid hpo2
    have HPP := Lib.hid hpp
    have hpp2 := hmono _ _ _ hpp
    have hqb : ¬ w2.heap.size = w1.heap.size := by omega
    clear c0 c1 c2 f0 f1 f2 hb2 hz hkp2 hc2 hx2 hr2 HP hpo2 hpp
    go_wp2_with fail
    go_region_law
     (go_simp; go_at_call 111; refine (HT.out _ _ _ _ HPP.out (HX2.out.moved (by repeat (first | exact Below.refl _ _ | refine Below.drew ?_)))).mono ?_; rintro x w5 ⟨⟨sv5, lv5, rfl, hk5⟩, hc5, hx5⟩; obtain ⟨⟨o5, q5, rfl⟩, ⟨o6, q6, rfl⟩⟩ := hk5.here.form; have hb5 := (hc5.block _ hblt (fun e => hpb e.symm)).trans HB2.out; obtain ⟨⟨e0, e1, e2⟩, m0, m1, m2⟩ := cells3_of' hb5; have hlt5 : w1.heap.size < w5.heap.size := Nat.lt_of_lt_of_le hblt (show w2.heap.size ≤ w5.heap.size from hc5.size); have hqb5 : ¬ w5.heap.size = w1.heap.size := (fun e => absurd hlt5 (e ▸ Nat.lt_irrefl _)); have hqb6 : ¬ w1.heap.size = w5.heap.size := (fun e => absurd hlt5 (e ▸ Nat.lt_irrefl _)))
    all_goals (
     have hr5 := (hc5.block _ hrlt (fun e => by omega)).trans HR2.out
     have hka5 := HK.out.to (((Ag.refl _ w2).drew).trans (hc5.ag.sub (fun j _ hj => by omega)))
     have HP9 := Lib.hid (PoI.two (b' := nb) (n5 := w2.heap.size) 3 HX.out (HC.out.trans (Ch.trans (Ch.of (Below.refl _ _).drew) hc5)) hx5 hb5 hr5 hka5 (hk5.sub (fun j _ hj => hj)) (by omega) (Nat.le_refl _) (by omega) hblt)
     have hkl := hx5.le
     clear hb5 hr5 hka5 e0 e1 e2 m0 m1 m2 d0 d1 d2 g0 g1 g2 hc5 hx5 hk5
     try go_wp2_with fail
     go_roundg (L.length - kj)
     case measure => omega
     case rel => exact ⟨.mk 3 [] [a', nb], kj, none, some ⟨w5.heap.size, 0, none⟩, 0, 2, by omega, HP9.out, HPO.out⟩)
end Go.Proofs.YtfkmajjgkdjncaaGreatDoor

set_option maxHeartbeats 4000000
set_option maxRecDepth 100000
namespace Go.Proofs.YtfkmajjgkdjncaaGreatDoor
open Go.RowKit De Wd
theorem sb_extract' (s : ByteArray) (a b : Nat) : sb (s.extract a b) = ((sb s).drop a).take (b - a) := by
 have h : (s.extract a b).data.toList = (s.data.toList.drop a).take (b - a) := by
  rw [ByteArray.data_extract, Array.toList_extract]
 unfold sb
 rw [h, List.map_take, List.map_drop]
def clS (s : ByteArray) (a b : Nat) : Cr := clsF (all 0 (sb (s.extract a b))) (s.extract a b).size
theorem paset_any (o : Option Addr) (n cap : Nat) (w : World) :
 Calls Tryz.prog 157 #[.slice o n cap] w fun e w' => e = .returned (.agg #[.int .i64 2, .slice o n cap, .slice none 0 0]) ∧ Below w.heap.size w w' := by
 go_enter Tryz.func157, Tryz.ntmps157
 go_wp2_with fail
 refine bodyPost_ret (v := .agg #[.int .i64 2, .slice o n cap, .slice none 0 0]) (by simp [results, Tryz.results157, go_sem]) rfl ⟨rfl, ?_⟩
 repeat (first | exact Below.refl _ _ | (refine Below.setCell ?_ (by simp) _) | (refine Below.alloc ?_ (by simp) _))
theorem paRunes_ok (p k d a b : Nat) (s : ByteArray) (L : Its) (v : Value) (S : List (Int × Int)) (w : World) (h : XI w p s L k d v) (hab : a ≤ b) (hb : b ≤ s.size) (hsz : b - a ≤ 100000) (hc : clS s a b = .ok S) :
 Calls Tryz.prog 175 #[.pointer (some ⟨p, 0, none⟩), .int .i64 a, .int .i64 b] w fun e w' => ∃ u, e = .returned u ∧ w'.ownsRow w.heap.size 79 2 u S.length (flatK .i32 S) ∧ Below w.heap.size w w' := by
 obtain ⟨⟨c0, c1, c2, c3⟩, f0, f1, f2, f3⟩ := cells4_of h.hh
 have hx : (s.extract a b).size ≤ 100000 := by rw [ByteArray.size_extract]; omega
 have hcl := fun w => classF_any (s.extract a b) w hx (sc_all _ 0 _ (Nat.le_refl _) (sb_u8 _))
 have HC := Lib.hid hc
 have HCL := Lib.hid hcl
 have i1 : (0 : Int) ≤ (a : Int) := by omega
 have i2 : (a : Int) ≤ (b : Int) := by omega
 have i3 : (b : Int) ≤ (s.size : Int) := by omega
 clear h hc hcl
 go_enter Tryz.func175, Tryz.ntmps175
 go_wp2_with fail
 refine (HCL.out _).mono ?_
 rintro e w1 hpost
 unfold ClsPostF at hpost
 have e1 : clsF (all 0 (sb (s.extract a b))) (s.extract a b).size = .ok S := HC.out
 rw [e1] at hpost
 obtain ⟨u, rfl, hown, hbel⟩ := hpost
 have HO := Lib.hid (And.intro hown hbel)
 clear hown hbel e1
 go_wp2_with fail
 go_ret
 exact ⟨u, rfl, HO.out.1, HO.out.2⟩
theorem ScanC.inv {L : Its} {k j : Nat} (h : Pm.ScanC L k j) : (k = j ∧ (k < L.length → pk L k = 93)) ∨ (k + 1 < L.length ∧ pk L k = 92 ∧ Pm.ScanC L (k + 2) j) ∨ (k < L.length ∧ pk L k ≠ 93 ∧ pk L k ≠ 92 ∧ Pm.ScanC L (k + 1) j) := by
 cases h with
 | stop h => exact .inl ⟨rfl, h⟩
 | esc h e r => exact .inr (.inl ⟨h, e, r⟩)
 | go h e e2 r => exact .inr (.inr ⟨h, e, e2, r⟩)
theorem ScanB.inv {L : Its} {k j : Nat} (h : Pm.ScanB L k j) : (k = j ∧ (k < L.length → pk L k = 125)) ∨ (k < L.length ∧ pk L k ≠ 125 ∧ Pm.ScanB L (k + 1) j) := by
 cases h with
 | stop h => exact .inl ⟨rfl, h⟩
 | go h e r => exact .inr ⟨h, e, r⟩
theorem paClass_ok (p k d a j : Nat) (s : ByteArray) (L : Its) (v : Value) (S : List (Int × Int)) (w : World) (h : XI w p s L k d v) (hs : Pm.ScanC L k j) (h93 : pk L j = 93)
 (hab : a ≤ plc L s.size j) (hb : plc L s.size j ≤ s.size) (hsz : plc L s.size j - a ≤ 100000) (hc : clS s a (plc L s.size j) = .ok S) :
 Calls Tryz.prog 155 #[.pointer (some ⟨p, 0, none⟩), .int .i64 a] w fun x w' => ReP w w' (.mk 2 S []) x ∧ Ch w w' p ∧ XI w' p s L (j + 1) d v := by
 have hsm := h.small
 have hle := h.le
 have hplt := h.lt
 obtain ⟨ov, cv, hv, _⟩ := h.row
 have hA := h.moved (bel_new (Below.refl _ _) (.cells #[.int .i64 0, .slice none 0 0, .slice none 0 0] 35))
 obtain ⟨W0, hW0⟩ : ∃ W0, W0 = w.alloc (.cells #[.int .i64 0, .slice none 0 0, .slice none 0 0] 35) := ⟨_, rfl⟩
 have hr0 : W0.heap[w.heap.size]? = some (.cells #[.int .i64 0, .slice none 0 0, .slice none 0 0] 35 (0, 0)) := by rw [hW0]; exact heap_alloc_new w _
 have hsW : W0.heap.size = w.heap.size + 1 := by rw [hW0]; simp
 have hcW : Ch w W0 p := by rw [hW0]; exact Ch.of (bel_new (Below.refl _ _) _)
 rw [← hW0] at hA
 have HX := Lib.hid h
 have HA := Lib.hid (And.intro hA (And.intro hr0 hcW))
 have HS := Lib.hid hs
 have HB := Lib.hid (And.intro hab (And.intro hb (And.intro hsz hc)))
 have H93 := Lib.hid h93
 have HW0 := Lib.hid hW0
 clear h hs hab hb hsz hc h93 hA hr0 hcW hW0
 subst hv
 go_enter Tryz.func155, Tryz.ntmps155
 go_wp2_with fail
 rw [← HW0.out]
 go_loopg [] (L.length - k) (fun g wx => ∃ ki : Nat, ki + g = L.length ∧ XI wx p s L ki d (.slice ov L.length cv) ∧ Ch W0 wx p ∧ Pm.ScanC L ki j)
 case atStart => exact ⟨k, by omega, HA.out.1, Ch.refl _ _, HS.out⟩
 case round =>
  obtain ⟨ki, hkg, hxi, hch, hsc⟩ := hrel
  obtain ⟨⟨c0, c1, c2, c3⟩, f0, f1, f2, f3⟩ := cells4_of hxi.hh
  have HI := Lib.hid hxi
  have HCH := Lib.hid hch
  have hki0 : (0 : Int) ≤ (ki : Int) := by omega
  clear hxi hch
  rcases ScanC.inv hsc with ⟨rfl, h0⟩ | ⟨h0, h92, hsc2⟩ | ⟨h0, hn93, hn92, hsc2⟩
  · have hkl := pk_in' H93.out (by decide)
    have e1 : decide ((ki : Int) < (L.length : Int)) = true := by simp; omega
    have e2 : decide (ki < L.length) = true := by simp; omega
    have t1 : (pk L ki != 93) = false := by rw [H93.out]; rfl
    clear hsc h0
    go_wp2_with fail
    go_quiet ((go_at_call 112; exact Calls.quiet_of_same (runeAt_any p ki ki d s L _ _ (HI.out.drewN _))))
    clear c0 c1 c2 c3 f0 f1 f2 f3
    have Hwq := Lib.hid (And.intro (HI.out.drewN nq) (HCH.out.trans (Ch.drewN p nq)))
    obtain ⟨⟨c0, c1, c2, c3⟩, f0, f1, f2, f3⟩ := cells4_of Hwq.out.1.hh
    generalize wr.drewN nq = wq at Hwq c0 c1 c2 c3 f0 f1 f2 f3 ⊢
    go_wp2_with fail
    refine (paPlace_any p ki ki d s L _ _ Hwq.out.1).mono ?_
    rintro x w1 ⟨rfl, hw⟩
    have hw := hw.symm
    subst hw
    go_wp2_with fail
    refine (paRunes_ok p ki d a (plc L s.size ki) s L _ S _ Hwq.out.1 HB.out.1 HB.out.2.1 HB.out.2.2.1 HB.out.2.2.2).mono ?_
    rintro x w1 ⟨u, rfl, hown, hbel⟩
    have hx1 := Hwq.out.1.moved hbel
    obtain ⟨ou, cu, rfl⟩ := owns_slice hown
    have HO := Lib.hid (And.intro hown hbel)
    clear hown hbel c0 c1 c2 c3 f0 f1 f2 f3
    go_wp2_with fail
    refine (skip_any p ki d 93 s L _ _ hx1 (by decide)).mono ?_
    rintro x w2 ⟨rfl, hc2, hx2⟩
    rw [if_pos H93.out] at hx2
    rw [decide_eq_true H93.out]
    have HX2 := Lib.hid hx2
    have HC2 := Lib.hid hc2
    clear hx1 hx2 hc2
    go_wp2_with fail
    refine (paset_any ou S.length cu _).mono ?_
    rintro x w3 ⟨rfl, hb3⟩
    have hc13 : Ch W0 w3 p := (Hwq.out.2.trans (Ch.of HO.out.2)).trans (HC2.out.trans (Ch.of hb3))
    have hr3 : w3.heap[w.heap.size]? = some (.cells #[.int .i64 0, .slice none 0 0, .slice none 0 0] 35 (0, 0)) := (hc13.block _ (by omega) (by omega)).trans HA.out.2.1
    have hkp : KP (fun j => wq.heap.size ≤ j) w3 (fun w2 => ReIs w2 (.mk 2 S []) (.slice ou S.length cu) (.slice none 0 0)) := by
     intro w' hag
     refine pre_set (Row.owned (owns_ag (S := fun j => wq.heap.size ≤ j) HO.out.1 ((HC2.out.ag.sub (fun j _ hj => ?_)).trans ((Ag.of hb3).trans hag)) (fun j hj => (HO.out.1.lt j hj).1)))
     have := Hwq.out.1.lt; omega
    have hsq : w.heap.size < wq.heap.size := by have := Hwq.out.2.size; omega
    obtain ⟨⟨d0, d1, d2⟩, g0, g1, g2⟩ := cells3_of' hr3
    have HF := Lib.hid (fin3 HX.out hr3 rfl (HA.out.2.2.trans hc13) (HX2.out.moved hb3) hkp (fun j hj => by omega))
    clear hc13 hr3 hkp hb3
    go_wp2_with fail
    obtain ⟨W9, hW, ⟨⟨e0, e1, e2⟩, m0, m1, m2⟩, hre, hc9, hx9⟩ := HF.out
    have HW := Lib.hid hW
    clear hW HF
    rw [show (.int .i64 2 : Value) = .int .i64 (RE.mk 2 S []).kind from rfl, ← HW.out]
    refine bodyPost_ret (v := .agg #[.int .i64 2, .slice ou S.length cu, .slice none 0 0]) (by simp [results, Tryz.results155, go_sem, e0, e1, e2, m0, m1, m2, RE.kind]) rfl ⟨hre, hc9, hx9⟩
  · have e1 : decide ((ki : Int) < (L.length : Int)) = true := by simp; omega
    have e2 : decide (ki < L.length) = true := by simp; omega
    have e3 : decide ((ki : Int) + 1 < (L.length : Int)) = true := by simp; omega
    have e4 : decide (ki + 1 < L.length) = true := by simp; omega
    have t1 : (pk L ki != 93) = true := by rw [h92]; rfl
    have t2 : (pk L ki == 92) = true := by rw [h92]; rfl
    have HSC := Lib.hid hsc2
    have hw1 : IntKind.i64.wrap ((ki : Int) + 1) = (ki : Int) + 1 := IntWalk.i64_in _ (by omega)
    clear hsc hsc2 h92
    go_wp2_with fail
    go_quiet ((go_at_call 112; exact Calls.quiet_of_same (runeAt_any p ki ki d s L _ _ (HI.out.drewN _))))
    clear c0 c1 c2 c3 f0 f1 f2 f3
    have Hwq := Lib.hid (And.intro (HI.out.drewN nq) (HCH.out.trans (Ch.drewN p nq)))
    obtain ⟨⟨c0, c1, c2, c3⟩, f0, f1, f2, f3⟩ := cells4_of Hwq.out.1.hh
    generalize wr.drewN nq = wq at Hwq c0 c1 c2 c3 f0 f1 f2 f3 ⊢
    go_wp2_with fail
    go_quiet ((go_at_call 112; exact Calls.quiet_of_same (runeAt_any p ki ki d s L _ _ (Hwq.out.1.drewN _))))
    clear c0 c1 c2 c3 f0 f1 f2 f3
    have Hwp := Lib.hid (And.intro (Hwq.out.1.drewN nq) (Hwq.out.2.trans (Ch.drewN p nq)))
    obtain ⟨⟨c0, c1, c2, c3⟩, f0, f1, f2, f3⟩ := cells4_of Hwp.out.1.hh
    generalize wq.drewN nq = wp at Hwp c0 c1 c2 c3 f0 f1 f2 f3 ⊢
    clear hw1
    go_wp2_with fail
    have ea : (ki : Int) + 1 = ((ki + 1 : Nat) : Int) := by omega
    have eb : (ki : Int) + 1 + 1 = ((ki + 2 : Nat) : Int) := by omega
    try simp only [eb]
    try simp only [ea]
    clear ea eb
    go_roundg (L.length - (ki + 2))
    case measure => omega
    case rel => exact ⟨ki + 2, by omega, (Hwp.out.1.at (k' := ki + 1) (by omega)).at (by omega), (Hwp.out.2.trans (Ch.set _ _ _ _)).trans (Ch.set _ _ _ _), HSC.out⟩
  · have e1 : decide ((ki : Int) < (L.length : Int)) = true := by simp; omega
    have e2 : decide (ki < L.length) = true := by simp; omega
    have t1 : (pk L ki != 93) = true := by simpa using hn93
    have t2 : (pk L ki == 92) = false := by simpa using hn92
    have HSC := Lib.hid hsc2
    clear hsc hsc2 hn92 hn93
    go_wp2_with fail
    go_quiet ((go_at_call 112; exact Calls.quiet_of_same (runeAt_any p ki ki d s L _ _ (HI.out.drewN _))))
    clear c0 c1 c2 c3 f0 f1 f2 f3
    have Hwq := Lib.hid (And.intro (HI.out.drewN nq) (HCH.out.trans (Ch.drewN p nq)))
    obtain ⟨⟨c0, c1, c2, c3⟩, f0, f1, f2, f3⟩ := cells4_of Hwq.out.1.hh
    generalize wr.drewN nq = wq at Hwq c0 c1 c2 c3 f0 f1 f2 f3 ⊢
    go_wp2_with fail
    go_quiet ((go_at_call 112; exact Calls.quiet_of_same (runeAt_any p ki ki d s L _ _ (Hwq.out.1.drewN _))))
    clear c0 c1 c2 c3 f0 f1 f2 f3
    have Hwp := Lib.hid (And.intro (Hwq.out.1.drewN nq) (Hwq.out.2.trans (Ch.drewN p nq)))
    obtain ⟨⟨c0, c1, c2, c3⟩, f0, f1, f2, f3⟩ := cells4_of Hwp.out.1.hh
    generalize wq.drewN nq = wp at Hwp c0 c1 c2 c3 f0 f1 f2 f3 ⊢
    go_wp2_with fail
    have ea : (ki : Int) + 1 = ((ki + 1 : Nat) : Int) := by omega
    try simp only [ea]
    clear ea
    go_roundg (L.length - (ki + 1))
    case measure => omega
    case rel => exact ⟨ki + 1, by omega, Hwp.out.1.at (by omega), Hwp.out.2.trans (Ch.set _ _ _ _), HSC.out⟩
end Go.Proofs.YtfkmajjgkdjncaaGreatDoor

set_option maxHeartbeats 1000000
set_option maxRecDepth 1000000
namespace Go.Proofs.YtfkmajjgkdjncaaGreatDoor
open Go.RowKit De Wd
theorem pcatch_idle (p q r : Nat) (w : World) :
 CallsD Tryz.prog 28 #[.pointer (some ⟨p, 0, none⟩), .pointer (some ⟨q, 0, none⟩), .pointer (some ⟨r, 0, none⟩)] .returning w fun e u' w' =>
  e = .returned (.tuple #[]) ∧ u' = .returning ∧ w' = w.alloc (.cells #[.int .i64 0, .int .i64 0] 65) := by
 have ta : ∀ w, (Instr.typeAssert .nilIface 20 65 true).run Tryz.prog w = .ok (.tuple #[.agg #[.int .i64 0, .int .i64 0], .bool false]) w := fun w => by kernel_rfl
 refine callsD_of_wpS Tryz.func28 rfl fun c₀ cs hu => ?_
 simp only [Tryz.ntmps28, List.size_toArray, List.length_cons, List.length_nil, Nat.reduceAdd, Nat.reduceSub, Array.replicate_succ, Array.replicate_zero, List.push_toArray, List.append_toArray, List.nil_append, List.cons_append]
 have hrec : recov (c₀ :: cs) = (.nilIface, c₀ :: cs) := by
  simp [recov, recoverD, hu]
 apply wpS_seq
 refine wpS_region_recover rfl rfl ?_
 rw [hrec]
 have HU := Lib.hid hu
 clear hrec hu
 go_wp2
 simp only [Exit.thenS]
 refine wpS_of_wp (wp_mono (Q := fun x a w' => x = .normal ∧ a.defers = [] ∧ w' = w.alloc (.cells #[.int .i64 0, .int .i64 0] 65)) ?_ ?_)
 · go_wp2
 · rintro e a w' ⟨rfl, hdf, rfl⟩
   exact ⟨hdf, .returning, by have := HU.out; cases c₀; simp_all, .tuple #[], results_none rfl _ _ _, rfl, rfl, rfl⟩
end Go.Proofs.YtfkmajjgkdjncaaGreatDoor

set_option maxHeartbeats 2000000
set_option maxRecDepth 1000000
namespace Go.Proofs.YtfkmajjgkdjncaaGreatDoor
open Go.RowKit De Wd
theorem XI.setOther {w : World} {p E i k d : Nat} {s : ByteArray} {L : Its} {v x : Value} (h : XI w p s L k d v) (hE : p ≠ E) (hb : ∀ b off cap, v = .slice (some ⟨b, off, none⟩) L.length cap → b ≠ E) : XI (w.setCell ⟨E, i, none⟩ x) p s L k d v := by
 refine ⟨?_, ?_, h.far, h.le, h.small⟩
 · rw [Below.heap_setCell _ _ _ _ (by simpa using hE)]; exact h.hh
 · obtain ⟨o, cap, rfl, h1, h2, h3⟩ := h.row
   refine ⟨o, cap, rfl, h1, h2, ?_⟩
   rcases h3 with h3 | ⟨b, off, rfl, hb2, hc⟩
   · exact .inl h3
   · refine .inr ⟨b, off, rfl, by simpa [World.setCell] using hb2, fun j u hu => ?_⟩
     rw [← hc j u hu]
     unfold World.cell?
     rw [Below.heap_setCell _ _ _ _ (by simpa using hb b off cap rfl)]
structure HoldR (w w' : World) (a b c : Value) : Prop where
 h0 : w'.heap[w.heap.size]? = some (.cells #[a, b, c] 35 (0, 0))
 h1 : w'.heap[w.heap.size + 1]? = some (.cells #[.int .i64 0] 3 (0, 0))
 h2 : w'.heap[w.heap.size + 1 + 1]? = some (.cells #[.int .i64 0] 3 (0, 0))
 bel : Below w.heap.size w w'
theorem HoldR.below {w a b : World} {x y z : Value} (h : HoldR w a x y z) (hs : w.heap.size + 1 + 1 < a.heap.size) (hb : Below a.heap.size a b) : HoldR w b x y z :=
 ⟨by rw [hb.block _ (by omega)]; exact h.h0, by rw [hb.block _ (by omega)]; exact h.h1, by rw [hb.block _ (by omega)]; exact h.h2, h.bel.trans (hb.mono h.bel.size)⟩
theorem HoldR.ch {w a b : World} {x y z : Value} {p : Nat} (h : HoldR w a x y z) (hs : w.heap.size + 1 + 1 < a.heap.size) (hp : w.heap.size + 1 + 1 < p) (hb : Ch a b p) : HoldR w b x y z :=
 ⟨by rw [hb.block _ (by omega) (by omega)]; exact h.h0, by rw [hb.block _ (by omega) (by omega)]; exact h.h1, by rw [hb.block _ (by omega) (by omega)]; exact h.h2, h.bel.trans ⟨hb.os, hb.tape, hb.output, hb.size, fun k hk => hb.block k (by have := h.bel.size; omega) (by omega)⟩⟩
theorem HoldR.set {w a : World} {x y z x' y' z' : Value} (h : HoldR w a x y z) : HoldR w (((a.setCell ⟨w.heap.size, 0, none⟩ x').setCell ⟨w.heap.size, 1, none⟩ y').setCell ⟨w.heap.size, 2, none⟩ z') x' y' z' := by
 have h0 := h.h0
 refine ⟨by simp [World.setCell, Array.getElem?_modify, h0], ?_, ?_, ((h.bel.setCell (Nat.le_refl _) _).setCell (Nat.le_refl _) _).setCell (Nat.le_refl _) _⟩
 · rw [Below.heap_setCell _ _ _ _ (by simp), Below.heap_setCell _ _ _ _ (by simp), Below.heap_setCell _ _ _ _ (by simp)]; exact h.h1
 · rw [Below.heap_setCell _ _ _ _ (by simp; omega), Below.heap_setCell _ _ _ _ (by simp; omega), Below.heap_setCell _ _ _ _ (by simp; omega)]; exact h.h2
theorem HoldR.zero {w a : World} {x y z : Value} (h : HoldR w a x y z) : HoldR w ((a.setCell ⟨w.heap.size + 1, 0, none⟩ (.int .i64 0)).setCell ⟨w.heap.size + 1 + 1, 0, none⟩ (.int .i64 0)) x y z := by
 have h1 := h.h1
 have h2 := h.h2
 refine ⟨?_, ?_, ?_, (h.bel.setCell (by simp) _).setCell (by simp <;> omega) _⟩
 · rw [Below.heap_setCell _ _ _ _ (by simp; omega), Below.heap_setCell _ _ _ _ (by simp)]; exact h.h0
 · rw [Below.heap_setCell _ _ _ _ (by simp)]; exact set1 h1 _
 · refine set1 (a := .int .i64 0) ?_ _
   rw [Below.heap_setCell _ _ _ _ (by simp)]; exact h2
def ReOk (e : RE) (w : World) (x : Ending) (w' : World) : Prop :=
 ∃ sv lv, x = .returned (.tuple #[.agg #[.int .i64 e.kind, sv, lv], .int .i64 0, .int .i64 0]) ∧ KP (fun k => w.heap.size ≤ k) w' (fun w2 => ReIs w2 e sv lv) ∧ Below w.heap.size w w'
theorem re_ok (s : ByteArray) (e : RE) (w : World) (hs : s.size ≤ 100000)
 (hat : ∀ p v w, XI w p s (all 0 (sb s)) 0 0 v → Calls Tryz.prog 30 #[.pointer (some ⟨p, 0, none⟩)] w fun x w' => ReP w w' e x ∧ Ch w w' p ∧ XI w' p s (all 0 (sb s)) (all 0 (sb s)).length 0 v) :
 Calls Tryz.prog 14 #[.string s] w (ReOk e w) := by
 have hmf : ∀ (fn : Fn) (first cap : Array Value) (w : World), (Instr.makeFunc fn first cap).run Tryz.prog w = .ok (.func fn first cap) w := fun _ _ _ _ => rfl
 have hconv := fun w => Lib.run_convert_string_bytes (P := Tryz.prog) w 9 84 5 s Tryz.underlying9 Tryz.underlying84 Tryz.underlying5
 obtain ⟨W3, hW3⟩ : ∃ W3, W3 = (((w.alloc (.cells #[.int .i64 0, .slice none 0 0, .slice none 0 0] 35)).alloc (.cells #[.int .i64 0] 3)).alloc (.cells #[.int .i64 0] 3)) := ⟨_, rfl⟩
 obtain ⟨g0, g1, g2, g3, g4⟩ := threeW w _ _ _ W3 hW3
 have hcr := convRow W3 s (by omega)
 rw [g3] at hcr
 have hall := all_any (sb s) (.slice (some ⟨w.heap.size + 1 + 1 + 1, 0, none⟩) s.size (grownCap W3 s.size 0 5)) (Lib.bytesWorld W3 5 s) hcr (sb_u8 s) (by rw [sb_len]; omega)
 clear hcr
 have hlen := all_len 0 (sb s)
 rw [sb_len] at hlen
 obtain ⟨L, hL⟩ : ∃ L, L = all 0 (sb s) := ⟨_, rfl⟩
 rw [← hL] at hall hlen hat
 have HA := Lib.hid hall
 have HT := Lib.hid hat
 have HG := Lib.hid (And.intro hW3 (And.intro g0 (And.intro g1 (And.intro g2 (And.intro g3 g4)))))
 clear hW3 g0 g1 g2 g3 g4 hall hL hat
 go_enter_defers Tryz.func14, Tryz.ntmps14
 go_wp2_with fail
 obtain ⟨hW3, g0, g1, g2, g3, g4⟩ := HG.out
 rw [← hW3]
 refine HA.out.mono ?_
 rintro x w4 ⟨uv, rfl, hown4, hb4⟩
 have hbW : Below W3.heap.size W3 w4 := bel_then (convW_below W3 _ s) hb4
 have hold4 : HoldR w w4 (.int .i64 0) (.slice none 0 0) (.slice none 0 0) := HoldR.below ⟨g0, g1, g2, g4⟩ (by omega) hbW
 have hz4 := hbW.size
 obtain ⟨p, hp⟩ : ∃ p, p = w4.heap.size := ⟨_, rfl⟩
 obtain ⟨ou, cu, rfl⟩ := owns_slice hown4
 have hlow : ∀ b off cap, Value.slice ou L.length cu = .slice (some ⟨b, off, none⟩) L.length cap → b < p ∧ w.heap.size + 1 + 1 < b := fun b off cap e => by
  simp only [Value.slice.injEq, true_and] at e
  obtain ⟨rfl, rfl⟩ := e
  have h1 := (hown4.lt b rfl).2
  have h2 := (hown4.lt b rfl).1
  rw [Lib.bytesWorld_size] at h2
  omega
 have hxi : XI (w4.alloc (.cells #[.string s, .slice ou L.length cu, .int .i64 ((0 : Nat) : Int), .int .i64 ((0 : Nat) : Int)] 86)) p s L 0 0 (.slice ou L.length cu) :=
  ⟨by rw [hp]; exact heap_alloc_new _ _, (Row.owned hown4).below (bel_new (Below.refl _ _) _), fun b off cap e => by have := hlow b off cap e; omega, Nat.zero_le _, by omega⟩
 have hh5 := hold4.below (by omega) (bel_new (Below.refl _ _) (.cells #[.string s, .slice ou L.length cu, .int .i64 ((0 : Nat) : Int), .int .i64 ((0 : Nat) : Int)] 86))
 obtain ⟨W5, hW5⟩ : ∃ W5, W5 = w4.alloc (.cells #[.string s, .slice ou L.length cu, .int .i64 ((0 : Nat) : Int), .int .i64 ((0 : Nat) : Int)] 86) := ⟨_, rfl⟩
 rw [← hW5] at hxi hh5
 have hpl2 : w.heap.size + 1 + 1 < p := by omega
 have hs5 : w.heap.size + 1 + 1 < W5.heap.size := by rw [hW5]; simp; omega
 have H5 := Lib.hid (And.intro hxi (And.intro hh5 (And.intro hW5 hp)))
 have HLOW := Lib.hid hlow
 clear hxi hh5 hown4 hb4 hbW hold4 g0 g1 g2 g3 g4 hW3 hconv HG hp hz4 hW5 hlow
 go_wp2_with fail
 rw [← H5.out.2.2.2]
 have hW5 := H5.out.2.2.1
 simp only [Int.natCast_zero, Int.ofNat_zero] at hW5
 rw [← hW5]
 clear hW5
 refine (HT.out p _ _ H5.out.1).mono ?_
 rintro x w6 ⟨⟨sv, lv, rfl, hkp⟩, hch, hx6⟩
 obtain ⟨⟨o1, q1, rfl⟩, ⟨o2, q2, rfl⟩⟩ := hkp.here.form
 have hh6 := H5.out.2.1.ch hs5 hpl2 hch
 have hs6 : W5.heap.size ≤ w6.heap.size := hch.size
 obtain ⟨X, hX⟩ : ∃ X, X = ((w6.setCell ⟨w.heap.size, 0, none⟩ (.int .i64 e.kind)).setCell ⟨w.heap.size, 1, none⟩ (.slice o1 e.set.length q1)).setCell ⟨w.heap.size, 2, none⟩ (.slice o2 e.parts.length q2) := ⟨_, rfl⟩
 have hpe : p ≠ w.heap.size := by omega
 have hfr : ∀ b off cap, Value.slice ou L.length cu = .slice (some ⟨b, off, none⟩) L.length cap → b ≠ w.heap.size := fun b off cap e0 => by have := HLOW.out b off cap e0; omega
 have hhX : HoldR w X (.int .i64 e.kind) (.slice o1 e.set.length q1) (.slice o2 e.parts.length q2) := by rw [hX]; exact hh6.set
 have hxX : XI X p s L L.length 0 (.slice ou L.length cu) := by rw [hX]; exact ((hx6.setOther hpe hfr).setOther hpe hfr).setOther hpe hfr
 have hkX : KP (fun k => W5.heap.size ≤ k) X (fun w2 => ReIs w2 e (.slice o1 e.set.length q1) (.slice o2 e.parts.length q2)) := by
  rw [hX]
  refine hkp.to ((((Ag.refl _ _).setCell (fun h => ?_) _).setCell (fun h => ?_) _).setCell (fun h => ?_) _)
  all_goals (have h9 : W5.heap.size ≤ w.heap.size := h; omega)
 have hsX : W5.heap.size ≤ X.heap.size := by rw [hX]; simpa [World.setCell] using hs6
 obtain ⟨⟨d0, d1, d2⟩, f0, f1, f2⟩ := cells3_of' hh6.h0
 have HX := Lib.hid (And.intro hhX (And.intro hxX (And.intro hkX hX)))
 clear hhX hxX hkX hX hh6 hx6 hkp hch hfr
 go_wp2_with fail
 rw [← HX.out.2.2.2]
 clear d0 d1 d2 f0 f1 f2
 obtain ⟨⟨c0, c1, c2, c3⟩, f0, f1, f2, f3⟩ := cells4_of HX.out.2.1.hh
 have hl0 : (0 : Int) ≤ (L.length : Int) := by omega
 have e1 : decide ((L.length : Int) < (L.length : Int)) = false := by simp
 have e2 : decide (L.length < L.length) = false := by simp
 go_quiet (fail)
 clear c0 c1 c2 c3 f0 f1 f2 f3
 have hh7 := HX.out.1.ch (p := p) (by omega) hpl2 (Ch.drewN p nq)
 have hk7 : KP (fun k => W5.heap.size ≤ k) (X.drewN nq) (fun w2 => ReIs w2 e (.slice o1 e.set.length q1) (.slice o2 e.parts.length q2)) := HX.out.2.2.1.to ⟨rfl, rfl, rfl, Nat.le_refl _, fun _ _ _ => rfl⟩
 have hs7 : W5.heap.size ≤ (X.drewN nq).heap.size := hsX
 generalize X.drewN nq = Y at hh7 hk7 hs7 ⊢
 obtain ⟨⟨d0, d1, d2⟩, f0, f1, f2⟩ := cells3_of' hh7.h0
 obtain ⟨d3, f3⟩ := cell1_of hh7.h1
 obtain ⟨d4, f4⟩ := cell1_of hh7.h2
 have HY := Lib.hid (And.intro hh7 hk7)
 clear hh7 hk7
 go_wp2_with fail
 obtain ⟨W8, hW8⟩ : ∃ W8, W8 = ((((Y.setCell ⟨w.heap.size, 0, none⟩ (.int .i64 e.kind)).setCell ⟨w.heap.size, 1, none⟩ (.slice o1 e.set.length q1)).setCell ⟨w.heap.size, 2, none⟩ (.slice o2 e.parts.length q2)).setCell ⟨w.heap.size + 1, 0, none⟩ (.int .i64 0)).setCell ⟨w.heap.size + 1 + 1, 0, none⟩ (.int .i64 0) := ⟨_, rfl⟩
 rw [← hW8]
 have hh8 : HoldR w W8 (.int .i64 e.kind) (.slice o1 e.set.length q1) (.slice o2 e.parts.length q2) := by rw [hW8]; exact (HY.out.1.set).zero
 have hk8 : KP (fun k => W5.heap.size ≤ k) W8 (fun w2 => ReIs w2 e (.slice o1 e.set.length q1) (.slice o2 e.parts.length q2)) := by
  rw [hW8]
  refine HY.out.2.to ((((((Ag.refl _ _).setCell (fun h => ?_) _).setCell (fun h => ?_) _).setCell (fun h => ?_) _).setCell (fun h => ?_) _).setCell (fun h => ?_) _)
  · have h9 : W5.heap.size ≤ w.heap.size := h; omega
  · have h9 : W5.heap.size ≤ w.heap.size := h; omega
  · have h9 : W5.heap.size ≤ w.heap.size := h; omega
  · have h9 : W5.heap.size ≤ w.heap.size + 1 := h; omega
  · have h9 : W5.heap.size ≤ w.heap.size + 1 + 1 := h; omega
 have hz8 : w.heap.size + 1 + 1 < W8.heap.size := by rw [hW8]; simp [World.setCell]; omega
 clear hW8 d0 d1 d2 f0 f1 f2 d3 f3 d4 f4
 refine leaves_cons (f := 28) (args := #[.pointer (some ⟨w.heap.size, 0, none⟩), .pointer (some ⟨w.heap.size + 1, 0, none⟩), .pointer (some ⟨w.heap.size + 1 + 1, 0, none⟩)]) (by simp) (by simp [go_sem]) ?_
 refine (pcatch_idle _ _ _ _).mono ?_
 rintro x u' w'' ⟨rfl, rfl, rfl⟩
 have hh9 := hh8.below hz8 (bel_new (Below.refl _ _) (.cells #[.int .i64 0, .int .i64 0] 65))
 have hk9 := hk8.to (.of (bel_new (Below.refl _ _) (.cells #[.int .i64 0, .int .i64 0] 65)))
 obtain ⟨W9, hW9⟩ : ∃ W9, W9 = W8.alloc (.cells #[.int .i64 0, .int .i64 0] 65) := ⟨_, rfl⟩
 rw [← hW9] at hh9 hk9 ⊢
 clear hW9
 obtain ⟨⟨c0, c1, c2⟩, z0, z1, z2⟩ := cells3_of' hh9.h0
 obtain ⟨c3, z3⟩ := cell1_of hh9.h1
 obtain ⟨c4, z4⟩ := cell1_of hh9.h2
 have HP : ReOk e w (.returned (.tuple #[.agg #[.int .i64 e.kind, .slice o1 e.set.length q1, .slice o2 e.parts.length q2], .int .i64 0, .int .i64 0])) W9 :=
  ⟨_, _, rfl, hk9.sub (fun k _ hk => by have h9 : W5.heap.size ≤ k := hk; omega), hh9.bel⟩
 simp [Leaves, settle, results, Tryz.results14, go_sem, c0, c1, c2, c3, c4]
 exact HP
end Go.Proofs.YtfkmajjgkdjncaaGreatDoor
