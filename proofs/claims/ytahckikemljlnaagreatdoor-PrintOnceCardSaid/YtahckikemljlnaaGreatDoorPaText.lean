/- parse.Re reads printed expressions. -/
import Derived.Deep.LoopGhost
import Derived.Deep.RegionLaw
import Derived.Test.YtahckikemljlnaaGreatDoorPaAtom
import Derived.RegionTactic
import Derived.ChangeAlike
import Derived.BigRegion
import Derived.Test.YtahckikemljlnaaGreatDoorPmDet
set_option linter.unusedVariables false
set_option linter.unusedSimpArgs false
namespace Go.Proofs.YtahckikemljlnaaGreatDoor
open Go.RowKit De Wd

set_option maxHeartbeats 4000000 in
set_option maxRecDepth 100000 in
theorem alts_any (p k d k1 k2 : Nat) (s : ByteArray) (L : Its) (v : Value) (a e : RE) (w : World) (h : XI w p s L k d v) (h128 : ∀ i, pk L i < 128) (P : Nat → RE → Nat → Prop) (hmono : ∀ k b k', P k b k' → k ≤ k') (h1 : P k a k1) (hl : AlL L P a k1 e k2)
    (hat : ∀ w k a k1, P k a k1 → XI w p s L k d v → Calls Tryz.prog 102 #[.pointer (some ⟨p, 0, none⟩)] w fun x w' => ReP w w' a x ∧ Ch w w' p ∧ XI w' p s L k1 d v) :
    Calls Tryz.prog 44 #[.pointer (some ⟨p, 0, none⟩)] w fun x w' => ReP w w' e x ∧ Ch w w' p ∧ XI w' p s L k2 d v := by
  have hlt := h.lt
  have hA := h.moved (bel_new (Below.refl _ _) (.cells #[.int .i64 0, .slice none 0 0, .slice none 0 0] 35))
  have HX := Lib.hid h
  have HA := Lib.hid hA
  have HT := Lib.hid hat
  have HL := Lib.hid hl
  have HH1 := Lib.hid h1
  have H128 := Lib.hid h128
  clear h hA hat hl h1 h128
  go_enter Tryz.func44, Tryz.ntmps44
  go_wp2_with fail
  refine (HT.out _ _ _ _ HH1.out HA.out).mono ?_
  rintro x w1 ⟨⟨sv, lv, rfl, hkp⟩, hch, hxi⟩
  obtain ⟨⟨o1, q1, rfl⟩, ⟨o2, q2, rfl⟩⟩ := hkp.here.form
  have hs1 : w.heap.size < w1.heap.size := by have := hch.size; simp at this; omega
  have hr1 : w1.heap[w.heap.size]? = some (.cells #[.int .i64 0, .slice none 0 0, .slice none 0 0] 35 (0, 0)) := by rw [hch.block _ (by simp) (by omega)]; exact heap_alloc_new w _
  have hpb : p ≠ w1.heap.size := by omega
  have hxi2 := hxi.moved (bel_new (Below.refl _ _) (.cells #[.int .i64 a.kind, .slice o1 a.set.length q1, .slice o2 a.parts.length q2] 35))
  have hpi : PoI w (w1.alloc (.cells #[.int .i64 a.kind, .slice o1 a.set.length q1, .slice o2 a.parts.length q2] 35)) p w1.heap.size w.heap.size s L d k1 v a (.slice o1 a.set.length q1) (.slice o2 a.parts.length q2) := by
    refine ⟨hxi2, ?_, heap_alloc_new w1 _, ⟨.int .i64 0, .slice none 0 0, .slice none 0 0, ?_⟩, ?_⟩
    · exact ((Ch.of (bel_new (Below.refl _ _) _)).trans hch).trans (Ch.of (bel_new (Below.refl _ _) _))
    · rw [(bel_new (Below.refl w1.heap.size w1) _).block _ hs1]; exact hr1
    · intro w' hag
      refine hkp w' ⟨hag.os, hag.tape, hag.output, by have := hag.size; simp at this; omega, fun j hj hS => ?_⟩
      have hS' : w.heap.size + 1 ≤ j := by simpa using hS
      rw [hag.block j (by simp; omega) ⟨by omega, by omega⟩]
      exact (bel_new (Below.refl w1.heap.size w1) _).block j hj
  have HPI := Lib.hid hpi
  have hle := hxi.le
  clear hpi hxi2 hxi hch hkp hr1
  go_wp2_with fail
  go_loopg [] (L.length - k1) (fun g wx => ∃ (a' : RE) (ki : Nat) (o3 o4 : Option Addr) (q3 q4 : Nat), ki + g = L.length ∧ PoI w wx p w1.heap.size w.heap.size s L d ki v a' (.slice o3 a'.set.length q3) (.slice o4 a'.parts.length q4) ∧ AlL L P a' ki e k2)
  case atStart => exact ⟨a, k1, _, _, _, _, by omega, HPI.out, HL.out⟩
  case round =>
    obtain ⟨a', ki, o3, o4, q3, q4, hkg, hpi, hpo⟩ := hrel
    have HP := Lib.hid hpi
    obtain ⟨⟨c0, c1, c2⟩, f0, f1, f2⟩ := cells3_of' hpi.hb
    clear hpi
    rcases hpo.inv with ⟨hcnd, rfl, rfl⟩ | ⟨hcnd, nb, kj, hpp, hpo2⟩
    · have HN := Lib.hid hcnd
      clear hpo hcnd
      go_wp2_with fail
      refine (skip_any p ki d 124 s L v _ HP.out.x (by decide)).mono ?_
      rintro x w2 ⟨rfl, hc2, hx2⟩
      rw [if_neg HN.out] at hx2
      rw [decide_eq_false HN.out]
      have hb2 := (hc2.block _ (lt_of_some HP.out.hb) (fun e => hpb e.symm)).trans HP.out.hb
      obtain ⟨z0, z1, z2, hz⟩ := HP.out.hr
      have hr2 := (hc2.block _ (lt_of_some hz) (by omega)).trans hz
      have hbr : ¬ w1.heap.size = w.heap.size := by omega
      obtain ⟨⟨d0, d1, d2⟩, g0, g1, g2⟩ := cells3_of' hb2
      obtain ⟨⟨r0, r1, r2⟩, x0, x1, x2⟩ := cells3_of' hr2
      have hkp2 := HP.out.kp.to (hc2.ag.sub (fun j _ hj => by omega))
      have HK := Lib.hid hkp2
      have HC := Lib.hid (HP.out.c.trans hc2)
      have HX2 := Lib.hid hx2
      have HR2 := Lib.hid hr2
      clear c0 c1 c2 f0 f1 f2 hb2 hz hkp2 hc2 hx2 HP hr2
      go_wp2_with fail
      obtain ⟨W9, hW⟩ : ∃ W9, W9 = ((w2.setCell ⟨w.heap.size, 0, none⟩ (.int .i64 a'.kind)).setCell ⟨w.heap.size, 1, none⟩ (.slice o3 a'.set.length q3)).setCell ⟨w.heap.size, 2, none⟩ (.slice o4 a'.parts.length q4) := ⟨_, rfl⟩
      have h9 : W9.heap[w.heap.size]? = some (.cells #[.int .i64 a'.kind, .slice o3 a'.set.length q3, .slice o4 a'.parts.length q4] 35 (0, 0)) := by
        rw [hW]; have := HR2.out; simp [World.setCell, Array.getElem?_modify, this]
      have hag : Ag (fun j => w.heap.size < j ∧ j ≠ w1.heap.size) w2 W9 := by
        rw [hW]
        exact (((Ag.refl _ _).setCell (fun h => Nat.lt_irrefl _ h.1) _).setCell (fun h => Nat.lt_irrefl _ h.1) _).setCell (fun h => Nat.lt_irrefl _ h.1) _
      have hc9 : Ch w W9 p := by rw [hW]; exact ((HC.out.setNew' (Nat.le_refl _)).setNew' (Nat.le_refl _)).setNew' (Nat.le_refl _)
      have hx9 : XI W9 p s L ki d v := by rw [hW]; exact HX.out.setNew (HX.out.setNew (HX.out.setNew HX2.out (Nat.le_refl _)) (Nat.le_refl _)) (Nat.le_refl _)
      rw [← hW]
      clear hW r0 r1 r2 x0 x1 x2 d0 d1 d2 g0 g1 g2
      obtain ⟨⟨d0, d1, d2⟩, g0, g1, g2⟩ := cells3_of' h9
      refine bodyPost_ret (v := .agg #[.int .i64 a'.kind, .slice o3 a'.set.length q3, .slice o4 a'.parts.length q4]) (by simp [results, Tryz.results44, go_sem, d0, d1, d2, g0, g1, g2]) rfl ?_
      exact ⟨⟨_, _, rfl, (HK.out.to hag).sub (fun j _ hj => Nat.le_of_lt hj.1)⟩, hc9, hx9⟩
    · have HN := Lib.hid hcnd
      clear hpo hcnd
      go_wp2_with fail
      refine (skip_any p ki d 124 s L v _ HP.out.x (by decide)).mono ?_
      rintro x w2 ⟨rfl, hc2, hx2⟩
      rw [if_pos HN.out] at hx2
      have hki : ki < L.length := pk_in' HN.out (by decide)
      rw [decide_eq_true HN.out]
      have hb2 := (hc2.block _ (lt_of_some HP.out.hb) (fun e => hpb e.symm)).trans HP.out.hb
      have hblt := lt_of_some hb2
      obtain ⟨z0, z1, z2, hz⟩ := HP.out.hr
      have hr2 := (hc2.block _ (lt_of_some hz) (by omega)).trans hz
      have hrlt := lt_of_some hr2
      have hbr : ¬ w1.heap.size = w.heap.size := by omega
      obtain ⟨⟨d0, d1, d2⟩, g0, g1, g2⟩ := cells3_of' hb2
      have hkp2 := HP.out.kp.to (hc2.ag.sub (fun j _ hj => by omega))
      have HK := Lib.hid hkp2
      have HC := Lib.hid (HP.out.c.trans hc2)
      have HX2 := Lib.hid hx2
      have HR2 := Lib.hid hr2
      have HB2 := Lib.hid hb2
      have HPO := Lib.hid hpo2
      have HPP := Lib.hid hpp
      have hpp2 := hmono _ _ _ hpp
      have hqb : ¬ w2.heap.size = w1.heap.size := by omega
      clear c0 c1 c2 f0 f1 f2 hb2 hz hkp2 hc2 hx2 hr2 HP hpo2 hpp
      go_wp2_with fail
      go_region_law
        (go_simp; go_at_call 102; refine (HT.out _ _ _ _ HPP.out (HX2.out.moved (by repeat (first | exact Below.refl _ _ | refine Below.drew ?_)))).mono ?_; rintro x w5 ⟨⟨sv5, lv5, rfl, hk5⟩, hc5, hx5⟩; obtain ⟨⟨o5, q5, rfl⟩, ⟨o6, q6, rfl⟩⟩ := hk5.here.form; have hb5 := (hc5.block _ hblt (fun e => hpb e.symm)).trans HB2.out; obtain ⟨⟨e0, e1, e2⟩, m0, m1, m2⟩ := cells3_of' hb5; have hlt5 : w1.heap.size < w5.heap.size := Nat.lt_of_lt_of_le hblt (show w2.heap.size ≤ w5.heap.size from hc5.size); have hqb5 : ¬ w5.heap.size = w1.heap.size := (fun e => absurd hlt5 (e ▸ Nat.lt_irrefl _)); have hqb6 : ¬ w1.heap.size = w5.heap.size := (fun e => absurd hlt5 (e ▸ Nat.lt_irrefl _)))
      all_goals (
        have hr5 := (hc5.block _ hrlt (fun e => by omega)).trans HR2.out
        have hka5 := HK.out.to (((Ag.refl _ w2).drew).trans (hc5.ag.sub (fun j _ hj => by omega)))
        have HP9 := Lib.hid (PoI.two (b' := nb) (n5 := w2.heap.size) 4 HX.out (HC.out.trans (Ch.trans (Ch.of (Below.refl _ _).drew) hc5)) hx5 hb5 hr5 hka5 (hk5.sub (fun j _ hj => hj)) (by omega) (Nat.le_refl _) (by omega) hblt)
        have hkl := hx5.le
        clear hb5 hr5 hka5 e0 e1 e2 m0 m1 m2 d0 d1 d2 g0 g1 g2 hc5 hx5 hk5
        try go_wp2_with fail
        go_roundg (L.length - kj)
        case measure => omega
        case rel => exact ⟨.mk 4 [] [a', nb], kj, none, some ⟨w5.heap.size, 0, none⟩, 0, 2, by omega, HP9.out, HPO.out⟩)
end Go.Proofs.YtahckikemljlnaaGreatDoor

namespace Go.Proofs.YtahckikemljlnaaGreatDoor
open Go.RowKit De Wd

set_option maxHeartbeats 4000000 in
set_option maxRecDepth 100000 in
theorem paParens_ok (p k d a k1 : Nat) (s : ByteArray) (L : Its) (v : Value) (e : RE) (w : World) (h : XI w p s L k d v) (hd : d < 40) (h41 : pk L k1 = 41)
    (hat : ∀ w, XI w p s L k (d + 1) v → Calls Tryz.prog 44 #[.pointer (some ⟨p, 0, none⟩)] w fun x w' => ReP w w' e x ∧ Ch w w' p ∧ XI w' p s L k1 (d + 1) v) :
    Calls Tryz.prog 223 #[.pointer (some ⟨p, 0, none⟩), .int .i64 a] w fun x w' => ReP w w' e x ∧ Ch w w' p ∧ XI w' p s L (k1 + 1) d v := by
  have hplt := h.lt
  have hA := h.moved (bel_new (Below.refl _ _) (.cells #[.int .i64 0, .slice none 0 0, .slice none 0 0] 35))
  obtain ⟨W0, hW0⟩ : ∃ W0, W0 = w.alloc (.cells #[.int .i64 0, .slice none 0 0, .slice none 0 0] 35) := ⟨_, rfl⟩
  have hr0 : W0.heap[w.heap.size]? = some (.cells #[.int .i64 0, .slice none 0 0, .slice none 0 0] 35 (0, 0)) := by rw [hW0]; exact heap_alloc_new w _
  have hsW : W0.heap.size = w.heap.size + 1 := by rw [hW0]; simp
  have hcW : Ch w W0 p := by rw [hW0]; exact Ch.of (bel_new (Below.refl _ _) _)
  rw [← hW0] at hA
  obtain ⟨⟨c0, c1, c2, c3⟩, f0, f1, f2, f3⟩ := cells4_of hA.hh
  have hx1 : XI (W0.setCell ⟨p, 3, none⟩ (.int .i64 ((d : Int) + 1))) p s L k (d + 1) v := by
    have h9 := hA.deep (d' := d + 1)
    rwa [show ((d + 1 : Nat) : Int) = (d : Int) + 1 by omega] at h9
  obtain ⟨W1, hW1⟩ : ∃ W1, W1 = W0.setCell ⟨p, 3, none⟩ (.int .i64 ((d : Int) + 1)) := ⟨_, rfl⟩
  rw [← hW1] at hx1
  have hc1 : Ch W0 W1 p := by rw [hW1]; exact Ch.set _ _ _ _
  have hs1 : W1.heap.size = w.heap.size + 1 := by rw [hW1, ← hsW]; simp [World.setCell]
  have HX := Lib.hid h
  have HA := Lib.hid (And.intro hA (And.intro hr0 hcW))
  have H1 := Lib.hid (And.intro hx1 hc1)
  have HT := Lib.hid hat
  have H41 := Lib.hid h41
  have HW0 := Lib.hid hW0
  have HW1 := Lib.hid hW1
  have t1 : ((d : Int) == 40) = false := by simp; omega
  have t2 : (d == 40) = false := by simp; omega
  have hd0 : (0 : Int) ≤ (d : Int) := by omega
  clear h hA hat h41 hW0 hW1 hr0 hcW hx1 hc1
  go_enter Tryz.func223, Tryz.ntmps223
  go_wp2_with (with_reducible rw [← HW0.out])
  rw [← HW1.out]
  refine (HT.out _ H1.out.1).mono ?_
  rintro x w2 ⟨⟨sv, lv, rfl, hkp⟩, hch, hx2⟩
  obtain ⟨⟨o1, q1, rfl⟩, ⟨o2, q2, rfl⟩⟩ := hkp.here.form
  have hr2 := (H1.out.2.trans hch).block _ (show w.heap.size < W0.heap.size by omega) (by omega) |>.trans HA.out.2.1
  have hz2 : w.heap.size < w2.heap.size := lt_of_some hr2
  have hbx : ¬ w2.heap.size = w.heap.size := by omega
  have hx3 := hx2.moved (bel_new (Below.refl _ _) (.cells #[.int .i64 e.kind, .slice o1 e.set.length q1, .slice o2 e.parts.length q2] 35))
  have hb3 := heap_alloc_new w2 (.cells #[.int .i64 e.kind, .slice o1 e.set.length q1, .slice o2 e.parts.length q2] 35)
  have H2 := Lib.hid (And.intro hkp (And.intro hch (And.intro hx3 (And.intro hr2 hb3))))
  clear hkp hch hx2 hx3 hr2 hb3 c0 c1 c2 c3 f0 f1 f2 f3
  go_wp2_with fail
  refine (skip_any p k1 (d + 1) 41 s L _ _ H2.out.2.2.1 (by decide)).mono ?_
  rintro x w4 ⟨rfl, hc4, hx4⟩
  rw [if_pos H41.out] at hx4
  rw [decide_eq_true H41.out]
  obtain ⟨⟨c0, c1, c2, c3⟩, f0, f1, f2, f3⟩ := cells4_of hx4.hh
  have hb4 := (hc4.block _ (lt_of_some H2.out.2.2.2.2) (by omega)).trans H2.out.2.2.2.2
  obtain ⟨⟨d0, d1, d2⟩, g0, g1, g2⟩ := cells3_of' hb4
  have hr4 : w4.heap[w.heap.size]? = some (.cells #[.int .i64 0, .slice none 0 0, .slice none 0 0] 35 (0, 0)) := by
    rw [hc4.block _ (by simp; omega) (by omega), (bel_new (Below.refl w2.heap.size w2) _).block _ hz2]
    exact H2.out.2.2.2.1
  have hq4 : w2.heap.size < w4.heap.size := lt_of_some hb4
  obtain ⟨⟨r0, r1, r2⟩, x0, x1, x2⟩ := cells3_of' hr4
  have hpr : ¬ w.heap.size = p := by omega
  have hpr2 : ¬ p = w.heap.size := by omega
  have hpe : ¬ w2.heap.size = p := by omega
  have hpe2 : ¬ p = w2.heap.size := by omega
  have H4 := Lib.hid (And.intro hc4 (And.intro hx4 hr4))
  have ex : ((d + 1 : Nat) : Int) - 1 = (d : Int) := by omega
  have ex2 : (d : Int) + 1 - 1 = (d : Int) := by omega
  have hx6 : XI (w4.setCell ⟨p, 3, none⟩ (.int .i64 d)) p s L (k1 + 1) d v := hx4.deep
  obtain ⟨W6, hW6⟩ : ∃ W6, W6 = w4.setCell ⟨p, 3, none⟩ (.int .i64 d) := ⟨_, rfl⟩
  rw [← hW6] at hx6
  have hc6 : Ch w4 W6 p := by rw [hW6]; exact Ch.set _ _ _ _
  have hr6 := (hc6.block _ (lt_of_some hr4) (by omega)).trans hr4
  have hk6 : KP (fun j => W1.heap.size ≤ j) W6 (fun w3 => ReIs w3 e (.slice o1 e.set.length q1) (.slice o2 e.parts.length q2)) := by
    refine H2.out.1.to (((Ag.of (bel_new (Below.refl _ _) _)).trans (hc4.ag.sub (fun j _ hj => ?_))).trans (hc6.ag.sub (fun j _ hj => ?_)))
    all_goals omega
  have HF := Lib.hid (fin3 HX.out hr6 rfl (((HA.out.2.2.trans H1.out.2).trans ((H2.out.2.1).trans (Ch.of (bel_new (Below.refl _ _) _)))).trans (hc4.trans hc6)) hx6 hk6 (fun j hj => by omega))
  have HW6 := Lib.hid hW6
  clear hc4 hx4 hb4 hr4 hx6 hc6 hr6 hk6 hW6 ex2
  have EX := Lib.hid ex
  clear ex
  go_wp2_with fail
  try simp only [show ((d + 1 : Nat) : Int) - 1 = (d : Int) by omega]
  rw [← HW6.out]
  obtain ⟨W9, hW, ⟨⟨e0, e1, e2⟩, m0, m1, m2⟩, hre, hc9, hx9⟩ := HF.out
  have HW := Lib.hid hW
  clear hW HF
  rw [← HW.out]
  refine bodyPost_ret (v := .agg #[.int .i64 e.kind, .slice o1 e.set.length q1, .slice o2 e.parts.length q2]) (by simp [results, Tryz.results223, go_sem, e0, e1, e2, m0, m1, m2]) rfl ⟨hre, hc9, hx9⟩
end Go.Proofs.YtahckikemljlnaaGreatDoor

namespace Go.Proofs.YtahckikemljlnaaGreatDoor
open Go.RowKit De Wd

set_option maxHeartbeats 4000000 in
set_option maxRecDepth 100000 in
theorem paAtom_one (p k d : Nat) (s : ByteArray) (L : Its) (v : Value) (w : World) (h : XI w p s L k d v) (hrn : 0 ≤ pk L k) (n40 : pk L k ≠ 40) (n91 : pk L k ≠ 91) (n92 : pk L k ≠ 92) (n46 : pk L k ≠ 46) :
    Calls Tryz.prog 201 #[.pointer (some ⟨p, 0, none⟩)] w fun x w' => ReP w w' (.mk 2 [(pk L k, pk L k)] []) x ∧ Ch w w' p ∧ XI w' p s L (k + 1) d v := by
  have hplt := h.lt
  have hA := h.moved (bel_new (Below.refl _ _) (.cells #[.int .i64 0, .slice none 0 0, .slice none 0 0] 35))
  obtain ⟨W0, hW0⟩ : ∃ W0, W0 = w.alloc (.cells #[.int .i64 0, .slice none 0 0, .slice none 0 0] 35) := ⟨_, rfl⟩
  have hr0 : W0.heap[w.heap.size]? = some (.cells #[.int .i64 0, .slice none 0 0, .slice none 0 0] 35 (0, 0)) := by rw [hW0]; exact heap_alloc_new w _
  have hsW : W0.heap.size = w.heap.size + 1 := by rw [hW0]; simp
  have hcW : Ch w W0 p := by rw [hW0]; exact Ch.of (bel_new (Below.refl _ _) _)
  rw [← hW0] at hA
  obtain ⟨⟨c0, c1, c2, c3⟩, f0, f1, f2, f3⟩ := cells4_of hA.hh
  have hkl := pk_in' rfl hrn
  have hx1 : XI (W0.setCell ⟨p, 2, none⟩ (.int .i64 ((k : Int) + 1))) p s L (k + 1) d v := by
    have h9 := hA.at (k' := k + 1) (by omega)
    rwa [show ((k + 1 : Nat) : Int) = (k : Int) + 1 by omega] at h9
  obtain ⟨W1, hW1⟩ : ∃ W1, W1 = W0.setCell ⟨p, 2, none⟩ (.int .i64 ((k : Int) + 1)) := ⟨_, rfl⟩
  rw [← hW1] at hx1
  have hc1 : Ch W0 W1 p := by rw [hW1]; exact Ch.set _ _ _ _
  have hs1 : W1.heap.size = w.heap.size + 1 := by rw [hW1, ← hsW]; simp [World.setCell]
  have HX := Lib.hid h
  have HA := Lib.hid (And.intro hA (And.intro hr0 hcW))
  have H1 := Lib.hid (And.intro hx1 hc1)
  have HW0 := Lib.hid hW0
  have HW1 := Lib.hid hW1
  have hk0 : (0 : Int) ≤ (k : Int) := by omega
  have hsm := h.small
  have t40 : (pk L k == 40) = false := by simpa using n40
  have t91 : (pk L k == 91) = false := by simpa using n91
  have t92 : (pk L k == 92) = false := by simpa using n92
  have t46 : (pk L k == 46) = false := by simpa using n46
  clear h hA hW0 hW1 hr0 hcW hx1 hc1 hrn n40 n91 n92 n46
  go_enter Tryz.func201, Tryz.ntmps201
  go_wp2_with (with_reducible rw [← HW0.out])
  refine (paPlace_any p k k d s L _ _ HA.out.1).mono ?_
  rintro x w1 ⟨rfl, hw⟩
  have hw := hw.symm
  subst hw
  go_wp2_with fail
  refine (runeAt_any p k k d s L _ _ HA.out.1).mono ?_
  rintro x w1 ⟨rfl, hw⟩
  have hw := hw.symm
  subst hw
  go_wp2_with fail
  rw [← HW1.out]
  have hbel := bel_new (Below.refl W1.heap.size W1) (.cells #[.int .i32 (pk L k), .int .i32 (pk L k)] 86)
  rw [← hs1]
  refine (paset_any (some ⟨W1.heap.size, 0, none⟩) 1 1 _).mono ?_
  rintro x w2 ⟨rfl, hb2⟩
  have hch : Ch W1 w2 p := (Ch.of hbel).trans (Ch.of hb2)
  have hx2 := (H1.out.1.moved hbel).moved hb2
  have hq2 : w2.heap[W1.heap.size]? = some (.cells #[.int .i32 (pk L k), .int .i32 (pk L k)] 86 (0, 0)) := by
    rw [hb2.block _ (by simp)]; exact heap_alloc_new W1 _
  have hkp : KP (fun j => W1.heap.size ≤ j) w2 (fun w3 => ReIs w3 (.mk 2 [(pk L k, pk L k)] []) (.slice (some ⟨W1.heap.size, 0, none⟩) 1 1) (.slice none 0 0)) := by
    refine (KP.block hq2 (Nat.le_refl _)).mono (fun w3 h3 => pre_set ⟨_, 1, rfl, Nat.le_refl _, by show (1 : Nat) ≤ maxLen; decide, .inr ⟨W1.heap.size, 0, rfl, lt_of_some h3, fun j u hu => ?_⟩⟩)
    unfold World.cell?
    rw [show (⟨W1.heap.size, 0 + j, none⟩ : Addr).block = W1.heap.size from rfl, h3]
    match j, hu with
    | 0, h => simpa [flatK] using h
    | 1, h => simpa [flatK] using h
    | j + 2, h => simp [flatK] at h
  have hr2 := (H1.out.2.trans hch).block _ (show w.heap.size < W0.heap.size by omega) (by omega) |>.trans HA.out.2.1
  obtain ⟨⟨d0, d1, d2⟩, g0, g1, g2⟩ := cells3_of' hr2
  have HF := Lib.hid (fin3 HX.out hr2 rfl ((HA.out.2.2.trans H1.out.2).trans hch) hx2 hkp (fun j hj => by omega))
  clear hkp hch hx2 hr2 hq2 c0 c1 c2 c3 f0 f1 f2 f3 hbel hb2 hs1 hsW
  go_wp2_with fail
  obtain ⟨W9, hW, ⟨⟨e0, e1, e2⟩, m0, m1, m2⟩, hre, hc9, hx9⟩ := HF.out
  have HW := Lib.hid hW
  clear hW HF
  rw [show (.int .i64 2 : Value) = .int .i64 (RE.mk 2 [(pk L k, pk L k)] []).kind from rfl, ← HW.out]
  refine bodyPost_ret (v := .agg #[.int .i64 2, .slice (some ⟨W1.heap.size, 0, none⟩) 1 1, .slice none 0 0]) (by simp [results, Tryz.results201, go_sem, e0, e1, e2, m0, m1, m2, RE.kind]) rfl ⟨hre, hc9, hx9⟩

end Go.Proofs.YtahckikemljlnaaGreatDoor

namespace Go.Proofs.YtahckikemljlnaaGreatDoor
open Go.RowKit De Wd

set_option maxHeartbeats 1000000 in
set_option maxRecDepth 100000 in
theorem paAlt_none (p k d : Nat) (s : ByteArray) (L : Its) (v : Value) (w : World) (h : XI w p s L k d v) (h1 : pk L k < 128) (hatm : Pm.atm (pk L k) = false) :
    Calls Tryz.prog 102 #[.pointer (some ⟨p, 0, none⟩)] w fun x w' => ReP w w' (.mk 1 [] []) x ∧ Ch w w' p ∧ XI w' p s L k d v := by
  have hplt := h.lt
  have hA := h.moved (bel_new (Below.refl _ _) (.cells #[.int .i64 0, .slice none 0 0, .slice none 0 0] 35))
  obtain ⟨W0, hW0⟩ : ∃ W0, W0 = w.alloc (.cells #[.int .i64 0, .slice none 0 0, .slice none 0 0] 35) := ⟨_, rfl⟩
  have hr0 : W0.heap[w.heap.size]? = some (.cells #[.int .i64 0, .slice none 0 0, .slice none 0 0] 35 (0, 0)) := by rw [hW0]; exact heap_alloc_new w _
  have hcW : Ch w W0 p := by rw [hW0]; exact Ch.of (bel_new (Below.refl _ _) _)
  rw [← hW0] at hA
  obtain ⟨⟨d0, d1, d2⟩, g0, g1, g2⟩ := cells3_of' hr0
  have HF := Lib.hid (fin3 (S := fun j => w.heap.size < j) (e := .mk 1 [] []) (sv := .slice none 0 0) (lv := .slice none 0 0) h hr0 rfl hcW hA (fun w2 _ => pre_leaf) (fun j hj => hj))
  have HA := Lib.hid hA
  have HW0 := Lib.hid hW0
  clear h hA hr0 hcW hW0
  go_enter Tryz.func102, Tryz.ntmps102
  go_wp2_with (with_reducible rw [← HW0.out])
  refine (atomNext_any p k d s L v _ HA.out h1).mono ?_
  rintro x wz ⟨rfl, hwz⟩
  have hwz := hwz.symm
  subst hwz
  rw [hatm]
  go_wp2_with fail
  obtain ⟨W9, hW, ⟨⟨e0, e1, e2⟩, m0, m1, m2⟩, hre, hc9, hx9⟩ := HF.out
  have HW := Lib.hid hW
  clear hW HF
  rw [show (.int .i64 1 : Value) = .int .i64 (RE.mk 1 [] []).kind from rfl, ← HW.out]
  refine bodyPost_ret (v := .agg #[.int .i64 1, .slice none 0 0, .slice none 0 0]) (by simp [results, Tryz.results102, go_sem, e0, e1, e2, m0, m1, m2, RE.kind]) rfl ⟨hre, hc9, hx9⟩
structure SrcOk (s : ByteArray) (L : Its) : Prop where
  small : s.size ≤ 100000
  lim : ∀ k, plc L s.size k ≤ s.size
  mono : ∀ i j, i ≤ j → plc L s.size i ≤ plc L s.size j
  next : ∀ i, i < L.length → plc L s.size i + 1 ≤ plc L s.size (i + 1)
  low : ∀ i, pk L i < 128
def CT (p : Nat) (s : ByteArray) (L : Its) (f : FuncId) (d k : Nat) (e : RE) (k' : Nat) : Prop :=
  ∀ v w, XI w p s L k d v → Calls Tryz.prog f #[.pointer (some ⟨p, 0, none⟩)] w fun x w' => ReP w w' e x ∧ Ch w w' p ∧ XI w' p s L k' d v
theorem scanC_le' {L : Its} {k j : Nat} (h : Pm.ScanC L k j) : k ≤ j := by
  induction h with
  | stop _ => omega
  | esc _ _ _ ih => omega
  | go _ _ _ _ ih => omega
theorem scanB_le' {L : Its} {k j : Nat} (h : Pm.ScanB L k j) : k ≤ j := by
  induction h with
  | stop _ => omega
  | go _ _ _ ih => omega
open Pm in
theorem reads_all (p : Nat) (s : ByteArray) (L : Its) (hS : SrcOk s L) : ∀ {d k : Nat} {e : RE} {k' : Nat}, Alts L s.size (clS s) d k e k' → CT p s L 44 d k e k' := by
  intro d k e k' h
  suffices k ≤ k' ∧ CT p s L 44 d k e k' from this.2
  refine Alts.rec
    (motive_1 := fun d k e k' _ => k ≤ k' ∧ CT p s L 44 d k e k')
    (motive_2 := fun d a k e k' _ => k ≤ k' ∧ AlL L (fun k b k' => k ≤ k' ∧ CT p s L 102 d k b k') a k e k')
    (motive_3 := fun d k e k' _ => k ≤ k' ∧ CT p s L 102 d k e k')
    (motive_4 := fun d a k e k' _ => k ≤ k' ∧ SqL L (fun k b k' => k < k' ∧ CT p s L 164 d k b k') a k e k')
    (motive_5 := fun d k e k' _ => k < k' ∧ CT p s L 164 d k e k')
    (motive_6 := fun a k e k' _ => k ≤ k' ∧ PoL L a k e k')
    (motive_7 := fun d k e k' _ => k < k' ∧ CT p s L 201 d k e k') ?_ ?_ ?_ ?_ ?_ ?_ ?_ ?_ ?_ ?_ ?_ ?_ ?_ ?_ h
  · intro d k k1 k2 a e _ _ ih1 ih2
    exact ⟨by omega, fun v w hx => alts_any p k d k1 k2 s L v a e w hx hS.low _ (fun k b k' h => h.1) ih1 ih2.2 (fun w k a k1 hp hx => hp.2 v w hx)⟩
  · intro d k a h
    exact ⟨Nat.le_refl _, .stop h⟩
  · intro d k k1 k2 a b e h _ _ ih1 ih2
    exact ⟨by omega, .go h ih1 ih2.2⟩
  · intro d k h
    exact ⟨Nat.le_refl _, fun v w hx => paAlt_none p k d s L v w hx (hS.low k) h⟩
  · intro d k k1 k2 a e h _ _ ih1 ih2
    exact ⟨by omega, fun v w hx => alt_any p k d k1 k2 s L v a e w hx hS.low _ (fun k b k' h => h.1) ih1 ih2.2 h (fun w k a k1 hp hx => hp.2 v w hx)⟩
  · intro d k a h
    exact ⟨Nat.le_refl _, .stop h⟩
  · intro d k k1 k2 a b e h _ _ ih1 ih2
    exact ⟨by omega, .go h ih1 ih2.2⟩
  · intro d k k1 k2 a e _ _ ih1 ih2
    exact ⟨by omega, fun v w hx => post_any p k d k1 k2 s L v a e w hx ih2.2 (fun w hx => ih1.2 v w hx)⟩
  · intro k a h
    exact ⟨Nat.le_refl _, .stop h⟩
  · intro k k2 a e h _ ih
    exact ⟨by omega, .go h ih.2⟩
  · intro d k k1 e h hd _ h2 ih
    exact ⟨by omega, fun v w hx => paAtom_par p k d (k1 + 1) s L v e w hx h (fun w hx => paParens_ok p (k + 1) d _ k1 s L v e w hx hd h2 (fun w hx => ih.2 v w hx))⟩
  · intro d k j S h hsc h2 c
    have hkj := scanC_le' hsc
    have hkl := pk_in' h (by decide)
    exact ⟨by omega, fun v w hx => paAtom_cls p k d (j + 1) s L v _ w hx h (fun w hx => by
      have h3 := hS.next k hkl
      have h4 := hS.mono (k + 1) j hkj
      have h5 := hS.lim j
      have h6 := hS.small
      exact paClass_ok p (k + 1) d (plc L s.size k + 1) j s L v S w hx hsc h2 (by omega) (by omega) (by omega) c) (by have := hS.lim k; have := hS.small; omega)⟩
  · intro d k j S h h1 hsc hj c
    have hkj := scanB_le' hsc
    exact ⟨by omega, fun v w hx => paAtom_esc p k d (j + 1) s L v _ w hx h (fun w hx => by
      have h4 := hS.mono k (j + 1) (by omega)
      have h5 := hS.lim (j + 1)
      have h6 := hS.small
      exact paEscape_ok p (k + 1) d (plc L s.size k) j s L v S w hx h1 hsc hj (by omega) (by omega) (by omega) c)⟩
  · intro d k r h ha
    subst h
    have h9 : alnum (pk L k) = true := ha
    unfold alnum at h9
    simp at h9
    exact ⟨by omega, fun v w hx => paAtom_one p k d s L v w hx (by omega) (by omega) (by omega) (by omega) (by omega)⟩
end Go.Proofs.YtahckikemljlnaaGreatDoor

namespace Go.Proofs.YtahckikemljlnaaGreatDoor
open Go.RowKit De Wd

set_option maxHeartbeats 1000000 in
set_option maxRecDepth 1000000 in
theorem pcatch_idle (p q r : Nat) (w : World) :
    CallsD Tryz.prog 42 #[.pointer (some ⟨p, 0, none⟩), .pointer (some ⟨q, 0, none⟩), .pointer (some ⟨r, 0, none⟩)] .returning w fun e u' w' =>
      e = .returned (.tuple #[]) ∧ u' = .returning ∧ w' = w.alloc (.cells #[.int .i64 0, .int .i64 0] 72) := by
  have ta : ∀ w, (Instr.typeAssert .nilIface 20 72 true).run Tryz.prog w = .ok (.tuple #[.agg #[.int .i64 0, .int .i64 0], .bool false]) w := fun w => by kernel_rfl
  refine callsD_of_wpS Tryz.func42 rfl fun c₀ cs hu => ?_
  simp only [Tryz.ntmps42, List.size_toArray, List.length_cons, List.length_nil, Nat.reduceAdd, Nat.reduceSub, Array.replicate_succ, Array.replicate_zero, List.push_toArray, List.append_toArray, List.nil_append, List.cons_append]
  have hrec : recov (c₀ :: cs) = (.nilIface, c₀ :: cs) := by
    simp [recov, recoverD, hu]
  apply wpS_seq
  refine wpS_region_recover rfl rfl ?_
  rw [hrec]
  have HU := Lib.hid hu
  clear hrec hu
  go_wp2
  simp only [Exit.thenS]
  refine wpS_of_wp (wp_mono (Q := fun x a w' => x = .normal ∧ a.defers = [] ∧ w' = w.alloc (.cells #[.int .i64 0, .int .i64 0] 72)) ?_ ?_)
  · go_wp2
  · rintro e a w' ⟨rfl, hdf, rfl⟩
    exact ⟨hdf, .returning, by have := HU.out; cases c₀; simp_all, .tuple #[], results_none rfl _ _ _, rfl, rfl, rfl⟩
end Go.Proofs.YtahckikemljlnaaGreatDoor

namespace Go.Proofs.YtahckikemljlnaaGreatDoor
open Go.RowKit De Wd

theorem XI.setOther {w : World} {p E i k d : Nat} {s : ByteArray} {L : Its} {v x : Value} (h : XI w p s L k d v) (hE : p ≠ E) (hb : ∀ b off cap, v = .slice (some ⟨b, off, none⟩) L.length cap → b ≠ E) : XI (w.setCell ⟨E, i, none⟩ x) p s L k d v := by
  refine ⟨?_, ?_, h.far, h.le, h.small⟩
  · rw [Below.heap_setCell _ _ _ _ (by simpa using hE)]; exact h.hh
  · obtain ⟨o, cap, rfl, h1, h2, h3⟩ := h.row
    refine ⟨o, cap, rfl, h1, h2, ?_⟩
    rcases h3 with h3 | ⟨b, off, rfl, hb2, hc⟩
    · exact .inl h3
    · refine .inr ⟨b, off, rfl, by simpa [World.setCell] using hb2, fun j u hu => ?_⟩
      rw [← hc j u hu]
      unfold World.cell?
      rw [Below.heap_setCell _ _ _ _ (by simpa using hb b off cap rfl)]
structure HoldR (w w' : World) (a b c : Value) : Prop where
  h0 : w'.heap[w.heap.size]? = some (.cells #[a, b, c] 35 (0, 0))
  h1 : w'.heap[w.heap.size + 1]? = some (.cells #[.int .i64 0] 3 (0, 0))
  h2 : w'.heap[w.heap.size + 1 + 1]? = some (.cells #[.int .i64 0] 3 (0, 0))
  bel : Below w.heap.size w w'
theorem HoldR.below {w a b : World} {x y z : Value} (h : HoldR w a x y z) (hs : w.heap.size + 1 + 1 < a.heap.size) (hb : Below a.heap.size a b) : HoldR w b x y z :=
  ⟨by rw [hb.block _ (by omega)]; exact h.h0, by rw [hb.block _ (by omega)]; exact h.h1, by rw [hb.block _ (by omega)]; exact h.h2, h.bel.trans (hb.mono h.bel.size)⟩
theorem HoldR.ch {w a b : World} {x y z : Value} {p : Nat} (h : HoldR w a x y z) (hs : w.heap.size + 1 + 1 < a.heap.size) (hp : w.heap.size + 1 + 1 < p) (hb : Ch a b p) : HoldR w b x y z :=
  ⟨by rw [hb.block _ (by omega) (by omega)]; exact h.h0, by rw [hb.block _ (by omega) (by omega)]; exact h.h1, by rw [hb.block _ (by omega) (by omega)]; exact h.h2, h.bel.trans ⟨hb.os, hb.tape, hb.output, hb.size, fun k hk => hb.block k (by have := h.bel.size; omega) (by omega)⟩⟩
theorem HoldR.set {w a : World} {x y z x' y' z' : Value} (h : HoldR w a x y z) : HoldR w (((a.setCell ⟨w.heap.size, 0, none⟩ x').setCell ⟨w.heap.size, 1, none⟩ y').setCell ⟨w.heap.size, 2, none⟩ z') x' y' z' := by
  have h0 := h.h0
  refine ⟨by simp [World.setCell, Array.getElem?_modify, h0], ?_, ?_, ((h.bel.setCell (Nat.le_refl _) _).setCell (Nat.le_refl _) _).setCell (Nat.le_refl _) _⟩
  · rw [Below.heap_setCell _ _ _ _ (by simp), Below.heap_setCell _ _ _ _ (by simp), Below.heap_setCell _ _ _ _ (by simp)]; exact h.h1
  · rw [Below.heap_setCell _ _ _ _ (by simp; omega), Below.heap_setCell _ _ _ _ (by simp; omega), Below.heap_setCell _ _ _ _ (by simp; omega)]; exact h.h2
theorem HoldR.zero {w a : World} {x y z : Value} (h : HoldR w a x y z) : HoldR w ((a.setCell ⟨w.heap.size + 1, 0, none⟩ (.int .i64 0)).setCell ⟨w.heap.size + 1 + 1, 0, none⟩ (.int .i64 0)) x y z := by
  have h1 := h.h1
  have h2 := h.h2
  refine ⟨?_, ?_, ?_, (h.bel.setCell (by simp) _).setCell (by simp <;> omega) _⟩
  · rw [Below.heap_setCell _ _ _ _ (by simp; omega), Below.heap_setCell _ _ _ _ (by simp)]; exact h.h0
  · rw [Below.heap_setCell _ _ _ _ (by simp)]; exact set1 h1 _
  · refine set1 (a := .int .i64 0) ?_ _
    rw [Below.heap_setCell _ _ _ _ (by simp)]; exact h2
def ReOk (e : RE) (w : World) (x : Ending) (w' : World) : Prop :=
  ∃ sv lv, x = .returned (.tuple #[.agg #[.int .i64 e.kind, sv, lv], .int .i64 0, .int .i64 0]) ∧ KP (fun k => w.heap.size ≤ k) w' (fun w2 => ReIs w2 e sv lv) ∧ Below w.heap.size w w'
set_option maxHeartbeats 2000000 in
set_option maxRecDepth 1000000 in
theorem re_ok (s : ByteArray) (e : RE) (w : World) (hs : s.size ≤ 100000)
    (hat : ∀ p v w, XI w p s (all 0 (sb s)) 0 0 v → Calls Tryz.prog 44 #[.pointer (some ⟨p, 0, none⟩)] w fun x w' => ReP w w' e x ∧ Ch w w' p ∧ XI w' p s (all 0 (sb s)) (all 0 (sb s)).length 0 v) :
    Calls Tryz.prog 17 #[.string s] w (ReOk e w) := by
  have hmf : ∀ (fn : Fn) (first cap : Array Value) (w : World), (Instr.makeFunc fn first cap).run Tryz.prog w = .ok (.func fn first cap) w := fun _ _ _ _ => rfl
  have hconv := fun w => Lib.run_convert_string_bytes (P := Tryz.prog) w 9 90 5 s Tryz.underlying9 Tryz.underlying90 Tryz.underlying5
  obtain ⟨W3, hW3⟩ : ∃ W3, W3 = (((w.alloc (.cells #[.int .i64 0, .slice none 0 0, .slice none 0 0] 35)).alloc (.cells #[.int .i64 0] 3)).alloc (.cells #[.int .i64 0] 3)) := ⟨_, rfl⟩
  obtain ⟨g0, g1, g2, g3, g4⟩ := threeW w _ _ _ W3 hW3
  have hcr := convRow W3 s (by omega)
  rw [g3] at hcr
  have hall := all_any (sb s) (.slice (some ⟨w.heap.size + 1 + 1 + 1, 0, none⟩) s.size (grownCap W3 s.size 0 5)) (Lib.bytesWorld W3 5 s) hcr (sb_u8 s) (by rw [sb_len]; omega)
  clear hcr
  have hlen := all_len 0 (sb s)
  rw [sb_len] at hlen
  obtain ⟨L, hL⟩ : ∃ L, L = all 0 (sb s) := ⟨_, rfl⟩
  rw [← hL] at hall hlen hat
  have HA := Lib.hid hall
  have HT := Lib.hid hat
  have HG := Lib.hid (And.intro hW3 (And.intro g0 (And.intro g1 (And.intro g2 (And.intro g3 g4)))))
  clear hW3 g0 g1 g2 g3 g4 hall hL hat
  go_enter_defers Tryz.func17, Tryz.ntmps17
  go_wp2_with fail
  obtain ⟨hW3, g0, g1, g2, g3, g4⟩ := HG.out
  rw [← hW3]
  refine HA.out.mono ?_
  rintro x w4 ⟨uv, rfl, hown4, hb4⟩
  have hbW : Below W3.heap.size W3 w4 := bel_then (convW_below W3 _ s) hb4
  have hold4 : HoldR w w4 (.int .i64 0) (.slice none 0 0) (.slice none 0 0) := HoldR.below ⟨g0, g1, g2, g4⟩ (by omega) hbW
  have hz4 := hbW.size
  obtain ⟨p, hp⟩ : ∃ p, p = w4.heap.size := ⟨_, rfl⟩
  obtain ⟨ou, cu, rfl⟩ := owns_slice hown4
  have hlow : ∀ b off cap, Value.slice ou L.length cu = .slice (some ⟨b, off, none⟩) L.length cap → b < p ∧ w.heap.size + 1 + 1 < b := fun b off cap e => by
    simp only [Value.slice.injEq, true_and] at e
    obtain ⟨rfl, rfl⟩ := e
    have h1 := (hown4.lt b rfl).2
    have h2 := (hown4.lt b rfl).1
    rw [Lib.bytesWorld_size] at h2
    omega
  have hxi : XI (w4.alloc (.cells #[.string s, .slice ou L.length cu, .int .i64 ((0 : Nat) : Int), .int .i64 ((0 : Nat) : Int)] 92)) p s L 0 0 (.slice ou L.length cu) :=
    ⟨by rw [hp]; exact heap_alloc_new _ _, (Row.owned hown4).below (bel_new (Below.refl _ _) _), fun b off cap e => by have := hlow b off cap e; omega, Nat.zero_le _, by omega⟩
  have hh5 := hold4.below (by omega) (bel_new (Below.refl _ _) (.cells #[.string s, .slice ou L.length cu, .int .i64 ((0 : Nat) : Int), .int .i64 ((0 : Nat) : Int)] 92))
  obtain ⟨W5, hW5⟩ : ∃ W5, W5 = w4.alloc (.cells #[.string s, .slice ou L.length cu, .int .i64 ((0 : Nat) : Int), .int .i64 ((0 : Nat) : Int)] 92) := ⟨_, rfl⟩
  rw [← hW5] at hxi hh5
  have hpl2 : w.heap.size + 1 + 1 < p := by omega
  have hs5 : w.heap.size + 1 + 1 < W5.heap.size := by rw [hW5]; simp; omega
  have H5 := Lib.hid (And.intro hxi (And.intro hh5 (And.intro hW5 hp)))
  have HLOW := Lib.hid hlow
  clear hxi hh5 hown4 hb4 hbW hold4 g0 g1 g2 g3 g4 hW3 hconv HG hp hz4 hW5 hlow
  go_wp2_with fail
  rw [← H5.out.2.2.2]
  have hW5 := H5.out.2.2.1
  simp only [Int.natCast_zero, Int.ofNat_zero] at hW5
  rw [← hW5]
  clear hW5
  refine (HT.out p _ _ H5.out.1).mono ?_
  rintro x w6 ⟨⟨sv, lv, rfl, hkp⟩, hch, hx6⟩
  obtain ⟨⟨o1, q1, rfl⟩, ⟨o2, q2, rfl⟩⟩ := hkp.here.form
  have hh6 := H5.out.2.1.ch hs5 hpl2 hch
  have hs6 : W5.heap.size ≤ w6.heap.size := hch.size
  obtain ⟨X, hX⟩ : ∃ X, X = ((w6.setCell ⟨w.heap.size, 0, none⟩ (.int .i64 e.kind)).setCell ⟨w.heap.size, 1, none⟩ (.slice o1 e.set.length q1)).setCell ⟨w.heap.size, 2, none⟩ (.slice o2 e.parts.length q2) := ⟨_, rfl⟩
  have hpe : p ≠ w.heap.size := by omega
  have hfr : ∀ b off cap, Value.slice ou L.length cu = .slice (some ⟨b, off, none⟩) L.length cap → b ≠ w.heap.size := fun b off cap e0 => by have := HLOW.out b off cap e0; omega
  have hhX : HoldR w X (.int .i64 e.kind) (.slice o1 e.set.length q1) (.slice o2 e.parts.length q2) := by rw [hX]; exact hh6.set
  have hxX : XI X p s L L.length 0 (.slice ou L.length cu) := by rw [hX]; exact ((hx6.setOther hpe hfr).setOther hpe hfr).setOther hpe hfr
  have hkX : KP (fun k => W5.heap.size ≤ k) X (fun w2 => ReIs w2 e (.slice o1 e.set.length q1) (.slice o2 e.parts.length q2)) := by
    rw [hX]
    refine hkp.to ((((Ag.refl _ _).setCell (fun h => ?_) _).setCell (fun h => ?_) _).setCell (fun h => ?_) _)
    all_goals (have h9 : W5.heap.size ≤ w.heap.size := h; omega)
  have hsX : W5.heap.size ≤ X.heap.size := by rw [hX]; simpa [World.setCell] using hs6
  obtain ⟨⟨d0, d1, d2⟩, f0, f1, f2⟩ := cells3_of' hh6.h0
  have HX := Lib.hid (And.intro hhX (And.intro hxX (And.intro hkX hX)))
  clear hhX hxX hkX hX hh6 hx6 hkp hch hfr
  go_wp2_with fail
  rw [← HX.out.2.2.2]
  clear d0 d1 d2 f0 f1 f2
  obtain ⟨⟨c0, c1, c2, c3⟩, f0, f1, f2, f3⟩ := cells4_of HX.out.2.1.hh
  have hl0 : (0 : Int) ≤ (L.length : Int) := by omega
  have e1 : decide ((L.length : Int) < (L.length : Int)) = false := by simp
  have e2 : decide (L.length < L.length) = false := by simp
  go_quiet (fail)
  clear c0 c1 c2 c3 f0 f1 f2 f3
  have hh7 := HX.out.1.ch (p := p) (by omega) hpl2 (Ch.drewN p nq)
  have hk7 : KP (fun k => W5.heap.size ≤ k) (X.drewN nq) (fun w2 => ReIs w2 e (.slice o1 e.set.length q1) (.slice o2 e.parts.length q2)) := HX.out.2.2.1.to ⟨rfl, rfl, rfl, Nat.le_refl _, fun _ _ _ => rfl⟩
  have hs7 : W5.heap.size ≤ (X.drewN nq).heap.size := hsX
  generalize X.drewN nq = Y at hh7 hk7 hs7 ⊢
  obtain ⟨⟨d0, d1, d2⟩, f0, f1, f2⟩ := cells3_of' hh7.h0
  obtain ⟨d3, f3⟩ := cell1_of hh7.h1
  obtain ⟨d4, f4⟩ := cell1_of hh7.h2
  have HY := Lib.hid (And.intro hh7 hk7)
  clear hh7 hk7
  go_wp2_with fail
  obtain ⟨W8, hW8⟩ : ∃ W8, W8 = ((((Y.setCell ⟨w.heap.size, 0, none⟩ (.int .i64 e.kind)).setCell ⟨w.heap.size, 1, none⟩ (.slice o1 e.set.length q1)).setCell ⟨w.heap.size, 2, none⟩ (.slice o2 e.parts.length q2)).setCell ⟨w.heap.size + 1, 0, none⟩ (.int .i64 0)).setCell ⟨w.heap.size + 1 + 1, 0, none⟩ (.int .i64 0) := ⟨_, rfl⟩
  rw [← hW8]
  have hh8 : HoldR w W8 (.int .i64 e.kind) (.slice o1 e.set.length q1) (.slice o2 e.parts.length q2) := by rw [hW8]; exact (HY.out.1.set).zero
  have hk8 : KP (fun k => W5.heap.size ≤ k) W8 (fun w2 => ReIs w2 e (.slice o1 e.set.length q1) (.slice o2 e.parts.length q2)) := by
    rw [hW8]
    refine HY.out.2.to ((((((Ag.refl _ _).setCell (fun h => ?_) _).setCell (fun h => ?_) _).setCell (fun h => ?_) _).setCell (fun h => ?_) _).setCell (fun h => ?_) _)
    · have h9 : W5.heap.size ≤ w.heap.size := h; omega
    · have h9 : W5.heap.size ≤ w.heap.size := h; omega
    · have h9 : W5.heap.size ≤ w.heap.size := h; omega
    · have h9 : W5.heap.size ≤ w.heap.size + 1 := h; omega
    · have h9 : W5.heap.size ≤ w.heap.size + 1 + 1 := h; omega
  have hz8 : w.heap.size + 1 + 1 < W8.heap.size := by rw [hW8]; simp [World.setCell]; omega
  clear hW8 d0 d1 d2 f0 f1 f2 d3 f3 d4 f4
  refine leaves_cons (f := 42) (args := #[.pointer (some ⟨w.heap.size, 0, none⟩), .pointer (some ⟨w.heap.size + 1, 0, none⟩), .pointer (some ⟨w.heap.size + 1 + 1, 0, none⟩)]) (by simp) (by simp [go_sem]) ?_
  refine (pcatch_idle _ _ _ _).mono ?_
  rintro x u' w'' ⟨rfl, rfl, rfl⟩
  have hh9 := hh8.below hz8 (bel_new (Below.refl _ _) (.cells #[.int .i64 0, .int .i64 0] 72))
  have hk9 := hk8.to (.of (bel_new (Below.refl _ _) (.cells #[.int .i64 0, .int .i64 0] 72)))
  obtain ⟨W9, hW9⟩ : ∃ W9, W9 = W8.alloc (.cells #[.int .i64 0, .int .i64 0] 72) := ⟨_, rfl⟩
  rw [← hW9] at hh9 hk9 ⊢
  clear hW9
  obtain ⟨⟨c0, c1, c2⟩, z0, z1, z2⟩ := cells3_of' hh9.h0
  obtain ⟨c3, z3⟩ := cell1_of hh9.h1
  obtain ⟨c4, z4⟩ := cell1_of hh9.h2
  have HP : ReOk e w (.returned (.tuple #[.agg #[.int .i64 e.kind, .slice o1 e.set.length q1, .slice o2 e.parts.length q2], .int .i64 0, .int .i64 0])) W9 :=
    ⟨_, _, rfl, hk9.sub (fun k _ hk => by have h9 : W5.heap.size ≤ k := hk; omega), hh9.bel⟩
  simp [Leaves, settle, results, Tryz.results17, go_sem, c0, c1, c2, c3, c4]
  exact HP
end Go.Proofs.YtahckikemljlnaaGreatDoor

namespace Go.Proofs.YtahckikemljlnaaGreatDoor
open Go.RowKit De Wd Ru

namespace Pm
structure Lw (n : Nat) (t : List Int) : Prop where
  lo : ∀ c ∈ t, c < 128
  len : t.length ≤ n
theorem Lw.app {n m : Nat} {a b : List Int} (h : Lw n a) (k : Lw m b) : Lw (n + m) (a ++ b) :=
  ⟨fun c hc => by rcases List.mem_append.1 hc with h1 | h1; exact h.lo c h1; exact k.lo c h1, by rw [List.length_append]; have := h.len; have := k.len; omega⟩
theorem Lw.one {c : Int} (h : c < 128) : Lw 1 [c] := ⟨fun x hx => by simp at hx; subst hx; exact h, by simp⟩
theorem Lw.le {n m : Nat} {a : List Int} (h : Lw n a) (k : n ≤ m) : Lw m a := ⟨h.lo, Nat.le_trans h.len k⟩
theorem hexI_len : ∀ (k m : Nat), m < 16 ^ (k + 1) → (hexI m).length ≤ k + 1 := by
  intro k
  induction k with
  | zero => intro m hm; rw [hexI_small (by simpa using hm)]; simp
  | succ k ih =>
    intro m hm
    by_cases h : m < 16
    · rw [hexI_small h]; simp
    · rw [hexI_big h, List.length_append]
      have := ih (m / 16) (by rw [Nat.div_lt_iff_lt_mul (by decide)]; rw [Nat.pow_succ] at hm; exact hm)
      simp; omega
theorem lw_lb {r : Int} (h0 : 0 ≤ r) (h1 : r ≤ 1114111) : Lw 10 (lb r) := by
  unfold lb
  split
  · rename_i h
    unfold alnum at h
    simp at h
    exact (Lw.one (by omega)).le (by decide)
  · have h2 : Lw 6 (hexI r.toNat) := ⟨fun c hc => by have := hexI_mem _ _ (Nat.le_refl _) c hc; omega, hexI_len 5 _ (by have : (16 : Nat) ^ (5 + 1) = 16777216 := by decide
                                                                                                                        omega)⟩
    exact (show Lw 3 [92, 117, 123] from ⟨by decide, by decide⟩).app (h2.app (Lw.one (by decide)))
theorem lw_rI {x : Int × Int} (h : Sk x) : Lw 21 (rI x) := by
  unfold rI
  split
  · exact (lw_lb h.1.1.1 h.1.1.2).le (by decide)
  · exact (lw_lb h.1.1.1 h.1.1.2).app ((Lw.one (c := 45) (by decide)).app (lw_lb h.2.1.1.1 h.2.1.1.2))
theorem lw_rsI : ∀ l : List (Int × Int), (∀ x ∈ l, Sk x) → Lw (21 * l.length) (rsI l)
  | [], _ => ⟨fun c hc => by simp [rsI] at hc, by simp [rsI]⟩
  | x :: l, h => by rw [rsI_cons]; exact ((lw_rI (h x (by simp))).app (lw_rsI l (fun y hy => h y (by simp [hy])))).le (by simp; omega)
theorem lw_set {l : List (Int × Int)} (hl : SetOk l) : Lw (21 * l.length + 12) (sb (setB l)) := by
  by_cases h1 : l.length = 1 ∧ (l.getD 0 (0, 0)).1 = (l.getD 0 (0, 0)).2
  · have hs : setB l = letB (l.getD 0 (0, 0)).1 := if_pos h1
    obtain ⟨x, rfl⟩ := List.length_eq_one_iff.1 h1.1
    have hx := hl.sk x (by simp)
    rw [hs, show (([x] : List (Int × Int)).getD 0 (0, 0)) = x from rfl, sb_let hx.1.1.1]
    exact (lw_lb hx.1.1.1 hx.1.1.2).le (by omega)
  · have hs : setB l = (⟨#[91]⟩ ++ catB (l.map rngB)) ++ ⟨#[93]⟩ := if_neg h1
    have e : sb (setB l) = [91] ++ (rsI l ++ [93]) := by rw [hs, sb_app, sb_app, sb_cat l hl.sk, List.append_assoc]; rfl
    rw [e]
    exact ((Lw.one (by decide)).app ((lw_rsI l hl.sk).app (Lw.one (by decide)))).le (by omega)
theorem lw_hold {n : Nat} {t : ByteArray} (h : Lw n (sb t)) (m : Bool) : Lw (n + 2) (sb (hold t m)) := by
  rw [sb_hold]
  split
  · exact ((Lw.one (c := 40) (by decide)).app (h.app (Lw.one (c := 41) (by decide)))).le (by omega)
  · exact h.le (by omega)
theorem lw_all : ∀ (N : Nat) (e : RE), e.size ≤ N → e.prt = true → e.nn = false → Lw (450 * e.size) (sb e.text) := by
  intro N
  induction N with
  | zero => intro e h; have := e.size_pos; omega
  | succ N ih =>
    intro e hs hp hn
    have hsh := RE.prt_shp hp
    have part : ∀ p ∈ e.parts, Lw (450 * p.size) (sb p.text) := by
      intro p hm
      obtain ⟨i, hi, rfl⟩ := List.getElem_of_mem hm
      have hg : e.parts[i]? = some e.parts[i] := by simp [hi]
      exact ih _ (by have := RE.size_part hg; omega) (RE.prt_part hp hg) (nn_part hn hm)
    have hsp := e.size_pos
    rcases RE.shp_cases hsh with h0 | h1 | h2 | h3 | h4 | h5
    · rw [RE.nn_eq, h0] at hn; simp at hn
    · have ht : sb e.text = [40] ++ [41] := by rw [RE.text_eq, h1]; rfl
      rw [ht]; exact ((Lw.one (by decide)).app (Lw.one (by decide))).le (by omega)
    · obtain ⟨e2, hne, hm⟩ := full2 hsh h2.1
      have ht : e.text = setB e.set := by rw [RE.text_eq, h2.1]; rfl
      rw [ht]; exact (lw_set (setOk_of hm hne)).le (by have := h2.2.1; omega)
    · have e3 := full0 hsh (by omega)
      obtain ⟨p, q, hl⟩ := len2 h3.2
      rw [h3.1, hl] at e3
      have h9 := ((lw_hold (part p (by rw [hl]; simp)) ([4].contains p.kind)).app (lw_hold (part q (by rw [hl]; simp)) ([3, 4].contains q.kind)))
      rw [e3, text3]
      exact h9.le (by rw [RE.size_mk, RE.sizes_cons, RE.sizes_cons, RE.sizes_nil]; omega)
    · have e4 := full0 hsh (by omega)
      obtain ⟨p, q, hl⟩ := len2 h4.2
      rw [h4.1, hl] at e4
      have h9 := (part p (by rw [hl]; simp)).app ((Lw.one (c := 124) (by decide)).app (lw_hold (part q (by rw [hl]; simp)) ([4].contains q.kind)))
      rw [e4, text4]
      exact h9.le (by rw [RE.size_mk, RE.sizes_cons, RE.sizes_cons, RE.sizes_nil]; omega)
    · have e5 := full0 hsh (by omega)
      obtain ⟨p, hl⟩ := List.length_eq_one_iff.1 h5.2
      rw [h5.1, hl] at e5
      have h9 := (lw_hold (part p (by rw [hl]; simp)) ([3, 4].contains p.kind)).app (Lw.one (c := 42) (by decide))
      rw [e5, text5]
      exact h9.le (by rw [RE.size_mk, RE.sizes_cons, RE.sizes_nil]; omega)
end Pm
end Go.Proofs.YtahckikemljlnaaGreatDoor

namespace Go.Proofs.YtahckikemljlnaaGreatDoor
open Go.RowKit De Wd Ru Pm

theorem sb_extract' (s : ByteArray) (a b : Nat) : sb (s.extract a b) = ((sb s).drop a).take (b - a) := by
  have h : (s.extract a b).data.toList = (s.data.toList.drop a).take (b - a) := by
    rw [ByteArray.data_extract, Array.toList_extract]
  unfold sb
  rw [h, List.map_take, List.map_drop]
theorem text_plain (s : ByteArray) (hl : ∀ c ∈ sb s, c < 128) : Plain (all 0 (sb s)) s.size (clS s) := by
  rw [all_asc _ _ hl]
  refine ⟨?_, ?_⟩
  · intro k hk
    unfold Wd.plc
    rw [asc_get]
    rw [asc_len] at hk
    by_cases c : k < (sb s).length
    · rw [List.getElem?_eq_getElem c]; simp
    · rw [List.getElem?_eq_none (by omega)]; have := sb_len s; simp; omega
  · intro k t hA hk
    rw [asc_len] at hk
    have ht : ((sb s).drop k).take (k + t.length - k) = t := by
      apply List.ext_getElem?
      intro i
      rw [show k + t.length - k = t.length by omega]
      by_cases hi : i < t.length
      · have := hA i hi
        rw [pk_asc] at this
        rw [List.getElem?_take_of_lt hi, List.getElem?_drop]
        rw [List.getElem?_eq_getElem (show k + i < (sb s).length by omega)] at this ⊢
        rw [List.getElem?_eq_getElem hi]
        simp [List.getD, hi] at this
        rw [this]
      · rw [List.getElem?_eq_none (show t.length ≤ i by omega), List.getElem?_eq_none (by simp; omega)]
    unfold clS
    rw [sb_extract', ht]
    have hz : (s.extract k (k + t.length)).size = t.length := by
      rw [ByteArray.size_extract]
      have := sb_len s
      omega
    rw [hz]
theorem text_src (s : ByteArray) (hl : ∀ c ∈ sb s, c < 128) (hs : s.size ≤ 100000) : SrcOk s (all 0 (sb s)) := by
  have hp := (text_plain s hl).plc
  have hlen : (all 0 (sb s)).length = s.size := by rw [all_asc _ _ hl, asc_len, sb_len]
  have hout : ∀ k, ¬ k < (all 0 (sb s)).length → plc (all 0 (sb s)) s.size k = s.size := fun k hk => by unfold Wd.plc; rw [List.getElem?_eq_none (by omega)]
  refine ⟨hs, fun k => ?_, fun i j hij => ?_, fun i hi => ?_, fun i => ?_⟩
  · by_cases h : k ≤ (all 0 (sb s)).length
    · rw [hp k h]; omega
    · rw [hout k (by omega)]; exact Nat.le_refl _
  · by_cases h : j ≤ (all 0 (sb s)).length
    · rw [hp i (by omega), hp j h]; exact hij
    · rw [hout j (by omega)]
      by_cases h2 : i ≤ (all 0 (sb s)).length
      · rw [hp i h2]; omega
      · rw [hout i (by omega)]; exact Nat.le_refl _
  · rw [hp i (by omega), hp (i + 1) (by omega)]; exact Nat.le_refl _
  · rw [all_asc _ _ hl, pk_asc]
    cases hq : (sb s)[i]? with
    | none => decide
    | some c => exact hl c (List.mem_of_getElem? hq)
theorem re_text (e : RE) (w : World) (h1 : e.prt = true) (h2 : e.nn = false) (h3 : e.dep ≤ 20) (h4 : e.size ≤ 200) :
    Calls Tryz.prog 17 #[.string e.text] w (ReOk e w) := by
  have hw := lw_all e.size e (Nat.le_refl _) h1 h2
  have hs : e.text.size ≤ 100000 := by have := hw.len; rw [sb_len] at this; omega
  have hS := text_src e.text hw.lo hs
  have hr := reads (text_plain e.text hw.lo) h1 h2 h3 (by rw [all_asc _ _ hw.lo]; exact At.whole _ 0) (by rw [all_asc _ _ hw.lo]; exact asc_len _ 0)
  exact re_ok e.text e w hs (fun p v w' hx => reads_all p e.text _ hS hr v w' hx)
end Go.Proofs.YtahckikemljlnaaGreatDoor
