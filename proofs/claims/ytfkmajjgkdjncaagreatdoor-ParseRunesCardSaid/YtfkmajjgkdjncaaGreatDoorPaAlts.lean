import Derived.Test.YtfkmajjgkdjncaaGreatDoorPaTwo
import Derived.Deep.LoopGhost
import Derived.Deep.RegionLaw
set_option linter.unusedVariables false
set_option linter.unusedSimpArgs false
set_option maxHeartbeats 4000000
set_option maxRecDepth 100000
namespace Go.Proofs.YtfkmajjgkdjncaaGreatDoor
open Go.RowKit De Wd
theorem alts_any (p k d k1 k2 : Nat) (s : ByteArray) (L : Its) (v : Value) (a e : RE) (w : World) (h : XI w p s L k d v) (P : Nat → RE → Nat → Prop) (hmono : ∀ k b k', P k b k' → k ≤ k') (h1 : P k a k1) (hl : AlL L P a k1 e k2)
 (hat : ∀ w k a k1, P k a k1 → XI w p s L k d v → Calls Tryz.prog 69 #[.pointer (some ⟨p, 0, none⟩)] w fun x w' => ReP w w' a x ∧ Ch w w' p ∧ XI w' p s L k1 d v) :
 Calls Tryz.prog 30 #[.pointer (some ⟨p, 0, none⟩)] w fun x w' => ReP w w' e x ∧ Ch w w' p ∧ XI w' p s L k2 d v := by
 have hlt := h.lt
 have hA := h.moved (bel_new (Below.refl _ _) (.cells #[.int .i64 0, .slice none 0 0, .slice none 0 0] 35))
 have HX := Lib.hid h
 have HA := Lib.hid hA
 have HT := Lib.hid hat
 have HL := Lib.hid hl
 have HH1 := Lib.hid h1
 clear h hA hat hl h1
 go_enter Tryz.func30, Tryz.ntmps30
 go_wp2_with fail
 refine (HT.out _ _ _ _ HH1.out HA.out).mono ?_
 rintro x w1 ⟨⟨sv, lv, rfl, hkp⟩, hch, hxi⟩
 obtain ⟨⟨o1, q1, rfl⟩, ⟨o2, q2, rfl⟩⟩ := hkp.here.form
 have hs1 : w.heap.size < w1.heap.size := by have := hch.size; simp at this; omega
 have hr1 : w1.heap[w.heap.size]? = some (.cells #[.int .i64 0, .slice none 0 0, .slice none 0 0] 35 (0, 0)) := by rw [hch.block _ (by simp) (by omega)]; exact heap_alloc_new w _
 have hpb : p ≠ w1.heap.size := by omega
 have hxi2 := hxi.moved (bel_new (Below.refl _ _) (.cells #[.int .i64 a.kind, .slice o1 a.set.length q1, .slice o2 a.parts.length q2] 35))
 have hpi : PoI w (w1.alloc (.cells #[.int .i64 a.kind, .slice o1 a.set.length q1, .slice o2 a.parts.length q2] 35)) p w1.heap.size w.heap.size s L d k1 v a (.slice o1 a.set.length q1) (.slice o2 a.parts.length q2) := by
  refine ⟨hxi2, ?_, heap_alloc_new w1 _, ⟨.int .i64 0, .slice none 0 0, .slice none 0 0, ?_⟩, ?_⟩
  · exact ((Ch.of (bel_new (Below.refl _ _) _)).trans hch).trans (Ch.of (bel_new (Below.refl _ _) _))
  · rw [(bel_new (Below.refl w1.heap.size w1) _).block _ hs1]; exact hr1
  · intro w' hag
    refine hkp w' ⟨hag.os, hag.tape, hag.output, by have := hag.size; simp at this; omega, fun j hj hS => ?_⟩
    have hS' : w.heap.size + 1 ≤ j := by simpa using hS
    rw [hag.block j (by simp; omega) ⟨by omega, by omega⟩]
    exact (bel_new (Below.refl w1.heap.size w1) _).block j hj
 have HPI := Lib.hid hpi
 have hle := hxi.le
 clear hpi hxi2 hxi hch hkp hr1
 go_wp2_with fail
 go_loopg [] (L.length - k1) (fun g wx => ∃ (a' : RE) (ki : Nat) (o3 o4 : Option Addr) (q3 q4 : Nat), ki + g = L.length ∧ PoI w wx p w1.heap.size w.heap.size s L d ki v a' (.slice o3 a'.set.length q3) (.slice o4 a'.parts.length q4) ∧ AlL L P a' ki e k2)
 case atStart => exact ⟨a, k1, _, _, _, _, by omega, HPI.out, HL.out⟩
 case round =>
  obtain ⟨a', ki, o3, o4, q3, q4, hkg, hpi, hpo⟩ := hrel
  have HP := Lib.hid hpi
  obtain ⟨⟨c0, c1, c2⟩, f0, f1, f2⟩ := cells3_of' hpi.hb
  clear hpi
  rcases hpo.inv with ⟨hcnd, rfl, rfl⟩ | ⟨hcnd, nb, kj, hpp, hpo2⟩
  · have HN := Lib.hid hcnd
    clear hpo hcnd
    go_wp2_with fail
    refine (skip_any p ki d 124 s L v _ HP.out.x (by decide)).mono ?_
    rintro x w2 ⟨rfl, hc2, hx2⟩
    rw [if_neg HN.out] at hx2
    rw [decide_eq_false HN.out]
    have hb2 := (hc2.block _ (lt_of_some HP.out.hb) (fun e => hpb e.symm)).trans HP.out.hb
    obtain ⟨z0, z1, z2, hz⟩ := HP.out.hr
    have hr2 := (hc2.block _ (lt_of_some hz) (by omega)).trans hz
    have hbr : ¬ w1.heap.size = w.heap.size := by omega
    obtain ⟨⟨d0, d1, d2⟩, g0, g1, g2⟩ := cells3_of' hb2
    obtain ⟨⟨r0, r1, r2⟩, x0, x1, x2⟩ := cells3_of' hr2
    have hkp2 := HP.out.kp.to (hc2.ag.sub (fun j _ hj => by omega))
    have HK := Lib.hid hkp2
    have HC := Lib.hid (HP.out.c.trans hc2)
    have HX2 := Lib.hid hx2
    have HR2 := Lib.hid hr2
    clear c0 c1 c2 f0 f1 f2 hb2 hz hkp2 hc2 hx2 HP hr2
    go_wp2_with fail
    obtain ⟨W9, hW⟩ : ∃ W9, W9 = ((w2.setCell ⟨w.heap.size, 0, none⟩ (.int .i64 a'.kind)).setCell ⟨w.heap.size, 1, none⟩ (.slice o3 a'.set.length q3)).setCell ⟨w.heap.size, 2, none⟩ (.slice o4 a'.parts.length q4) := ⟨_, rfl⟩
    have h9 : W9.heap[w.heap.size]? = some (.cells #[.int .i64 a'.kind, .slice o3 a'.set.length q3, .slice o4 a'.parts.length q4] 35 (0, 0)) := by
     rw [hW]; have := HR2.out; simp [World.setCell, Array.getElem?_modify, this]
    have hag : Ag (fun j => w.heap.size < j ∧ j ≠ w1.heap.size) w2 W9 := by
     rw [hW]
     exact (((Ag.refl _ _).setCell (fun h => Nat.lt_irrefl _ h.1) _).setCell (fun h => Nat.lt_irrefl _ h.1) _).setCell (fun h => Nat.lt_irrefl _ h.1) _
    have hc9 : Ch w W9 p := by rw [hW]; exact ((HC.out.setNew' (Nat.le_refl _)).setNew' (Nat.le_refl _)).setNew' (Nat.le_refl _)
    have hx9 : XI W9 p s L ki d v := by rw [hW]; exact HX.out.setNew (HX.out.setNew (HX.out.setNew HX2.out (Nat.le_refl _)) (Nat.le_refl _)) (Nat.le_refl _)
    rw [← hW]
    clear hW r0 r1 r2 x0 x1 x2 d0 d1 d2 g0 g1 g2
    obtain ⟨⟨d0, d1, d2⟩, g0, g1, g2⟩ := cells3_of' h9
    refine bodyPost_ret (v := .agg #[.int .i64 a'.kind, .slice o3 a'.set.length q3, .slice o4 a'.parts.length q4]) (by simp [results, Tryz.results30, go_sem, d0, d1, d2, g0, g1, g2]) rfl ?_
    exact ⟨⟨_, _, rfl, (HK.out.to hag).sub (fun j _ hj => Nat.le_of_lt hj.1)⟩, hc9, hx9⟩
  · have HN := Lib.hid hcnd
    clear hpo hcnd
    go_wp2_with fail
    refine (skip_any p ki d 124 s L v _ HP.out.x (by decide)).mono ?_
    rintro x w2 ⟨rfl, hc2, hx2⟩
    rw [if_pos HN.out] at hx2
    have hki : ki < L.length := pk_in' HN.out (by decide)
    rw [decide_eq_true HN.out]
    have hb2 := (hc2.block _ (lt_of_some HP.out.hb) (fun e => hpb e.symm)).trans HP.out.hb
    have hblt := lt_of_some hb2
    obtain ⟨z0, z1, z2, hz⟩ := HP.out.hr
    have hr2 := (hc2.block _ (lt_of_some hz) (by omega)).trans hz
    have hrlt := lt_of_some hr2
    have hbr : ¬ w1.heap.size = w.heap.size := by omega
    obtain ⟨⟨d0, d1, d2⟩, g0, g1, g2⟩ := cells3_of' hb2
    have hkp2 := HP.out.kp.to (hc2.ag.sub (fun j _ hj => by omega))
    have HK := Lib.hid hkp2
    have HC := Lib.hid (HP.out.c.trans hc2)
    have HX2 := Lib.hid hx2
    have HR2 := Lib.hid hr2
    have HB2 := Lib.hid hb2
    have HPO := Lib.hid hpo2
    have HPP := Lib.hid hpp
    have hpp2 := hmono _ _ _ hpp
    have hqb : ¬ w2.heap.size = w1.heap.size := by omega
    clear c0 c1 c2 f0 f1 f2 hb2 hz hkp2 hc2 hx2 hr2 HP hpo2 hpp
    go_wp2_with fail
    go_region_law
     (go_simp; go_at_call 69; refine (HT.out _ _ _ _ HPP.out (HX2.out.moved (by repeat (first | exact Below.refl _ _ | refine Below.drew ?_)))).mono ?_; rintro x w5 ⟨⟨sv5, lv5, rfl, hk5⟩, hc5, hx5⟩; obtain ⟨⟨o5, q5, rfl⟩, ⟨o6, q6, rfl⟩⟩ := hk5.here.form; have hb5 := (hc5.block _ hblt (fun e => hpb e.symm)).trans HB2.out; obtain ⟨⟨e0, e1, e2⟩, m0, m1, m2⟩ := cells3_of' hb5; have hlt5 : w1.heap.size < w5.heap.size := Nat.lt_of_lt_of_le hblt (show w2.heap.size ≤ w5.heap.size from hc5.size); have hqb5 : ¬ w5.heap.size = w1.heap.size := (fun e => absurd hlt5 (e ▸ Nat.lt_irrefl _)); have hqb6 : ¬ w1.heap.size = w5.heap.size := (fun e => absurd hlt5 (e ▸ Nat.lt_irrefl _)))
    all_goals (
     have hr5 := (hc5.block _ hrlt (fun e => by omega)).trans HR2.out
     have hka5 := HK.out.to (((Ag.refl _ w2).drew).trans (hc5.ag.sub (fun j _ hj => by omega)))
     have HP9 := Lib.hid (PoI.two (b' := nb) (n5 := w2.heap.size) 4 HX.out (HC.out.trans (Ch.trans (Ch.of (Below.refl _ _).drew) hc5)) hx5 hb5 hr5 hka5 (hk5.sub (fun j _ hj => hj)) (by omega) (Nat.le_refl _) (by omega) hblt)
     have hkl := hx5.le
     clear hb5 hr5 hka5 e0 e1 e2 m0 m1 m2 d0 d1 d2 g0 g1 g2 hc5 hx5 hk5
     try go_wp2_with fail
     go_roundg (L.length - kj)
     case measure => omega
     case rel => exact ⟨.mk 4 [] [a', nb], kj, none, some ⟨w5.heap.size, 0, none⟩, 0, 2, by omega, HP9.out, HPO.out⟩)
end Go.Proofs.YtfkmajjgkdjncaaGreatDoor
