/- Merged. -/
import Derived.Test.YtfkmajjgkdjncaaGreatDoorPaAlts
import Derived.Test.YtfkmajjgkdjncaaGreatDoorPaAlt
set_option linter.unusedVariables false
set_option linter.unusedSimpArgs false
set_option maxHeartbeats 4000000
set_option maxRecDepth 100000
namespace Go.Proofs.YtfkmajjgkdjncaaGreatDoor
open Go.RowKit De Wd
abbrev pflt (c a : Int) : Ending := .panicked [{ v := .iface 65 (.agg #[.int .i64 c, .int .i64 a]), recovered := false }]
theorem pafail_any (p k d : Nat) (s : ByteArray) (L : Its) (v : Value) (w : World) (h : XI w p s L k d v) :
 Calls Tryz.prog 31 #[.pointer (some ⟨p, 0, none⟩)] w fun x w' => x = pflt 3 (plc L s.size k) ∧ w' = w := by
 obtain ⟨⟨c0, c1, c2, c3⟩, f0, f1, f2, f3⟩ := cells4_of h.hh
 have HX := Lib.hid h
 clear h
 go_enter Tryz.func31, Tryz.ntmps31
 go_wp2_with fail
 refine (paPlace_any p k k d s L v _ HX.out).mono ?_
 rintro x w1 ⟨rfl, e⟩
 subst e
 go_wp2_with fail
 exact ⟨rfl, rfl, rfl⟩
end Go.Proofs.YtfkmajjgkdjncaaGreatDoor

set_option maxHeartbeats 4000000
set_option maxRecDepth 100000
namespace Go.Proofs.YtfkmajjgkdjncaaGreatDoor
open Go.RowKit De Wd
inductive AlB (L : Its) (P : Nat → RE → Nat → Prop) (F : Nat → Int → Nat → Prop) : RE → Nat → Int → Nat → Prop
 | bad {k z : Nat} {a : RE} {c : Int} (h : pk L k = 124) (p : F (k + 1) c z) : AlB L P F a k c z
 | go {k k1 z : Nat} {a b : RE} {c : Int} (h : pk L k = 124) (p : P (k + 1) b k1) (r : AlB L P F (.mk 4 [] [a, b]) k1 c z) : AlB L P F a k c z
theorem AlB.inv {L : Its} {P : Nat → RE → Nat → Prop} {F : Nat → Int → Nat → Prop} {a : RE} {k z : Nat} {c : Int} (h : AlB L P F a k c z) : (pk L k = 124 ∧ F (k + 1) c z) ∨ (pk L k = 124 ∧ ∃ b k1, P (k + 1) b k1 ∧ AlB L P F (.mk 4 [] [a, b]) k1 c z) := by
 cases h with
 | bad h p => exact .inl ⟨h, p⟩
 | go h p r => exact .inr ⟨h, _, _, p, r⟩
inductive SqB (L : Its) (P : Nat → RE → Nat → Prop) (F : Nat → Int → Nat → Prop) : RE → Nat → Int → Nat → Prop
 | bad {k z : Nat} {a : RE} {c : Int} (h : Pm.atm (pk L k) = true) (p : F k c z) : SqB L P F a k c z
 | go {k k1 z : Nat} {a b : RE} {c : Int} (h : Pm.atm (pk L k) = true) (p : P k b k1) (r : SqB L P F (.mk 3 [] [a, b]) k1 c z) : SqB L P F a k c z
theorem SqB.inv {L : Its} {P : Nat → RE → Nat → Prop} {F : Nat → Int → Nat → Prop} {a : RE} {k z : Nat} {c : Int} (h : SqB L P F a k c z) : (Pm.atm (pk L k) = true ∧ F k c z) ∨ (Pm.atm (pk L k) = true ∧ ∃ b k1, P k b k1 ∧ SqB L P F (.mk 3 [] [a, b]) k1 c z) := by
 cases h with
 | bad h p => exact .inl ⟨h, p⟩
 | go h p r => exact .inr ⟨h, _, _, p, r⟩
theorem alts_bad (p k d k1 z : Nat) (c : Int) (s : ByteArray) (L : Its) (v : Value) (a : RE) (w : World) (h : XI w p s L k d v) (P : Nat → RE → Nat → Prop) (hmono : ∀ k b k', P k b k' → k ≤ k') (h1 : P k a k1) (F : Nat → Int → Nat → Prop) (hl : AlB L P F a k1 c z)
 (hat : ∀ w k a k1, P k a k1 → XI w p s L k d v → Calls Tryz.prog 69 #[.pointer (some ⟨p, 0, none⟩)] w fun x w' => ReP w w' a x ∧ Ch w w' p ∧ XI w' p s L k1 d v)
 (hbt : ∀ w k c z, F k c z → XI w p s L k d v → Calls Tryz.prog 69 #[.pointer (some ⟨p, 0, none⟩)] w fun x w' => x = pflt c z ∧ Ch w w' p) :
 Calls Tryz.prog 30 #[.pointer (some ⟨p, 0, none⟩)] w fun x w' => x = pflt c z ∧ Ch w w' p := by
 have hlt := h.lt
 have hA := h.moved (bel_new (Below.refl _ _) (.cells #[.int .i64 0, .slice none 0 0, .slice none 0 0] 35))
 have HX := Lib.hid h
 have HA := Lib.hid hA
 have HT := Lib.hid hat
 have HL := Lib.hid hl
 have HBT := Lib.hid hbt
 have HH1 := Lib.hid h1
 clear h hA hat hbt hl h1
 go_enter Tryz.func30, Tryz.ntmps30
 go_wp2_with fail
 refine (HT.out _ _ _ _ HH1.out HA.out).mono ?_
 rintro x w1 ⟨⟨sv, lv, rfl, hkp⟩, hch, hxi⟩
 obtain ⟨⟨o1, q1, rfl⟩, ⟨o2, q2, rfl⟩⟩ := hkp.here.form
 have hs1 : w.heap.size < w1.heap.size := by have := hch.size; simp at this; omega
 have hr1 : w1.heap[w.heap.size]? = some (.cells #[.int .i64 0, .slice none 0 0, .slice none 0 0] 35 (0, 0)) := by rw [hch.block _ (by simp) (by omega)]; exact heap_alloc_new w _
 have hpb : p ≠ w1.heap.size := by omega
 have hxi2 := hxi.moved (bel_new (Below.refl _ _) (.cells #[.int .i64 a.kind, .slice o1 a.set.length q1, .slice o2 a.parts.length q2] 35))
 have hpi : PoI w (w1.alloc (.cells #[.int .i64 a.kind, .slice o1 a.set.length q1, .slice o2 a.parts.length q2] 35)) p w1.heap.size w.heap.size s L d k1 v a (.slice o1 a.set.length q1) (.slice o2 a.parts.length q2) := by
  refine ⟨hxi2, ?_, heap_alloc_new w1 _, ⟨.int .i64 0, .slice none 0 0, .slice none 0 0, ?_⟩, ?_⟩
  · exact ((Ch.of (bel_new (Below.refl _ _) _)).trans hch).trans (Ch.of (bel_new (Below.refl _ _) _))
  · rw [(bel_new (Below.refl w1.heap.size w1) _).block _ hs1]; exact hr1
  · intro w' hag
    refine hkp w' ⟨hag.os, hag.tape, hag.output, by have := hag.size; simp at this; omega, fun j hj hS => ?_⟩
    have hS' : w.heap.size + 1 ≤ j := by simpa using hS
    rw [hag.block j (by simp; omega) ⟨by omega, by omega⟩]
    exact (bel_new (Below.refl w1.heap.size w1) _).block j hj
 have HPI := Lib.hid hpi
 have hle := hxi.le
 clear hpi hxi2 hxi hch hkp hr1
 go_wp2_with fail
 go_loopg [] (L.length - k1) (fun g wx => ∃ (a' : RE) (ki : Nat) (o3 o4 : Option Addr) (q3 q4 : Nat), ki + g = L.length ∧ PoI w wx p w1.heap.size w.heap.size s L d ki v a' (.slice o3 a'.set.length q3) (.slice o4 a'.parts.length q4) ∧ AlB L P F a' ki c z)
 case atStart => exact ⟨a, k1, _, _, _, _, by omega, HPI.out, HL.out⟩
 case round =>
  obtain ⟨a', ki, o3, o4, q3, q4, hkg, hpi, hpo⟩ := hrel
  have HP := Lib.hid hpi
  obtain ⟨⟨c0, c1, c2⟩, f0, f1, f2⟩ := cells3_of' hpi.hb
  clear hpi
  rcases hpo.inv with ⟨hcnd, hpp⟩ | ⟨hcnd, nb, kj, hpp, hpo2⟩
  · have HN := Lib.hid hcnd
    clear hpo hcnd
    go_wp2_with fail
    refine (skip_any p ki d 124 s L v _ HP.out.x (by decide)).mono ?_
    rintro x w2 ⟨rfl, hc2, hx2⟩
    rw [if_pos HN.out] at hx2
    have hki : ki < L.length := pk_in' HN.out (by decide)
    rw [decide_eq_true HN.out]
    have hb2 := (hc2.block _ (lt_of_some HP.out.hb) (fun e => hpb e.symm)).trans HP.out.hb
    have hblt := lt_of_some hb2
    obtain ⟨z0, z1, z2, hz⟩ := HP.out.hr
    have hr2 := (hc2.block _ (lt_of_some hz) (by omega)).trans hz
    have hrlt := lt_of_some hr2
    have hbr : ¬ w1.heap.size = w.heap.size := by omega
    obtain ⟨⟨d0, d1, d2⟩, g0, g1, g2⟩ := cells3_of' hb2
    have hkp2 := HP.out.kp.to (hc2.ag.sub (fun j _ hj => by omega))
    have HK := Lib.hid hkp2
    have HC := Lib.hid (HP.out.c.trans hc2)
    have HX2 := Lib.hid hx2
    have HR2 := Lib.hid hr2
    have HB2 := Lib.hid hb2
    have HPP := Lib.hid hpp
    have hqb : ¬ w2.heap.size = w1.heap.size := by omega
    clear c0 c1 c2 f0 f1 f2 hb2 hz hkp2 hc2 hx2 hr2 HP hpp
    go_wp2_with fail
    refine wp_region_any (by kernel_rfl) ?_
    try (change wpAny _ _ _ _ _ _ _ (World.drew _))
    refine wpAny_take (i := 1) (v := .pointer (some ⟨p, 0, none⟩)) rfl (by kernel_rfl) (by kernel_rfl) (by kernel_rfl) (fun _ _ _ h => h) (Or.inl ⟨by rfl, by intro w; go_simp⟩) ?_
    refine wpAny_ready (rs := [0, 2]) (by kernel_rfl) (by simp) ?_
    refine AllReady.cons rfl (fun K hK => ?_) (AllReady.cons rfl (fun K hK => ?_) AllReady.nil)
    · go_simp
      refine hK _ _ ?_
      clear hK K
      refine wpAny_ready (rs := [2]) (by kernel_rfl) (by simp) ?_
      refine AllReady.cons rfl (fun K hK => ?_) AllReady.nil
      go_simp
      go_at_call 69
      refine (HBT.out _ _ _ _ HPP.out (HX2.out.moved (by repeat (first | exact Below.refl _ _ | refine Below.drew ?_)))).mono ?_
      rintro x w5 ⟨rfl, hc5⟩
      have HF := Lib.hid (HC.out.trans (Ch.trans (Ch.of (Below.refl _ _).drew) hc5))
      clear d0 d1 d2 g0 g1 g2 hc5
      try go_wp2_with fail
      first | exact ⟨rfl, HF.out⟩ | exact ⟨rfl, rfl, HF.out⟩
    · go_simp
      go_at_call 69
      refine (HBT.out _ _ _ _ HPP.out (HX2.out.moved (by repeat (first | exact Below.refl _ _ | refine Below.drew ?_)))).mono ?_
      rintro x w5 ⟨rfl, hc5⟩
      have HF := Lib.hid (HC.out.trans (Ch.trans (Ch.of (Below.refl _ _).drew) hc5))
      clear d0 d1 d2 g0 g1 g2 hc5
      try go_wp2_with fail
      first | exact ⟨rfl, HF.out⟩ | exact ⟨rfl, rfl, HF.out⟩
  · have HN := Lib.hid hcnd
    clear hpo hcnd
    go_wp2_with fail
    refine (skip_any p ki d 124 s L v _ HP.out.x (by decide)).mono ?_
    rintro x w2 ⟨rfl, hc2, hx2⟩
    rw [if_pos HN.out] at hx2
    have hki : ki < L.length := pk_in' HN.out (by decide)
    rw [decide_eq_true HN.out]
    have hb2 := (hc2.block _ (lt_of_some HP.out.hb) (fun e => hpb e.symm)).trans HP.out.hb
    have hblt := lt_of_some hb2
    obtain ⟨z0, z1, z2, hz⟩ := HP.out.hr
    have hr2 := (hc2.block _ (lt_of_some hz) (by omega)).trans hz
    have hrlt := lt_of_some hr2
    have hbr : ¬ w1.heap.size = w.heap.size := by omega
    obtain ⟨⟨d0, d1, d2⟩, g0, g1, g2⟩ := cells3_of' hb2
    have hkp2 := HP.out.kp.to (hc2.ag.sub (fun j _ hj => by omega))
    have HK := Lib.hid hkp2
    have HC := Lib.hid (HP.out.c.trans hc2)
    have HX2 := Lib.hid hx2
    have HR2 := Lib.hid hr2
    have HB2 := Lib.hid hb2
    have HPO := Lib.hid hpo2
    have HPP := Lib.hid hpp
    have hpp2 := hmono _ _ _ hpp
    have hqb : ¬ w2.heap.size = w1.heap.size := by omega
    clear c0 c1 c2 f0 f1 f2 hb2 hz hkp2 hc2 hx2 hr2 HP hpo2 hpp
    go_wp2_with fail
    go_region_law
     (go_simp; go_at_call 69; refine (HT.out _ _ _ _ HPP.out (HX2.out.moved (by repeat (first | exact Below.refl _ _ | refine Below.drew ?_)))).mono ?_; rintro x w5 ⟨⟨sv5, lv5, rfl, hk5⟩, hc5, hx5⟩; obtain ⟨⟨o5, q5, rfl⟩, ⟨o6, q6, rfl⟩⟩ := hk5.here.form; have hb5 := (hc5.block _ hblt (fun e => hpb e.symm)).trans HB2.out; obtain ⟨⟨e0, e1, e2⟩, m0, m1, m2⟩ := cells3_of' hb5; have hlt5 : w1.heap.size < w5.heap.size := Nat.lt_of_lt_of_le hblt (show w2.heap.size ≤ w5.heap.size from hc5.size); have hqb5 : ¬ w5.heap.size = w1.heap.size := (fun e => absurd hlt5 (e ▸ Nat.lt_irrefl _)); have hqb6 : ¬ w1.heap.size = w5.heap.size := (fun e => absurd hlt5 (e ▸ Nat.lt_irrefl _)))
    all_goals (
     have hr5 := (hc5.block _ hrlt (fun e => by omega)).trans HR2.out
     have hka5 := HK.out.to (((Ag.refl _ w2).drew).trans (hc5.ag.sub (fun j _ hj => by omega)))
     have HP9 := Lib.hid (PoI.two (b' := nb) (n5 := w2.heap.size) 4 HX.out (HC.out.trans (Ch.trans (Ch.of (Below.refl _ _).drew) hc5)) hx5 hb5 hr5 hka5 (hk5.sub (fun j _ hj => hj)) (by omega) (Nat.le_refl _) (by omega) hblt)
     have hkl := hx5.le
     clear hb5 hr5 hka5 e0 e1 e2 m0 m1 m2 d0 d1 d2 g0 g1 g2 hc5 hx5 hk5
     try go_wp2_with fail
     go_roundg (L.length - kj)
     case measure => omega
     case rel => exact ⟨.mk 4 [] [a', nb], kj, none, some ⟨w5.heap.size, 0, none⟩, 0, 2, by omega, HP9.out, HPO.out⟩)
theorem alts_bad0 (p k d z : Nat) (c : Int) (s : ByteArray) (L : Its) (v : Value) (w : World) (h : XI w p s L k d v)
 (hat : ∀ w, XI w p s L k d v → Calls Tryz.prog 69 #[.pointer (some ⟨p, 0, none⟩)] w fun x w' => x = pflt c z ∧ Ch w w' p) :
 Calls Tryz.prog 30 #[.pointer (some ⟨p, 0, none⟩)] w fun x w' => x = pflt c z ∧ Ch w w' p := by
 have hlt := h.lt
 have hA := h.moved (bel_new (Below.refl _ _) (.cells #[.int .i64 0, .slice none 0 0, .slice none 0 0] 35))
 have HA := Lib.hid hA
 have HT := Lib.hid hat
 have HC0 := Lib.hid (Ch.of (p := p) (bel_new (Below.refl w.heap.size w) (.cells #[.int .i64 0, .slice none 0 0, .slice none 0 0] 35)))
 clear h hA hat
 go_enter Tryz.func30, Tryz.ntmps30
 go_wp2_with fail
 refine (HT.out _ HA.out).mono ?_
 rintro x w1 ⟨rfl, hch⟩
 have HF := Lib.hid (HC0.out.trans hch)
 clear hch
 go_wp2_with fail
 exact ⟨rfl, rfl, HF.out⟩
theorem alt_bad (p k d k1 z : Nat) (c : Int) (s : ByteArray) (L : Its) (v : Value) (a : RE) (w : World) (h : XI w p s L k d v) (h128 : Sc L) (P : Nat → RE → Nat → Prop) (hmono : ∀ k b k', P k b k' → k < k') (h1 : P k a k1) (F : Nat → Int → Nat → Prop) (hl : SqB L P F a k1 c z) (hatm : Pm.atm (pk L k) = true)
 (hat : ∀ w k a k1, P k a k1 → XI w p s L k d v → Calls Tryz.prog 111 #[.pointer (some ⟨p, 0, none⟩)] w fun x w' => ReP w w' a x ∧ Ch w w' p ∧ XI w' p s L k1 d v)
 (hbt : ∀ w k c z, F k c z → XI w p s L k d v → Calls Tryz.prog 111 #[.pointer (some ⟨p, 0, none⟩)] w fun x w' => x = pflt c z ∧ Ch w w' p) :
 Calls Tryz.prog 69 #[.pointer (some ⟨p, 0, none⟩)] w fun x w' => x = pflt c z ∧ Ch w w' p := by
 have hlt := h.lt
 have hA := h.moved (bel_new (Below.refl _ _) (.cells #[.int .i64 0, .slice none 0 0, .slice none 0 0] 35))
 have HX := Lib.hid h
 have HA := Lib.hid hA
 have HT := Lib.hid hat
 have HL := Lib.hid hl
 have HBT := Lib.hid hbt
 have HH1 := Lib.hid h1
 have H128 := Lib.hid h128
 clear h hA hat hbt hl h1 h128
 go_enter Tryz.func69, Tryz.ntmps69
 go_wp2_with fail
 refine (atomNext_any p k d s L v _ HA.out H128.out).mono ?_
 rintro x wz ⟨rfl, hwz⟩
 rw [hatm]
 have hsz : w.heap.size < wz.heap.size := by have := hwz.size; simp at this; omega
 have hrz : wz.heap[w.heap.size]? = some (.cells #[.int .i64 0, .slice none 0 0, .slice none 0 0] 35 (0, 0)) := by rw [hwz.block _ (by simp)]; exact heap_alloc_new w _
 have hcz : Ch w wz p := (Ch.of (bel_new (Below.refl _ _) _)).trans (Ch.of hwz)
 have HAZ := Lib.hid (HA.out.moved hwz)
 clear hwz
 go_wp2_with fail
 refine (HT.out _ _ _ _ HH1.out HAZ.out).mono ?_
 rintro x w1 ⟨⟨sv, lv, rfl, hkp⟩, hch, hxi⟩
 obtain ⟨⟨o1, q1, rfl⟩, ⟨o2, q2, rfl⟩⟩ := hkp.here.form
 have hs1 : w.heap.size < w1.heap.size := by have := hch.size; omega
 have hr1 : w1.heap[w.heap.size]? = some (.cells #[.int .i64 0, .slice none 0 0, .slice none 0 0] 35 (0, 0)) := by rw [hch.block _ hsz (by omega)]; exact hrz
 have hpb : p ≠ w1.heap.size := by omega
 have hxi2 := hxi.moved (bel_new (Below.refl _ _) (.cells #[.int .i64 a.kind, .slice o1 a.set.length q1, .slice o2 a.parts.length q2] 35))
 have hpi : PoI w (w1.alloc (.cells #[.int .i64 a.kind, .slice o1 a.set.length q1, .slice o2 a.parts.length q2] 35)) p w1.heap.size w.heap.size s L d k1 v a (.slice o1 a.set.length q1) (.slice o2 a.parts.length q2) := by
  refine ⟨hxi2, ?_, heap_alloc_new w1 _, ⟨.int .i64 0, .slice none 0 0, .slice none 0 0, ?_⟩, ?_⟩
  · exact (hcz.trans hch).trans (Ch.of (bel_new (Below.refl _ _) _))
  · rw [(bel_new (Below.refl w1.heap.size w1) _).block _ hs1]; exact hr1
  · intro w' hag
    refine hkp w' ⟨hag.os, hag.tape, hag.output, by have := hag.size; simp at this; omega, fun j hj hS => ?_⟩
    have hS' : wz.heap.size ≤ j := hS
    rw [hag.block j (by simp; omega) ⟨by omega, by omega⟩]
    exact (bel_new (Below.refl w1.heap.size w1) _).block j hj
 have HPI := Lib.hid hpi
 have hle := hxi.le
 clear hpi hxi2 hxi hch hkp hr1 hcz hrz
 go_wp2_with fail
 go_loopg [] (L.length - k1) (fun g wx => ∃ (a' : RE) (ki : Nat) (o3 o4 : Option Addr) (q3 q4 : Nat), ki + g = L.length ∧ PoI w wx p w1.heap.size w.heap.size s L d ki v a' (.slice o3 a'.set.length q3) (.slice o4 a'.parts.length q4) ∧ SqB L P F a' ki c z)
 case atStart => exact ⟨a, k1, _, _, _, _, by omega, HPI.out, HL.out⟩
 case round =>
  obtain ⟨a', ki, o3, o4, q3, q4, hkg, hpi, hpo⟩ := hrel
  have HP := Lib.hid hpi
  obtain ⟨⟨c0, c1, c2⟩, f0, f1, f2⟩ := cells3_of' hpi.hb
  clear hpi
  rcases hpo.inv with ⟨hcnd, hpp⟩ | ⟨hcnd, nb, kj, hpp, hpo2⟩
  · have HN := Lib.hid hcnd
    clear hpo hcnd
    go_wp2_with fail
    refine (atomNext_any p ki d s L v _ HP.out.x H128.out).mono ?_
    rintro x w2 ⟨rfl, hwz⟩
    have hc2 : Ch _ w2 p := Ch.of hwz
    have hx2 := HP.out.x.moved hwz
    clear hwz
    have hki : ki < L.length := by have h1 := HN.out; unfold Pm.atm at h1; simp at h1; exact pk_in' rfl (by omega)
    rw [HN.out]
    have hb2 := (hc2.block _ (lt_of_some HP.out.hb) (fun e => hpb e.symm)).trans HP.out.hb
    have hblt := lt_of_some hb2
    obtain ⟨z0, z1, z2, hz⟩ := HP.out.hr
    have hr2 := (hc2.block _ (lt_of_some hz) (by omega)).trans hz
    have hrlt := lt_of_some hr2
    have hbr : ¬ w1.heap.size = w.heap.size := by omega
    obtain ⟨⟨d0, d1, d2⟩, g0, g1, g2⟩ := cells3_of' hb2
    have hkp2 := HP.out.kp.to (hc2.ag.sub (fun j _ hj => by omega))
    have HK := Lib.hid hkp2
    have HC := Lib.hid (HP.out.c.trans hc2)
    have HX2 := Lib.hid hx2
    have HR2 := Lib.hid hr2
    have HB2 := Lib.hid hb2
    have HPP := Lib.hid hpp
    have hqb : ¬ w2.heap.size = w1.heap.size := by omega
    clear c0 c1 c2 f0 f1 f2 hb2 hz hkp2 hc2 hx2 hr2 HP hpp
    go_wp2_with fail
    refine wp_region_any (by kernel_rfl) ?_
    try (change wpAny _ _ _ _ _ _ _ (World.drew _))
    refine wpAny_take (i := 1) (v := .pointer (some ⟨p, 0, none⟩)) rfl (by kernel_rfl) (by kernel_rfl) (by kernel_rfl) (fun _ _ _ h => h) (Or.inl ⟨by rfl, by intro w; go_simp⟩) ?_
    refine wpAny_ready (rs := [0, 2]) (by kernel_rfl) (by simp) ?_
    refine AllReady.cons rfl (fun K hK => ?_) (AllReady.cons rfl (fun K hK => ?_) AllReady.nil)
    · go_simp
      refine hK _ _ ?_
      clear hK K
      refine wpAny_ready (rs := [2]) (by kernel_rfl) (by simp) ?_
      refine AllReady.cons rfl (fun K hK => ?_) AllReady.nil
      go_simp
      go_at_call 111
      refine (HBT.out _ _ _ _ HPP.out (HX2.out.moved (by repeat (first | exact Below.refl _ _ | refine Below.drew ?_)))).mono ?_
      rintro x w5 ⟨rfl, hc5⟩
      have HF := Lib.hid (HC.out.trans (Ch.trans (Ch.of (Below.refl _ _).drew) hc5))
      clear d0 d1 d2 g0 g1 g2 hc5
      try go_wp2_with fail
      first | exact ⟨rfl, HF.out⟩ | exact ⟨rfl, rfl, HF.out⟩
    · go_simp
      go_at_call 111
      refine (HBT.out _ _ _ _ HPP.out (HX2.out.moved (by repeat (first | exact Below.refl _ _ | refine Below.drew ?_)))).mono ?_
      rintro x w5 ⟨rfl, hc5⟩
      have HF := Lib.hid (HC.out.trans (Ch.trans (Ch.of (Below.refl _ _).drew) hc5))
      clear d0 d1 d2 g0 g1 g2 hc5
      try go_wp2_with fail
      first | exact ⟨rfl, HF.out⟩ | exact ⟨rfl, rfl, HF.out⟩
  · have HN := Lib.hid hcnd
    clear hpo hcnd
    go_wp2_with fail
    refine (atomNext_any p ki d s L v _ HP.out.x H128.out).mono ?_
    rintro x w2 ⟨rfl, hwz⟩
    have hc2 : Ch _ w2 p := Ch.of hwz
    have hx2 := HP.out.x.moved hwz
    clear hwz
    have hki : ki < L.length := by have h1 := HN.out; unfold Pm.atm at h1; simp at h1; exact pk_in' rfl (by omega)
    rw [HN.out]
    have hb2 := (hc2.block _ (lt_of_some HP.out.hb) (fun e => hpb e.symm)).trans HP.out.hb
    have hblt := lt_of_some hb2
    obtain ⟨z0, z1, z2, hz⟩ := HP.out.hr
    have hr2 := (hc2.block _ (lt_of_some hz) (by omega)).trans hz
    have hrlt := lt_of_some hr2
    have hbr : ¬ w1.heap.size = w.heap.size := by omega
    obtain ⟨⟨d0, d1, d2⟩, g0, g1, g2⟩ := cells3_of' hb2
    have hkp2 := HP.out.kp.to (hc2.ag.sub (fun j _ hj => by omega))
    have HK := Lib.hid hkp2
    have HC := Lib.hid (HP.out.c.trans hc2)
    have HX2 := Lib.hid hx2
    have HR2 := Lib.hid hr2
    have HB2 := Lib.hid hb2
    have HPO := Lib.hid hpo2
    have HPP := Lib.hid hpp
    have hpp2 := hmono _ _ _ hpp
    have hqb : ¬ w2.heap.size = w1.heap.size := by omega
    clear c0 c1 c2 f0 f1 f2 hb2 hz hkp2 hc2 hx2 hr2 HP hpo2 hpp
    go_wp2_with fail
    go_region_law
     (go_simp; go_at_call 111; refine (HT.out _ _ _ _ HPP.out (HX2.out.moved (by repeat (first | exact Below.refl _ _ | refine Below.drew ?_)))).mono ?_; rintro x w5 ⟨⟨sv5, lv5, rfl, hk5⟩, hc5, hx5⟩; obtain ⟨⟨o5, q5, rfl⟩, ⟨o6, q6, rfl⟩⟩ := hk5.here.form; have hb5 := (hc5.block _ hblt (fun e => hpb e.symm)).trans HB2.out; obtain ⟨⟨e0, e1, e2⟩, m0, m1, m2⟩ := cells3_of' hb5; have hlt5 : w1.heap.size < w5.heap.size := Nat.lt_of_lt_of_le hblt (show w2.heap.size ≤ w5.heap.size from hc5.size); have hqb5 : ¬ w5.heap.size = w1.heap.size := (fun e => absurd hlt5 (e ▸ Nat.lt_irrefl _)); have hqb6 : ¬ w1.heap.size = w5.heap.size := (fun e => absurd hlt5 (e ▸ Nat.lt_irrefl _)))
    all_goals (
     have hr5 := (hc5.block _ hrlt (fun e => by omega)).trans HR2.out
     have hka5 := HK.out.to (((Ag.refl _ w2).drew).trans (hc5.ag.sub (fun j _ hj => by omega)))
     have HP9 := Lib.hid (PoI.two (b' := nb) (n5 := w2.heap.size) 3 HX.out (HC.out.trans (Ch.trans (Ch.of (Below.refl _ _).drew) hc5)) hx5 hb5 hr5 hka5 (hk5.sub (fun j _ hj => hj)) (by omega) (Nat.le_refl _) (by omega) hblt)
     have hkl := hx5.le
     clear hb5 hr5 hka5 e0 e1 e2 m0 m1 m2 d0 d1 d2 g0 g1 g2 hc5 hx5 hk5
     try go_wp2_with fail
     go_roundg (L.length - kj)
     case measure => omega
     case rel => exact ⟨.mk 3 [] [a', nb], kj, none, some ⟨w5.heap.size, 0, none⟩, 0, 2, by omega, HP9.out, HPO.out⟩)
theorem alt_bad0 (p k d z : Nat) (c : Int) (s : ByteArray) (L : Its) (v : Value) (w : World) (h : XI w p s L k d v) (h128 : Sc L) (hatm : Pm.atm (pk L k) = true)
 (hat : ∀ w, XI w p s L k d v → Calls Tryz.prog 111 #[.pointer (some ⟨p, 0, none⟩)] w fun x w' => x = pflt c z ∧ Ch w w' p) :
 Calls Tryz.prog 69 #[.pointer (some ⟨p, 0, none⟩)] w fun x w' => x = pflt c z ∧ Ch w w' p := by
 have hlt := h.lt
 have hA := h.moved (bel_new (Below.refl _ _) (.cells #[.int .i64 0, .slice none 0 0, .slice none 0 0] 35))
 have HA := Lib.hid hA
 have HT := Lib.hid hat
 have HC0 := Lib.hid (Ch.of (p := p) (bel_new (Below.refl w.heap.size w) (.cells #[.int .i64 0, .slice none 0 0, .slice none 0 0] 35)))
 clear h hA hat
 go_enter Tryz.func69, Tryz.ntmps69
 go_wp2_with fail
 refine (atomNext_any p k d s L v _ HA.out h128).mono ?_
 rintro x wz ⟨rfl, hwz⟩
 rw [hatm]
 have HAZ := Lib.hid (And.intro (HA.out.moved hwz) (HC0.out.trans (Ch.of hwz)))
 clear hwz
 go_wp2_with fail
 refine (HT.out _ HAZ.out.1).mono ?_
 rintro x w1 ⟨rfl, hch⟩
 have HF := Lib.hid (HAZ.out.2.trans hch)
 clear hch
 go_wp2_with fail
 exact ⟨rfl, rfl, HF.out⟩
end Go.Proofs.YtfkmajjgkdjncaaGreatDoor
