/- Merged. -/
import Derived.Test.YtfkmajjgkdjncaaGreatDoorPaAltB
import Derived.Test.YtfkmajjgkdjncaaGreatDoorPxSrc
set_option linter.unusedVariables false
set_option linter.unusedSimpArgs false
set_option maxHeartbeats 1000000
namespace Go.Proofs.YtfkmajjgkdjncaaGreatDoor
open Go.RowKit De Wd
def RP (R : Px.Rs) (p : Nat) (s : ByteArray) (L : Its) (d : Nat) (v : Value) (w : World) (x : Ending) (w' : World) : Prop :=
 match R with
 | .ok e k' => ReP w w' e x ∧ Ch w w' p ∧ XI w' p s L k' d v
 | .bad c z => x = pflt c z ∧ Ch w w' p
theorem RP.ofOk {R : Px.Rs} {p k' d : Nat} {s : ByteArray} {L : Its} {v : Value} {e : RE} {w w' : World} {x : Ending} (hR : R = .ok e k') (h : ReP w w' e x ∧ Ch w w' p ∧ XI w' p s L k' d v) : RP R p s L d v w x w' := by rw [hR]; exact h
theorem RP.ofBad {R : Px.Rs} {p d z : Nat} {c : Int} {s : ByteArray} {L : Its} {v : Value} {w w' : World} (hR : R = .bad c z) (h : Ch w w' p) : RP R p s L d v w (pflt c z) w' := by rw [hR]; exact ⟨rfl, h⟩
theorem paRunes_bad (p k d a b z : Nat) (s : ByteArray) (L : Its) (v : Value) (w : World) (h : XI w p s L k d v) (hab : a ≤ b) (hb : b ≤ s.size) (hsz : b - a ≤ 100000) (hc : clS s a b = .bad z) (hz : a + z ≤ 1000000) :
 Calls Tryz.prog 175 #[.pointer (some ⟨p, 0, none⟩), .int .i64 a, .int .i64 b] w fun e w' => e = pflt 3 ((a + z : Nat) : Int) ∧ Below w.heap.size w w' := by
 obtain ⟨⟨c0, c1, c2, c3⟩, f0, f1, f2, f3⟩ := cells4_of h.hh
 have hx : (s.extract a b).size ≤ 100000 := by rw [ByteArray.size_extract]; omega
 have hcl := fun w => classF_any (s.extract a b) w hx (sc_all _ 0 _ (Nat.le_refl _) (sb_u8 _))
 have HC := Lib.hid hc
 have HCL := Lib.hid hcl
 have i1 : (0 : Int) ≤ (a : Int) := by omega
 have i2 : (a : Int) ≤ (b : Int) := by omega
 have i3 : (b : Int) ≤ (s.size : Int) := by omega
 have i4 : (a : Int) ≤ 1000000 := by omega
 have i5 : (0 : Int) ≤ (z : Int) := by omega
 have i6 : (z : Int) ≤ 1000000 := by omega
 have EQ := Lib.hid (show (a : Int) + (z : Int) = ((a + z : Nat) : Int) by omega)
 clear h hc hcl
 go_enter Tryz.func175, Tryz.ntmps175
 go_wp2_with fail
 refine (HCL.out _).mono ?_
 rintro e w1 hpost
 unfold ClsPostF at hpost
 have e1 : clsF (all 0 (sb (s.extract a b))) (s.extract a b).size = .bad z := HC.out
 rw [e1] at hpost
 obtain ⟨rfl, hbel⟩ := hpost
 have HO := Lib.hid hbel
 clear hbel e1
 go_wp2_with fail
 refine ⟨rfl, ?_, HO.out⟩
 rw [← EQ.out]
end Go.Proofs.YtfkmajjgkdjncaaGreatDoor

set_option maxHeartbeats 4000000
set_option maxRecDepth 100000
namespace Go.Proofs.YtfkmajjgkdjncaaGreatDoor
open Go.RowKit De Wd
theorem pxEscTo_inv {L : Its} {k j : Nat} (h : Px.EscTo L k j) : (pk L k ≠ 117 ∧ j = min (k + 1) L.length) ∨ (pk L k = 117 ∧ ∃ j0, Pm.ScanB L (k + 1) j0 ∧ j = min (j0 + 1) L.length) := by
 cases h with
 | one h => exact .inl ⟨h, rfl⟩
 | num h s => exact .inr ⟨h, _, s, rfl⟩
theorem scanB_le2 {L : Its} {k j : Nat} (h : Pm.ScanB L k j) : k ≤ j := by
 induction h with
 | stop _ => omega
 | go _ _ _ ih => omega
def PE (L : Its) (lg : Bool) (k j : Nat) : Prop := match lg with
 | true => ∃ j0, Pm.ScanB L k j0 ∧ j = min (j0 + 1) L.length
 | false => j = min (k + 1) L.length
theorem paEscape_full (p k d a j : Nat) (s : ByteArray) (L : Its) (v : Value) (w : World) (h : XI w p s L k d v) (hs : Px.EscTo L k j)
 (hab : a ≤ plc L s.size j) (hb : plc L s.size j ≤ s.size) (hsz : plc L s.size j - a ≤ 100000) (hc : ∀ z, clS s a (plc L s.size j) = .bad z → a + z ≤ 1000000) :
 Calls Tryz.prog 156 #[.pointer (some ⟨p, 0, none⟩), .int .i64 a] w (RP (Px.escR L s.size (clS s) a j) p s L d v w) := by
 have hsm := h.small
 have hle := h.le
 have hplt := h.lt
 obtain ⟨ov, cv, hv, _⟩ := h.row
 have hA := h.moved (bel_new (Below.refl _ _) (.cells #[.int .i64 0, .slice none 0 0, .slice none 0 0] 35))
 obtain ⟨W0, hW0⟩ : ∃ W0, W0 = w.alloc (.cells #[.int .i64 0, .slice none 0 0, .slice none 0 0] 35) := ⟨_, rfl⟩
 have hr0 : W0.heap[w.heap.size]? = some (.cells #[.int .i64 0, .slice none 0 0, .slice none 0 0] 35 (0, 0)) := by rw [hW0]; exact heap_alloc_new w _
 have hsW : W0.heap.size = w.heap.size + 1 := by rw [hW0]; simp
 have hcW : Ch w W0 p := by rw [hW0]; exact Ch.of (bel_new (Below.refl _ _) _)
 rw [← hW0] at hA
 have HX := Lib.hid h
 have HA := Lib.hid (And.intro hA (And.intro hr0 hcW))
 have HS := Lib.hid hs
 have HB := Lib.hid (And.intro hab (And.intro hb (And.intro hsz hc)))
 have HW0 := Lib.hid hW0
 have hle0 := hle
 clear h hs hab hb hsz hc hA hr0 hcW hW0
 subst hv
 obtain ⟨lg, k1, hlg, hk1, hS1⟩ : ∃ (lg : Bool) (k1 : Nat), lg = decide (pk L k = 117) ∧ k1 = (if pk L k = 117 then k + 1 else k) ∧ PE L lg k1 j := by
  rcases pxEscTo_inv HS.out with ⟨h, hj⟩ | ⟨h, j0, hs, hj⟩
  · exact ⟨false, k, (decide_eq_false h).symm, (if_neg h).symm, hj⟩
  · exact ⟨true, k + 1, (decide_eq_true h).symm, (if_pos h).symm, j0, hs, hj⟩
 have HPE := Lib.hid hS1
 have HE := Lib.hid (And.intro hlg hk1)
 clear hS1 hlg hk1
 go_enter Tryz.func156, Tryz.ntmps156
 go_wp2_with fail
 rw [← HW0.out]
 refine (skip_any p k d 117 s L _ _ HA.out.1 (by decide)).mono ?_
 rintro x w1 ⟨rfl, hc1, hx1⟩
 rw [← HE.out.2] at hx1
 rw [← HE.out.1]
 have hk1le := hx1.le
 have HX1 := Lib.hid hx1
 have HC1 := Lib.hid hc1
 clear hx1 hc1
 go_wp2_with fail
 go_loopg [] (L.length - k1) (fun g wx => ∃ ki : Nat, ki + g = L.length ∧ XI wx p s L ki d (.slice ov L.length cv) ∧ Ch W0 wx p ∧ PE L lg ki j)
 case atStart => exact ⟨k1, by omega, HX1.out, HC1.out, HPE.out⟩
 case round =>
  obtain ⟨ki, hkg, hxi, hch, hpe⟩ := hrel
  obtain ⟨⟨c0, c1, c2, c3⟩, f0, f1, f2, f3⟩ := cells4_of hxi.hh
  have hxl := hxi.le
  have HI := Lib.hid (And.intro hxi hch)
  have hki0 : (0 : Int) ≤ (ki : Int) := by omega
  clear hxi hch
  by_cases hkl : ki < L.length
  · have e1 : decide ((ki : Int) < (L.length : Int)) = true := by simp; omega
    have e2 : decide (ki < L.length) = true := by simp; omega
    cases lg with
    | false =>
     have hj : j = ki + 1 := by have h9 : j = min (ki + 1) L.length := hpe; omega
     subst hj
     clear hpe
     go_wp2_with fail
     go_quiet (fail)
     clear c0 c1 c2 c3 f0 f1 f2 f3
     have Hwq := Lib.hid (And.intro (HI.out.1.drewN nq) (HI.out.2.trans (Ch.drewN p nq)))
     obtain ⟨⟨c0, c1, c2, c3⟩, f0, f1, f2, f3⟩ := cells4_of Hwq.out.1.hh
     generalize wr.drewN nq = wq at Hwq c0 c1 c2 c3 f0 f1 f2 f3 ⊢
     go_wp2_with fail
     go_quiet (fail)
     clear c0 c1 c2 c3 f0 f1 f2 f3
     have Hwp := Lib.hid (And.intro (Hwq.out.1.drewN nq) (Hwq.out.2.trans (Ch.drewN p nq)))
     obtain ⟨⟨c0, c1, c2, c3⟩, f0, f1, f2, f3⟩ := cells4_of Hwp.out.1.hh
     generalize wq.drewN nq = wp at Hwp c0 c1 c2 c3 f0 f1 f2 f3 ⊢
     have hx8 : XI (wp.setCell ⟨p, 2, none⟩ (.int .i64 ((ki : Int) + 1))) p s L (ki + 1) d (.slice ov L.length cv) := by
      have h9 := Hwp.out.1.at (k' := ki + 1) (by omega)
      rwa [show ((ki + 1 : Nat) : Int) = (ki : Int) + 1 by omega] at h9
     obtain ⟨W8, hW8⟩ : ∃ W8, W8 = wp.setCell ⟨p, 2, none⟩ (.int .i64 ((ki : Int) + 1)) := ⟨_, rfl⟩
     rw [← hW8] at hx8
     have hc8 : Ch W0 W8 p := by rw [hW8]; exact Hwp.out.2.trans (Ch.set _ _ _ _)
     have H8 := Lib.hid (And.intro hx8 hc8)
     have HW8 := Lib.hid hW8
     clear hx8 hc8 hW8
     go_wp2_with fail
     rw [← HW8.out]
     try rw [show (ki : Int) + 1 = ((ki + 1 : Nat) : Int) by omega]
     refine (paPlace_any p (ki + 1) (ki + 1) d s L _ _ H8.out.1).mono ?_
     rintro x w1 ⟨rfl, hw⟩
     have hw := hw.symm
     subst hw
     go_wp2_with fail
     cases hcl : clS s a (plc L s.size (ki + 1)) with
     | bad z =>
      have HR := Lib.hid (show Px.escR L s.size (clS s) a (ki + 1) = .bad 3 (a + z) by unfold Px.escR; rw [hcl])
      refine (paRunes_bad p (ki + 1) d a (plc L s.size (ki + 1)) z s L _ _ H8.out.1 HB.out.1 HB.out.2.1 HB.out.2.2.1 hcl (HB.out.2.2.2 z hcl)).mono ?_
      rintro x w1 ⟨rfl, hbel⟩
      have HF := Lib.hid (RP.ofBad (v := .slice ov L.length cv) (d := d) (s := s) (L := L) HR.out ((HA.out.2.2.trans H8.out.2).trans (Ch.of hbel)))
      clear hbel
      go_wp2_with fail
      exact ⟨rfl, HF.out⟩
     | ok S =>
      have HR := Lib.hid (show Px.escR L s.size (clS s) a (ki + 1) = .ok (.mk 2 S []) (ki + 1) by unfold Px.escR; rw [hcl])
      refine (paRunes_ok p (ki + 1) d a (plc L s.size (ki + 1)) s L _ S _ H8.out.1 HB.out.1 HB.out.2.1 HB.out.2.2.1 hcl).mono ?_
      rintro x w2 ⟨u, rfl, hown, hbel⟩
      obtain ⟨ou, cu, rfl⟩ := owns_slice hown
      have HO := Lib.hid (And.intro hown hbel)
      clear hown hbel
      go_wp2_with fail
      refine (paset_any ou S.length cu _).mono ?_
      rintro x w3 ⟨rfl, hb3⟩
      have hc13 : Ch W0 w3 p := (H8.out.2.trans (Ch.of HO.out.2)).trans (Ch.of hb3)
      have hr3 : w3.heap[w.heap.size]? = some (.cells #[.int .i64 0, .slice none 0 0, .slice none 0 0] 35 (0, 0)) := (hc13.block _ (by omega) (by omega)).trans HA.out.2.1
      have hkp : KP (fun j => W8.heap.size ≤ j) w3 (fun w2 => ReIs w2 (.mk 2 S []) (.slice ou S.length cu) (.slice none 0 0)) := by
       intro w' hag
       exact pre_set (Row.owned (owns_ag (S := fun j => W8.heap.size ≤ j) HO.out.1 ((Ag.of hb3).trans hag) (fun j hj => (HO.out.1.lt j hj).1)))
      have hsq : w.heap.size < W8.heap.size := by have := H8.out.2.size; omega
      obtain ⟨⟨d0, d1, d2⟩, g0, g1, g2⟩ := cells3_of' hr3
      have HF := Lib.hid (fin3 HX.out hr3 rfl (HA.out.2.2.trans hc13) ((H8.out.1.moved HO.out.2).moved hb3) hkp (fun j hj => by omega))
      clear hc13 hr3 hkp hb3
      go_wp2_with fail
      obtain ⟨W9, hW, ⟨⟨e0, e1, e2⟩, m0, m1, m2⟩, hre, hc9, hx9⟩ := HF.out
      have HW := Lib.hid hW
      clear hW HF
      rw [show (.int .i64 2 : Value) = .int .i64 (RE.mk 2 S []).kind from rfl, ← HW.out]
      refine bodyPost_ret (v := .agg #[.int .i64 2, .slice ou S.length cu, .slice none 0 0]) (by simp [results, Tryz.results156, go_sem, e0, e1, e2, m0, m1, m2, RE.kind]) rfl (RP.ofOk HR.out ⟨hre, hc9, hx9⟩)
    | true =>
     obtain ⟨j0, hsc, hj⟩ := hpe
     rcases ScanB.inv hsc with ⟨rfl, h0⟩ | ⟨h0, hn, hsc2⟩
     · have hj2 : j = ki + 1 := by omega
       subst hj2
       have t1 : (pk L ki != 125) = false := by rw [h0 hkl]; rfl
       clear hsc h0 hj
       go_wp2_with fail
       go_quiet ((go_at_call 112; exact Calls.quiet_of_same (runeAt_any p ki ki d s L _ _ (HI.out.1.drewN _))))
       clear c0 c1 c2 c3 f0 f1 f2 f3
       have Hwq := Lib.hid (And.intro (HI.out.1.drewN nq) (HI.out.2.trans (Ch.drewN p nq)))
       obtain ⟨⟨c0, c1, c2, c3⟩, f0, f1, f2, f3⟩ := cells4_of Hwq.out.1.hh
       generalize wr.drewN nq = wq at Hwq c0 c1 c2 c3 f0 f1 f2 f3 ⊢
       go_wp2_with fail
       go_quiet (fail)
       clear c0 c1 c2 c3 f0 f1 f2 f3
       have Hwp := Lib.hid (And.intro (Hwq.out.1.drewN nq) (Hwq.out.2.trans (Ch.drewN p nq)))
       obtain ⟨⟨c0, c1, c2, c3⟩, f0, f1, f2, f3⟩ := cells4_of Hwp.out.1.hh
       generalize wq.drewN nq = wp at Hwp c0 c1 c2 c3 f0 f1 f2 f3 ⊢
       have hx8 : XI (wp.setCell ⟨p, 2, none⟩ (.int .i64 ((ki : Int) + 1))) p s L (ki + 1) d (.slice ov L.length cv) := by
        have h9 := Hwp.out.1.at (k' := ki + 1) (by omega)
        rwa [show ((ki + 1 : Nat) : Int) = (ki : Int) + 1 by omega] at h9
       obtain ⟨W8, hW8⟩ : ∃ W8, W8 = wp.setCell ⟨p, 2, none⟩ (.int .i64 ((ki : Int) + 1)) := ⟨_, rfl⟩
       rw [← hW8] at hx8
       have hc8 : Ch W0 W8 p := by rw [hW8]; exact Hwp.out.2.trans (Ch.set _ _ _ _)
       have H8 := Lib.hid (And.intro hx8 hc8)
       have HW8 := Lib.hid hW8
       clear hx8 hc8 hW8
       go_wp2_with fail
       rw [← HW8.out]
       try rw [show (ki : Int) + 1 = ((ki + 1 : Nat) : Int) by omega]
       refine (paPlace_any p (ki + 1) (ki + 1) d s L _ _ H8.out.1).mono ?_
       rintro x w1 ⟨rfl, hw⟩
       have hw := hw.symm
       subst hw
       go_wp2_with fail
       cases hcl : clS s a (plc L s.size (ki + 1)) with
       | bad z =>
        have HR := Lib.hid (show Px.escR L s.size (clS s) a (ki + 1) = .bad 3 (a + z) by unfold Px.escR; rw [hcl])
        refine (paRunes_bad p (ki + 1) d a (plc L s.size (ki + 1)) z s L _ _ H8.out.1 HB.out.1 HB.out.2.1 HB.out.2.2.1 hcl (HB.out.2.2.2 z hcl)).mono ?_
        rintro x w1 ⟨rfl, hbel⟩
        have HF := Lib.hid (RP.ofBad (v := .slice ov L.length cv) (d := d) (s := s) (L := L) HR.out ((HA.out.2.2.trans H8.out.2).trans (Ch.of hbel)))
        clear hbel
        go_wp2_with fail
        exact ⟨rfl, HF.out⟩
       | ok S =>
        have HR := Lib.hid (show Px.escR L s.size (clS s) a (ki + 1) = .ok (.mk 2 S []) (ki + 1) by unfold Px.escR; rw [hcl])
        refine (paRunes_ok p (ki + 1) d a (plc L s.size (ki + 1)) s L _ S _ H8.out.1 HB.out.1 HB.out.2.1 HB.out.2.2.1 hcl).mono ?_
        rintro x w2 ⟨u, rfl, hown, hbel⟩
        obtain ⟨ou, cu, rfl⟩ := owns_slice hown
        have HO := Lib.hid (And.intro hown hbel)
        clear hown hbel
        go_wp2_with fail
        refine (paset_any ou S.length cu _).mono ?_
        rintro x w3 ⟨rfl, hb3⟩
        have hc13 : Ch W0 w3 p := (H8.out.2.trans (Ch.of HO.out.2)).trans (Ch.of hb3)
        have hr3 : w3.heap[w.heap.size]? = some (.cells #[.int .i64 0, .slice none 0 0, .slice none 0 0] 35 (0, 0)) := (hc13.block _ (by omega) (by omega)).trans HA.out.2.1
        have hkp : KP (fun j => W8.heap.size ≤ j) w3 (fun w2 => ReIs w2 (.mk 2 S []) (.slice ou S.length cu) (.slice none 0 0)) := by
         intro w' hag
         exact pre_set (Row.owned (owns_ag (S := fun j => W8.heap.size ≤ j) HO.out.1 ((Ag.of hb3).trans hag) (fun j hj => (HO.out.1.lt j hj).1)))
        have hsq : w.heap.size < W8.heap.size := by have := H8.out.2.size; omega
        obtain ⟨⟨d0, d1, d2⟩, g0, g1, g2⟩ := cells3_of' hr3
        have HF := Lib.hid (fin3 HX.out hr3 rfl (HA.out.2.2.trans hc13) ((H8.out.1.moved HO.out.2).moved hb3) hkp (fun j hj => by omega))
        clear hc13 hr3 hkp hb3
        go_wp2_with fail
        obtain ⟨W9, hW, ⟨⟨e0, e1, e2⟩, m0, m1, m2⟩, hre, hc9, hx9⟩ := HF.out
        have HW := Lib.hid hW
        clear hW HF
        rw [show (.int .i64 2 : Value) = .int .i64 (RE.mk 2 S []).kind from rfl, ← HW.out]
        refine bodyPost_ret (v := .agg #[.int .i64 2, .slice ou S.length cu, .slice none 0 0]) (by simp [results, Tryz.results156, go_sem, e0, e1, e2, m0, m1, m2, RE.kind]) rfl (RP.ofOk HR.out ⟨hre, hc9, hx9⟩)
     · have t1 : (pk L ki != 125) = true := by simpa using hn
       have HSC := Lib.hid (show PE L true (ki + 1) j from ⟨j0, hsc2, hj⟩)
       clear hsc hsc2 hn hj
       go_wp2_with fail
       go_quiet ((go_at_call 112; exact Calls.quiet_of_same (runeAt_any p ki ki d s L _ _ (HI.out.1.drewN _))))
       clear c0 c1 c2 c3 f0 f1 f2 f3
       have Hwq := Lib.hid (And.intro (HI.out.1.drewN nq) (HI.out.2.trans (Ch.drewN p nq)))
       obtain ⟨⟨c0, c1, c2, c3⟩, f0, f1, f2, f3⟩ := cells4_of Hwq.out.1.hh
       generalize wr.drewN nq = wq at Hwq c0 c1 c2 c3 f0 f1 f2 f3 ⊢
       go_wp2_with fail
       have ea : (ki : Int) + 1 = ((ki + 1 : Nat) : Int) := by omega
       try simp only [ea]
       clear ea
       go_roundg (L.length - (ki + 1))
       case measure => omega
       case rel => exact ⟨ki + 1, by omega, Hwq.out.1.at (by omega), Hwq.out.2.trans (Ch.set _ _ _ _), HSC.out⟩
  · have e1 : decide ((ki : Int) < (L.length : Int)) = false := by simp; omega
    have e2 : decide (ki < L.length) = false := by simp; omega
    have hj : j = ki := by
     cases lg with
     | false => have h9 : j = min (ki + 1) L.length := hpe; omega
     | true =>
      obtain ⟨j0, hsc, hj⟩ := hpe
      have := scanB_le2 hsc
      omega
    subst hj
    clear hpe
    cases lg
    all_goals (
     go_wp2_with fail
     go_quiet (fail)
     clear c0 c1 c2 c3 f0 f1 f2 f3
     have Hwq := Lib.hid (And.intro (HI.out.1.drewN nq) (HI.out.2.trans (Ch.drewN p nq)))
     obtain ⟨⟨c0, c1, c2, c3⟩, f0, f1, f2, f3⟩ := cells4_of Hwq.out.1.hh
     generalize wr.drewN nq = wq at Hwq c0 c1 c2 c3 f0 f1 f2 f3 ⊢
     go_wp2_with fail
     go_quiet (fail)
     clear c0 c1 c2 c3 f0 f1 f2 f3
     have H8 := Lib.hid (And.intro (Hwq.out.1.drewN nq) (Hwq.out.2.trans (Ch.drewN p nq)))
     obtain ⟨⟨c0, c1, c2, c3⟩, f0, f1, f2, f3⟩ := cells4_of H8.out.1.hh
     generalize wq.drewN nq = W8 at H8 c0 c1 c2 c3 f0 f1 f2 f3 ⊢
     go_wp2_with fail
     refine (paPlace_any p j j d s L _ _ H8.out.1).mono ?_
     rintro x w1 ⟨rfl, hw⟩
     have hw := hw.symm
     subst hw
     go_wp2_with fail
     cases hcl : clS s a (plc L s.size j) with
     | bad z =>
      have HR := Lib.hid (show Px.escR L s.size (clS s) a j = .bad 3 (a + z) by unfold Px.escR; rw [hcl])
      refine (paRunes_bad p j d a (plc L s.size j) z s L _ _ H8.out.1 HB.out.1 HB.out.2.1 HB.out.2.2.1 hcl (HB.out.2.2.2 z hcl)).mono ?_
      rintro x w1 ⟨rfl, hbel⟩
      have HF := Lib.hid (RP.ofBad (v := .slice ov L.length cv) (d := d) (s := s) (L := L) HR.out ((HA.out.2.2.trans H8.out.2).trans (Ch.of hbel)))
      clear hbel
      go_wp2_with fail
      exact ⟨rfl, HF.out⟩
     | ok S =>
      have HR := Lib.hid (show Px.escR L s.size (clS s) a j = .ok (.mk 2 S []) j by unfold Px.escR; rw [hcl])
      refine (paRunes_ok p j d a (plc L s.size j) s L _ S _ H8.out.1 HB.out.1 HB.out.2.1 HB.out.2.2.1 hcl).mono ?_
      rintro x w2 ⟨u, rfl, hown, hbel⟩
      obtain ⟨ou, cu, rfl⟩ := owns_slice hown
      have HO := Lib.hid (And.intro hown hbel)
      clear hown hbel
      go_wp2_with fail
      refine (paset_any ou S.length cu _).mono ?_
      rintro x w3 ⟨rfl, hb3⟩
      have hc13 : Ch W0 w3 p := (H8.out.2.trans (Ch.of HO.out.2)).trans (Ch.of hb3)
      have hr3 : w3.heap[w.heap.size]? = some (.cells #[.int .i64 0, .slice none 0 0, .slice none 0 0] 35 (0, 0)) := (hc13.block _ (by omega) (by omega)).trans HA.out.2.1
      have hkp : KP (fun j => W8.heap.size ≤ j) w3 (fun w2 => ReIs w2 (.mk 2 S []) (.slice ou S.length cu) (.slice none 0 0)) := by
       intro w' hag
       exact pre_set (Row.owned (owns_ag (S := fun j => W8.heap.size ≤ j) HO.out.1 ((Ag.of hb3).trans hag) (fun j hj => (HO.out.1.lt j hj).1)))
      have hsq : w.heap.size < W8.heap.size := by have := H8.out.2.size; omega
      obtain ⟨⟨d0, d1, d2⟩, g0, g1, g2⟩ := cells3_of' hr3
      have HF := Lib.hid (fin3 HX.out hr3 rfl (HA.out.2.2.trans hc13) ((H8.out.1.moved HO.out.2).moved hb3) hkp (fun j hj => by omega))
      clear hc13 hr3 hkp hb3
      go_wp2_with fail
      obtain ⟨W9, hW, ⟨⟨e0, e1, e2⟩, m0, m1, m2⟩, hre, hc9, hx9⟩ := HF.out
      have HW := Lib.hid hW
      clear hW HF
      rw [show (.int .i64 2 : Value) = .int .i64 (RE.mk 2 S []).kind from rfl, ← HW.out]
      refine bodyPost_ret (v := .agg #[.int .i64 2, .slice ou S.length cu, .slice none 0 0]) (by simp [results, Tryz.results156, go_sem, e0, e1, e2, m0, m1, m2, RE.kind]) rfl (RP.ofOk HR.out ⟨hre, hc9, hx9⟩))
end Go.Proofs.YtfkmajjgkdjncaaGreatDoor

set_option maxHeartbeats 4000000
set_option maxRecDepth 100000
namespace Go.Proofs.YtfkmajjgkdjncaaGreatDoor
open Go.RowKit De Wd
theorem pxScanC_inv {L : Its} {k j : Nat} (h : Px.ScanC L k j) : (k = j ∧ (k < L.length → pk L k = 93)) ∨ (k + 1 < L.length ∧ pk L k = 92 ∧ Px.ScanC L (k + 2) j) ∨ (k < L.length ∧ pk L k ≠ 93 ∧ (k + 1 < L.length → pk L k ≠ 92) ∧ Px.ScanC L (k + 1) j) := by
 cases h with
 | stop h _ => exact .inl ⟨rfl, h⟩
 | esc h e r => exact .inr (.inl ⟨h, e, r⟩)
 | go h e e2 r => exact .inr (.inr ⟨h, e, e2, r⟩)
theorem paClass_full (p k d a j : Nat) (s : ByteArray) (L : Its) (v : Value) (w : World) (h : XI w p s L k d v) (hs : Px.ScanC L k j)
 (hab : a ≤ plc L s.size j) (hb : plc L s.size j ≤ s.size) (hsz : plc L s.size j - a ≤ 100000) (hc : ∀ z, clS s a (plc L s.size j) = .bad z → a + z ≤ 1000000) :
 Calls Tryz.prog 155 #[.pointer (some ⟨p, 0, none⟩), .int .i64 a] w (RP (Px.clsR L s.size (clS s) a j) p s L d v w) := by
 have hsm := h.small
 have hle := h.le
 have hplt := h.lt
 obtain ⟨ov, cv, hv, _⟩ := h.row
 have hA := h.moved (bel_new (Below.refl _ _) (.cells #[.int .i64 0, .slice none 0 0, .slice none 0 0] 35))
 obtain ⟨W0, hW0⟩ : ∃ W0, W0 = w.alloc (.cells #[.int .i64 0, .slice none 0 0, .slice none 0 0] 35) := ⟨_, rfl⟩
 have hr0 : W0.heap[w.heap.size]? = some (.cells #[.int .i64 0, .slice none 0 0, .slice none 0 0] 35 (0, 0)) := by rw [hW0]; exact heap_alloc_new w _
 have hsW : W0.heap.size = w.heap.size + 1 := by rw [hW0]; simp
 have hcW : Ch w W0 p := by rw [hW0]; exact Ch.of (bel_new (Below.refl _ _) _)
 rw [← hW0] at hA
 have HX := Lib.hid h
 have HA := Lib.hid (And.intro hA (And.intro hr0 hcW))
 have HS := Lib.hid hs
 have HB := Lib.hid (And.intro hab (And.intro hb (And.intro hsz hc)))
 have HW0 := Lib.hid hW0
 clear h hs hab hb hsz hc hA hr0 hcW hW0
 subst hv
 go_enter Tryz.func155, Tryz.ntmps155
 go_wp2_with fail
 rw [← HW0.out]
 go_loopg [] (L.length - k) (fun g wx => ∃ ki : Nat, ki + g = L.length ∧ XI wx p s L ki d (.slice ov L.length cv) ∧ Ch W0 wx p ∧ Px.ScanC L ki j)
 case atStart => exact ⟨k, by omega, HA.out.1, Ch.refl _ _, HS.out⟩
 case round =>
  obtain ⟨ki, hkg, hxi, hch, hsc⟩ := hrel
  obtain ⟨⟨c0, c1, c2, c3⟩, f0, f1, f2, f3⟩ := cells4_of hxi.hh
  have hxi0 := hxi.le
  have HI := Lib.hid hxi
  have HCH := Lib.hid hch
  have hki0 : (0 : Int) ≤ (ki : Int) := by omega
  clear hxi hch
  rcases pxScanC_inv hsc with ⟨rfl, h0⟩ | ⟨h0, h92, hsc2⟩ | ⟨h0, hn93, hn92, hsc2⟩
  · by_cases hkl : ki < L.length
    · have H93 := Lib.hid (h0 hkl)
      have e1 : decide ((ki : Int) < (L.length : Int)) = true := by simp; omega
      have e2 : decide (ki < L.length) = true := by simp; omega
      have t1 : (pk L ki != 93) = false := by rw [H93.out]; rfl
      clear hsc h0
      go_wp2_with fail
      go_quiet ((go_at_call 112; exact Calls.quiet_of_same (runeAt_any p ki ki d s L _ _ (HI.out.drewN _))))
      clear c0 c1 c2 c3 f0 f1 f2 f3
      have Hwq := Lib.hid (And.intro (HI.out.drewN nq) (HCH.out.trans (Ch.drewN p nq)))
      obtain ⟨⟨c0, c1, c2, c3⟩, f0, f1, f2, f3⟩ := cells4_of Hwq.out.1.hh
      generalize wr.drewN nq = wq at Hwq c0 c1 c2 c3 f0 f1 f2 f3 ⊢
      go_wp2_with fail
      refine (paPlace_any p ki ki d s L _ _ Hwq.out.1).mono ?_
      rintro x w1 ⟨rfl, hw⟩
      have hw := hw.symm
      subst hw
      go_wp2_with fail
      cases hcl : clS s a (plc L s.size ki) with
      | bad z =>
       have HR := Lib.hid (show Px.clsR L s.size (clS s) a ki = .bad 3 (a + z) by unfold Px.clsR; rw [hcl])
       refine (paRunes_bad p ki d a (plc L s.size ki) z s L _ _ Hwq.out.1 HB.out.1 HB.out.2.1 HB.out.2.2.1 hcl (HB.out.2.2.2 z hcl)).mono ?_
       rintro x w1 ⟨rfl, hbel⟩
       have HF := Lib.hid (RP.ofBad (v := .slice ov L.length cv) (d := d) (s := s) (L := L) HR.out ((HA.out.2.2.trans Hwq.out.2).trans (Ch.of hbel)))
       clear hbel c0 c1 c2 c3 f0 f1 f2 f3
       go_wp2_with fail
       exact ⟨rfl, HF.out⟩
      | ok S =>
       have HR := Lib.hid (show Px.clsR L s.size (clS s) a ki = .ok (.mk 2 S []) (ki + 1) by unfold Px.clsR; rw [hcl]; exact if_pos H93.out)
       refine (paRunes_ok p ki d a (plc L s.size ki) s L _ S _ Hwq.out.1 HB.out.1 HB.out.2.1 HB.out.2.2.1 hcl).mono ?_
       rintro x w1 ⟨u, rfl, hown, hbel⟩
       have hx1 := Hwq.out.1.moved hbel
       obtain ⟨ou, cu, rfl⟩ := owns_slice hown
       have HO := Lib.hid (And.intro hown hbel)
       clear hown hbel c0 c1 c2 c3 f0 f1 f2 f3
       go_wp2_with fail
       refine (skip_any p ki d 93 s L _ _ hx1 (by decide)).mono ?_
       rintro x w2 ⟨rfl, hc2, hx2⟩
       rw [if_pos H93.out] at hx2
       rw [decide_eq_true H93.out]
       have HX2 := Lib.hid hx2
       have HC2 := Lib.hid hc2
       clear hx1 hx2 hc2
       go_wp2_with fail
       refine (paset_any ou S.length cu _).mono ?_
       rintro x w3 ⟨rfl, hb3⟩
       have hc13 : Ch W0 w3 p := (Hwq.out.2.trans (Ch.of HO.out.2)).trans (HC2.out.trans (Ch.of hb3))
       have hr3 : w3.heap[w.heap.size]? = some (.cells #[.int .i64 0, .slice none 0 0, .slice none 0 0] 35 (0, 0)) := (hc13.block _ (by omega) (by omega)).trans HA.out.2.1
       have hkp : KP (fun j => wq.heap.size ≤ j) w3 (fun w2 => ReIs w2 (.mk 2 S []) (.slice ou S.length cu) (.slice none 0 0)) := by
        intro w' hag
        refine pre_set (Row.owned (owns_ag (S := fun j => wq.heap.size ≤ j) HO.out.1 ((HC2.out.ag.sub (fun j _ hj => ?_)).trans ((Ag.of hb3).trans hag)) (fun j hj => (HO.out.1.lt j hj).1)))
        have := Hwq.out.1.lt; omega
       have hsq : w.heap.size < wq.heap.size := by have := Hwq.out.2.size; omega
       obtain ⟨⟨d0, d1, d2⟩, g0, g1, g2⟩ := cells3_of' hr3
       have HF := Lib.hid (fin3 HX.out hr3 rfl (HA.out.2.2.trans hc13) (HX2.out.moved hb3) hkp (fun j hj => by omega))
       clear hc13 hr3 hkp hb3
       go_wp2_with fail
       obtain ⟨W9, hW, ⟨⟨e0, e1, e2⟩, m0, m1, m2⟩, hre, hc9, hx9⟩ := HF.out
       have HW := Lib.hid hW
       clear hW HF
       rw [show (.int .i64 2 : Value) = .int .i64 (RE.mk 2 S []).kind from rfl, ← HW.out]
       refine bodyPost_ret (v := .agg #[.int .i64 2, .slice ou S.length cu, .slice none 0 0]) (by simp [results, Tryz.results155, go_sem, e0, e1, e2, m0, m1, m2, RE.kind]) rfl (RP.ofOk HR.out ⟨hre, hc9, hx9⟩)
    · have H93 := Lib.hid (show ¬ pk L ki = 93 by rw [pk_end hkl]; decide)
      have e1 : decide ((ki : Int) < (L.length : Int)) = false := by simp; omega
      have e2 : decide (ki < L.length) = false := by simp; omega
      clear hsc h0
      go_wp2_with fail
      go_quiet (fail)
      clear c0 c1 c2 c3 f0 f1 f2 f3
      have Hwq := Lib.hid (And.intro (HI.out.drewN nq) (HCH.out.trans (Ch.drewN p nq)))
      obtain ⟨⟨c0, c1, c2, c3⟩, f0, f1, f2, f3⟩ := cells4_of Hwq.out.1.hh
      generalize wr.drewN nq = wq at Hwq c0 c1 c2 c3 f0 f1 f2 f3 ⊢
      go_wp2_with fail
      refine (paPlace_any p ki ki d s L _ _ Hwq.out.1).mono ?_
      rintro x w1 ⟨rfl, hw⟩
      have hw := hw.symm
      subst hw
      go_wp2_with fail
      cases hcl : clS s a (plc L s.size ki) with
      | bad z =>
       have HR := Lib.hid (show Px.clsR L s.size (clS s) a ki = .bad 3 (a + z) by unfold Px.clsR; rw [hcl])
       refine (paRunes_bad p ki d a (plc L s.size ki) z s L _ _ Hwq.out.1 HB.out.1 HB.out.2.1 HB.out.2.2.1 hcl (HB.out.2.2.2 z hcl)).mono ?_
       rintro x w1 ⟨rfl, hbel⟩
       have HF := Lib.hid (RP.ofBad (v := .slice ov L.length cv) (d := d) (s := s) (L := L) HR.out ((HA.out.2.2.trans Hwq.out.2).trans (Ch.of hbel)))
       clear hbel c0 c1 c2 c3 f0 f1 f2 f3
       go_wp2_with fail
       exact ⟨rfl, HF.out⟩
      | ok S =>
       have HR := Lib.hid (show Px.clsR L s.size (clS s) a ki = .bad 3 (plc L s.size ki) by unfold Px.clsR; rw [hcl]; exact if_neg H93.out)
       refine (paRunes_ok p ki d a (plc L s.size ki) s L _ S _ Hwq.out.1 HB.out.1 HB.out.2.1 HB.out.2.2.1 hcl).mono ?_
       rintro x w1 ⟨u, rfl, hown, hbel⟩
       have hx1 := Hwq.out.1.moved hbel
       obtain ⟨ou, cu, rfl⟩ := owns_slice hown
       have HO := Lib.hid (And.intro hown hbel)
       clear hown hbel c0 c1 c2 c3 f0 f1 f2 f3
       go_wp2_with fail
       refine (skip_any p ki d 93 s L _ _ hx1 (by decide)).mono ?_
       rintro x w2 ⟨rfl, hc2, hx2⟩
       rw [if_neg H93.out] at hx2
       rw [decide_eq_false H93.out]
       have HX2 := Lib.hid hx2
       have HC2 := Lib.hid hc2
       clear hx1 hx2 hc2
       go_wp2_with fail
       refine (pafail_any p ki d s L _ _ HX2.out).mono ?_
       rintro x w3 ⟨rfl, hw3⟩
       have hw3 := hw3.symm
       subst hw3
       have HF := Lib.hid (RP.ofBad (v := .slice ov L.length cv) (d := d) (s := s) (L := L) HR.out (((HA.out.2.2.trans Hwq.out.2).trans (Ch.of HO.out.2)).trans HC2.out))
       go_wp2_with fail
       exact ⟨rfl, HF.out⟩
  · have e1 : decide ((ki : Int) < (L.length : Int)) = true := by simp; omega
    have e2 : decide (ki < L.length) = true := by simp; omega
    have e3 : decide ((ki : Int) + 1 < (L.length : Int)) = true := by simp; omega
    have e4 : decide (ki + 1 < L.length) = true := by simp; omega
    have t1 : (pk L ki != 93) = true := by rw [h92]; rfl
    have t2 : (pk L ki == 92) = true := by rw [h92]; rfl
    have HSC := Lib.hid hsc2
    have hw1 : IntKind.i64.wrap ((ki : Int) + 1) = (ki : Int) + 1 := IntWalk.i64_in _ (by omega)
    clear hsc hsc2 h92
    go_wp2_with fail
    go_quiet ((go_at_call 112; exact Calls.quiet_of_same (runeAt_any p ki ki d s L _ _ (HI.out.drewN _))))
    clear c0 c1 c2 c3 f0 f1 f2 f3
    have Hwq := Lib.hid (And.intro (HI.out.drewN nq) (HCH.out.trans (Ch.drewN p nq)))
    obtain ⟨⟨c0, c1, c2, c3⟩, f0, f1, f2, f3⟩ := cells4_of Hwq.out.1.hh
    generalize wr.drewN nq = wq at Hwq c0 c1 c2 c3 f0 f1 f2 f3 ⊢
    go_wp2_with fail
    go_quiet ((go_at_call 112; exact Calls.quiet_of_same (runeAt_any p ki ki d s L _ _ (Hwq.out.1.drewN _))))
    clear c0 c1 c2 c3 f0 f1 f2 f3
    have Hwp := Lib.hid (And.intro (Hwq.out.1.drewN nq) (Hwq.out.2.trans (Ch.drewN p nq)))
    obtain ⟨⟨c0, c1, c2, c3⟩, f0, f1, f2, f3⟩ := cells4_of Hwp.out.1.hh
    generalize wq.drewN nq = wp at Hwp c0 c1 c2 c3 f0 f1 f2 f3 ⊢
    clear hw1
    go_wp2_with fail
    have ea : (ki : Int) + 1 = ((ki + 1 : Nat) : Int) := by omega
    have eb : (ki : Int) + 1 + 1 = ((ki + 2 : Nat) : Int) := by omega
    try simp only [eb]
    try simp only [ea]
    clear ea eb
    go_roundg (L.length - (ki + 2))
    case measure => omega
    case rel => exact ⟨ki + 2, by omega, (Hwp.out.1.at (k' := ki + 1) (by omega)).at (by omega), (Hwp.out.2.trans (Ch.set _ _ _ _)).trans (Ch.set _ _ _ _), HSC.out⟩
  · by_cases h92 : pk L ki = 92
    · have hk1 : ¬ ki + 1 < L.length := fun h => hn92 h h92
      clear hn92
      have e1 : decide ((ki : Int) < (L.length : Int)) = true := by simp; omega
      have e2 : decide (ki < L.length) = true := by simp; omega
      have t1 : (pk L ki != 93) = true := by simpa using hn93
      have t2 : (pk L ki == 92) = true := by simpa using h92
      have e3 : decide ((ki : Int) + 1 < (L.length : Int)) = false := by simp; omega
      have e4 : decide (ki + 1 < L.length) = false := by simp; omega
      have hw1 : IntKind.i64.wrap ((ki : Int) + 1) = (ki : Int) + 1 := IntWalk.i64_in _ (by omega)
      have HSC := Lib.hid hsc2
      clear hsc hsc2 h92 hn93
      go_wp2_with fail
      go_quiet ((go_at_call 112; exact Calls.quiet_of_same (runeAt_any p ki ki d s L _ _ (HI.out.drewN _))))
      clear c0 c1 c2 c3 f0 f1 f2 f3
      have Hwq := Lib.hid (And.intro (HI.out.drewN nq) (HCH.out.trans (Ch.drewN p nq)))
      obtain ⟨⟨c0, c1, c2, c3⟩, f0, f1, f2, f3⟩ := cells4_of Hwq.out.1.hh
      generalize wr.drewN nq = wq at Hwq c0 c1 c2 c3 f0 f1 f2 f3 ⊢
      go_wp2_with fail
      go_quiet ((go_at_call 112; exact Calls.quiet_of_same (runeAt_any p ki ki d s L _ _ (Hwq.out.1.drewN _))))
      clear c0 c1 c2 c3 f0 f1 f2 f3
      have Hwp := Lib.hid (And.intro (Hwq.out.1.drewN nq) (Hwq.out.2.trans (Ch.drewN p nq)))
      obtain ⟨⟨c0, c1, c2, c3⟩, f0, f1, f2, f3⟩ := cells4_of Hwp.out.1.hh
      generalize wq.drewN nq = wp at Hwp c0 c1 c2 c3 f0 f1 f2 f3 ⊢
      clear hw1
      go_wp2_with fail
      have ea : (ki : Int) + 1 = ((ki + 1 : Nat) : Int) := by omega
      try simp only [ea]
      clear ea
      go_roundg (L.length - (ki + 1))
      case measure => omega
      case rel => exact ⟨ki + 1, by omega, Hwp.out.1.at (by omega), Hwp.out.2.trans (Ch.set _ _ _ _), HSC.out⟩
    · clear hn92
      have hn92 := h92
      clear h92
      have e1 : decide ((ki : Int) < (L.length : Int)) = true := by simp; omega
      have e2 : decide (ki < L.length) = true := by simp; omega
      have t1 : (pk L ki != 93) = true := by simpa using hn93
      have t2 : (pk L ki == 92) = false := by simpa using hn92
      have HSC := Lib.hid hsc2
      clear hsc hsc2 hn92 hn93
      go_wp2_with fail
      go_quiet ((go_at_call 112; exact Calls.quiet_of_same (runeAt_any p ki ki d s L _ _ (HI.out.drewN _))))
      clear c0 c1 c2 c3 f0 f1 f2 f3
      have Hwq := Lib.hid (And.intro (HI.out.drewN nq) (HCH.out.trans (Ch.drewN p nq)))
      obtain ⟨⟨c0, c1, c2, c3⟩, f0, f1, f2, f3⟩ := cells4_of Hwq.out.1.hh
      generalize wr.drewN nq = wq at Hwq c0 c1 c2 c3 f0 f1 f2 f3 ⊢
      go_wp2_with fail
      go_quiet ((go_at_call 112; exact Calls.quiet_of_same (runeAt_any p ki ki d s L _ _ (Hwq.out.1.drewN _))))
      clear c0 c1 c2 c3 f0 f1 f2 f3
      have Hwp := Lib.hid (And.intro (Hwq.out.1.drewN nq) (Hwq.out.2.trans (Ch.drewN p nq)))
      obtain ⟨⟨c0, c1, c2, c3⟩, f0, f1, f2, f3⟩ := cells4_of Hwp.out.1.hh
      generalize wq.drewN nq = wp at Hwp c0 c1 c2 c3 f0 f1 f2 f3 ⊢
      go_wp2_with fail
      have ea : (ki : Int) + 1 = ((ki + 1 : Nat) : Int) := by omega
      try simp only [ea]
      clear ea
      go_roundg (L.length - (ki + 1))
      case measure => omega
      case rel => exact ⟨ki + 1, by omega, Hwp.out.1.at (by omega), Hwp.out.2.trans (Ch.set _ _ _ _), HSC.out⟩
end Go.Proofs.YtfkmajjgkdjncaaGreatDoor

set_option maxHeartbeats 4000000
set_option maxRecDepth 100000
namespace Go.Proofs.YtfkmajjgkdjncaaGreatDoor
open Go.RowKit De Wd
theorem paAtom_parB (p k d z : Nat) (c : Int) (s : ByteArray) (L : Its) (v : Value) (w : World) (h : XI w p s L k d v) (hrn : pk L k = 40) (hat : ∀ w, XI w p s L (k + 1) d v → Calls Tryz.prog 154 #[.pointer (some ⟨p, 0, none⟩), .int .i64 ((plc L s.size k : Nat) : Int)] w fun x w' => x = pflt c z ∧ Ch w w' p) :
 Calls Tryz.prog 139 #[.pointer (some ⟨p, 0, none⟩)] w fun x w' => x = pflt c z ∧ Ch w w' p := by
 have hplt := h.lt
 have hA := h.moved (bel_new (Below.refl _ _) (.cells #[.int .i64 0, .slice none 0 0, .slice none 0 0] 35))
 obtain ⟨W0, hW0⟩ : ∃ W0, W0 = w.alloc (.cells #[.int .i64 0, .slice none 0 0, .slice none 0 0] 35) := ⟨_, rfl⟩
 have hr0 : W0.heap[w.heap.size]? = some (.cells #[.int .i64 0, .slice none 0 0, .slice none 0 0] 35 (0, 0)) := by rw [hW0]; exact heap_alloc_new w _
 have hsW : W0.heap.size = w.heap.size + 1 := by rw [hW0]; simp
 have hcW : Ch w W0 p := by rw [hW0]; exact Ch.of (bel_new (Below.refl _ _) _)
 rw [← hW0] at hA
 obtain ⟨⟨c0, c1, c2, c3⟩, f0, f1, f2, f3⟩ := cells4_of hA.hh
 have hkl := pk_in' hrn (by decide)
 have hx1 : XI (W0.setCell ⟨p, 2, none⟩ (.int .i64 ((k : Int) + 1))) p s L (k + 1) d v := by
  have h9 := hA.at (k' := k + 1) (by omega)
  rwa [show ((k + 1 : Nat) : Int) = (k : Int) + 1 by omega] at h9
 obtain ⟨W1, hW1⟩ : ∃ W1, W1 = W0.setCell ⟨p, 2, none⟩ (.int .i64 ((k : Int) + 1)) := ⟨_, rfl⟩
 rw [← hW1] at hx1
 have hc1 : Ch W0 W1 p := by rw [hW1]; exact Ch.set _ _ _ _
 have hs1 : W1.heap.size = w.heap.size + 1 := by rw [hW1, ← hsW]; simp [World.setCell]
 have HX := Lib.hid h
 have HA := Lib.hid (And.intro hA (And.intro hr0 hcW))
 have H1 := Lib.hid (And.intro hx1 hc1)
 have HT := Lib.hid hat
 have HW0 := Lib.hid hW0
 have HW1 := Lib.hid hW1
 have hk0 : (0 : Int) ≤ (k : Int) := by omega
 have hsm := h.small
 have t40 : (pk L k == 40) = true := by rw [hrn]; rfl
 clear h hA hat hW0 hW1 hr0 hcW hx1 hc1 hrn
 go_enter Tryz.func139, Tryz.ntmps139
 go_wp2_with (with_reducible rw [← HW0.out])
 refine (paPlace_any p k k d s L _ _ HA.out.1).mono ?_
 rintro x w1 ⟨rfl, hw⟩
 have hw := hw.symm
 subst hw
 go_wp2_with fail
 refine (runeAt_any p k k d s L _ _ HA.out.1).mono ?_
 rintro x w1 ⟨rfl, hw⟩
 have hw := hw.symm
 subst hw
 go_wp2_with fail
 rw [← HW1.out]
 refine (HT.out _ H1.out.1).mono ?_
 rintro x w2 ⟨rfl, hch⟩
 have HF := Lib.hid ((HA.out.2.2.trans H1.out.2).trans hch)
 clear hch c0 c1 c2 c3 f0 f1 f2 f3
 go_wp2_with fail
 exact ⟨rfl, rfl, HF.out⟩
theorem paAtom_clsB (p k d z : Nat) (c : Int) (s : ByteArray) (L : Its) (v : Value) (w : World) (h : XI w p s L k d v) (hrn : pk L k = 91) (hat : ∀ w, XI w p s L (k + 1) d v → Calls Tryz.prog 155 #[.pointer (some ⟨p, 0, none⟩), .int .i64 (((plc L s.size k : Nat) : Int) + 1)] w fun x w' => x = pflt c z ∧ Ch w w' p) (hpl : plc L s.size k ≤ 1000000) :
 Calls Tryz.prog 139 #[.pointer (some ⟨p, 0, none⟩)] w fun x w' => x = pflt c z ∧ Ch w w' p := by
 have hplt := h.lt
 have hA := h.moved (bel_new (Below.refl _ _) (.cells #[.int .i64 0, .slice none 0 0, .slice none 0 0] 35))
 obtain ⟨W0, hW0⟩ : ∃ W0, W0 = w.alloc (.cells #[.int .i64 0, .slice none 0 0, .slice none 0 0] 35) := ⟨_, rfl⟩
 have hr0 : W0.heap[w.heap.size]? = some (.cells #[.int .i64 0, .slice none 0 0, .slice none 0 0] 35 (0, 0)) := by rw [hW0]; exact heap_alloc_new w _
 have hsW : W0.heap.size = w.heap.size + 1 := by rw [hW0]; simp
 have hcW : Ch w W0 p := by rw [hW0]; exact Ch.of (bel_new (Below.refl _ _) _)
 rw [← hW0] at hA
 obtain ⟨⟨c0, c1, c2, c3⟩, f0, f1, f2, f3⟩ := cells4_of hA.hh
 have hkl := pk_in' hrn (by decide)
 have hx1 : XI (W0.setCell ⟨p, 2, none⟩ (.int .i64 ((k : Int) + 1))) p s L (k + 1) d v := by
  have h9 := hA.at (k' := k + 1) (by omega)
  rwa [show ((k + 1 : Nat) : Int) = (k : Int) + 1 by omega] at h9
 obtain ⟨W1, hW1⟩ : ∃ W1, W1 = W0.setCell ⟨p, 2, none⟩ (.int .i64 ((k : Int) + 1)) := ⟨_, rfl⟩
 rw [← hW1] at hx1
 have hc1 : Ch W0 W1 p := by rw [hW1]; exact Ch.set _ _ _ _
 have hs1 : W1.heap.size = w.heap.size + 1 := by rw [hW1, ← hsW]; simp [World.setCell]
 have HX := Lib.hid h
 have HA := Lib.hid (And.intro hA (And.intro hr0 hcW))
 have H1 := Lib.hid (And.intro hx1 hc1)
 have HT := Lib.hid hat
 have HW0 := Lib.hid hW0
 have HW1 := Lib.hid hW1
 have hk0 : (0 : Int) ≤ (k : Int) := by omega
 have hsm := h.small
 have t40 : (pk L k == 40) = false := by rw [hrn]; rfl
 have t91 : (pk L k == 91) = true := by rw [hrn]; rfl
 have hpi : (0 : Int) ≤ ((plc L s.size k : Nat) : Int) := by omega
 have hpj : ((plc L s.size k : Nat) : Int) ≤ 1000000 := by omega
 clear h hA hat hW0 hW1 hr0 hcW hx1 hc1 hrn
 go_enter Tryz.func139, Tryz.ntmps139
 go_wp2_with (with_reducible rw [← HW0.out])
 refine (paPlace_any p k k d s L _ _ HA.out.1).mono ?_
 rintro x w1 ⟨rfl, hw⟩
 have hw := hw.symm
 subst hw
 go_wp2_with fail
 refine (runeAt_any p k k d s L _ _ HA.out.1).mono ?_
 rintro x w1 ⟨rfl, hw⟩
 have hw := hw.symm
 subst hw
 go_wp2_with fail
 rw [← HW1.out]
 refine (HT.out _ H1.out.1).mono ?_
 rintro x w2 ⟨rfl, hch⟩
 have HF := Lib.hid ((HA.out.2.2.trans H1.out.2).trans hch)
 clear hch c0 c1 c2 c3 f0 f1 f2 f3
 go_wp2_with fail
 exact ⟨rfl, rfl, HF.out⟩
theorem paAtom_escB (p k d z : Nat) (c : Int) (s : ByteArray) (L : Its) (v : Value) (w : World) (h : XI w p s L k d v) (hrn : pk L k = 92) (hat : ∀ w, XI w p s L (k + 1) d v → Calls Tryz.prog 156 #[.pointer (some ⟨p, 0, none⟩), .int .i64 ((plc L s.size k : Nat) : Int)] w fun x w' => x = pflt c z ∧ Ch w w' p) :
 Calls Tryz.prog 139 #[.pointer (some ⟨p, 0, none⟩)] w fun x w' => x = pflt c z ∧ Ch w w' p := by
 have hplt := h.lt
 have hA := h.moved (bel_new (Below.refl _ _) (.cells #[.int .i64 0, .slice none 0 0, .slice none 0 0] 35))
 obtain ⟨W0, hW0⟩ : ∃ W0, W0 = w.alloc (.cells #[.int .i64 0, .slice none 0 0, .slice none 0 0] 35) := ⟨_, rfl⟩
 have hr0 : W0.heap[w.heap.size]? = some (.cells #[.int .i64 0, .slice none 0 0, .slice none 0 0] 35 (0, 0)) := by rw [hW0]; exact heap_alloc_new w _
 have hsW : W0.heap.size = w.heap.size + 1 := by rw [hW0]; simp
 have hcW : Ch w W0 p := by rw [hW0]; exact Ch.of (bel_new (Below.refl _ _) _)
 rw [← hW0] at hA
 obtain ⟨⟨c0, c1, c2, c3⟩, f0, f1, f2, f3⟩ := cells4_of hA.hh
 have hkl := pk_in' hrn (by decide)
 have hx1 : XI (W0.setCell ⟨p, 2, none⟩ (.int .i64 ((k : Int) + 1))) p s L (k + 1) d v := by
  have h9 := hA.at (k' := k + 1) (by omega)
  rwa [show ((k + 1 : Nat) : Int) = (k : Int) + 1 by omega] at h9
 obtain ⟨W1, hW1⟩ : ∃ W1, W1 = W0.setCell ⟨p, 2, none⟩ (.int .i64 ((k : Int) + 1)) := ⟨_, rfl⟩
 rw [← hW1] at hx1
 have hc1 : Ch W0 W1 p := by rw [hW1]; exact Ch.set _ _ _ _
 have hs1 : W1.heap.size = w.heap.size + 1 := by rw [hW1, ← hsW]; simp [World.setCell]
 have HX := Lib.hid h
 have HA := Lib.hid (And.intro hA (And.intro hr0 hcW))
 have H1 := Lib.hid (And.intro hx1 hc1)
 have HT := Lib.hid hat
 have HW0 := Lib.hid hW0
 have HW1 := Lib.hid hW1
 have hk0 : (0 : Int) ≤ (k : Int) := by omega
 have hsm := h.small
 have t40 : (pk L k == 40) = false := by rw [hrn]; rfl
 have t91 : (pk L k == 91) = false := by rw [hrn]; rfl
 have t92 : (pk L k == 92) = true := by rw [hrn]; rfl
 clear h hA hat hW0 hW1 hr0 hcW hx1 hc1 hrn
 go_enter Tryz.func139, Tryz.ntmps139
 go_wp2_with (with_reducible rw [← HW0.out])
 refine (paPlace_any p k k d s L _ _ HA.out.1).mono ?_
 rintro x w1 ⟨rfl, hw⟩
 have hw := hw.symm
 subst hw
 go_wp2_with fail
 refine (runeAt_any p k k d s L _ _ HA.out.1).mono ?_
 rintro x w1 ⟨rfl, hw⟩
 have hw := hw.symm
 subst hw
 go_wp2_with fail
 rw [← HW1.out]
 refine (HT.out _ H1.out.1).mono ?_
 rintro x w2 ⟨rfl, hch⟩
 have HF := Lib.hid ((HA.out.2.2.trans H1.out.2).trans hch)
 clear hch c0 c1 c2 c3 f0 f1 f2 f3
 go_wp2_with fail
 exact ⟨rfl, rfl, HF.out⟩
end Go.Proofs.YtfkmajjgkdjncaaGreatDoor

set_option maxHeartbeats 4000000
set_option maxRecDepth 100000
namespace Go.Proofs.YtfkmajjgkdjncaaGreatDoor
open Go.RowKit De Wd
theorem paParens_in (p k d a z : Nat) (c : Int) (s : ByteArray) (L : Its) (v : Value) (w : World) (h : XI w p s L k d v) (hd : d < 40)
 (hat : ∀ w, XI w p s L k (d + 1) v → Calls Tryz.prog 30 #[.pointer (some ⟨p, 0, none⟩)] w fun x w' => x = pflt c z ∧ Ch w w' p) :
 Calls Tryz.prog 154 #[.pointer (some ⟨p, 0, none⟩), .int .i64 a] w fun x w' => x = pflt c z ∧ Ch w w' p := by
 have hplt := h.lt
 have hA := h.moved (bel_new (Below.refl _ _) (.cells #[.int .i64 0, .slice none 0 0, .slice none 0 0] 35))
 obtain ⟨W0, hW0⟩ : ∃ W0, W0 = w.alloc (.cells #[.int .i64 0, .slice none 0 0, .slice none 0 0] 35) := ⟨_, rfl⟩
 have hr0 : W0.heap[w.heap.size]? = some (.cells #[.int .i64 0, .slice none 0 0, .slice none 0 0] 35 (0, 0)) := by rw [hW0]; exact heap_alloc_new w _
 have hsW : W0.heap.size = w.heap.size + 1 := by rw [hW0]; simp
 have hcW : Ch w W0 p := by rw [hW0]; exact Ch.of (bel_new (Below.refl _ _) _)
 rw [← hW0] at hA
 obtain ⟨⟨c0, c1, c2, c3⟩, f0, f1, f2, f3⟩ := cells4_of hA.hh
 have hx1 : XI (W0.setCell ⟨p, 3, none⟩ (.int .i64 ((d : Int) + 1))) p s L k (d + 1) v := by
  have h9 := hA.deep (d' := d + 1)
  rwa [show ((d + 1 : Nat) : Int) = (d : Int) + 1 by omega] at h9
 obtain ⟨W1, hW1⟩ : ∃ W1, W1 = W0.setCell ⟨p, 3, none⟩ (.int .i64 ((d : Int) + 1)) := ⟨_, rfl⟩
 rw [← hW1] at hx1
 have hc1 : Ch W0 W1 p := by rw [hW1]; exact Ch.set _ _ _ _
 have hs1 : W1.heap.size = w.heap.size + 1 := by rw [hW1, ← hsW]; simp [World.setCell]
 have HX := Lib.hid h
 have HA := Lib.hid (And.intro hA (And.intro hr0 hcW))
 have H1 := Lib.hid (And.intro hx1 hc1)
 have HT := Lib.hid hat
 have HW0 := Lib.hid hW0
 have HW1 := Lib.hid hW1
 have t1 : ((d : Int) == 40) = false := by simp; omega
 have t2 : (d == 40) = false := by simp; omega
 have hd0 : (0 : Int) ≤ (d : Int) := by omega
 clear h hA hat hW0 hW1 hr0 hcW hx1 hc1
 go_enter Tryz.func154, Tryz.ntmps154
 go_wp2_with (with_reducible rw [← HW0.out])
 rw [← HW1.out]
 refine (HT.out _ H1.out.1).mono ?_
 rintro x w2 ⟨rfl, hch⟩
 have HF := Lib.hid ((HA.out.2.2.trans H1.out.2).trans hch)
 clear hch c0 c1 c2 c3 f0 f1 f2 f3
 go_wp2_with fail
 exact ⟨rfl, rfl, HF.out⟩
theorem paParens_end (p k d a k1 : Nat) (s : ByteArray) (L : Its) (v : Value) (e : RE) (w : World) (h : XI w p s L k d v) (hd : d < 40) (h41 : pk L k1 ≠ 41)
 (hat : ∀ w, XI w p s L k (d + 1) v → Calls Tryz.prog 30 #[.pointer (some ⟨p, 0, none⟩)] w fun x w' => ReP w w' e x ∧ Ch w w' p ∧ XI w' p s L k1 (d + 1) v) :
 Calls Tryz.prog 154 #[.pointer (some ⟨p, 0, none⟩), .int .i64 a] w fun x w' => x = pflt 3 (plc L s.size k1) ∧ Ch w w' p := by
 have hplt := h.lt
 have hA := h.moved (bel_new (Below.refl _ _) (.cells #[.int .i64 0, .slice none 0 0, .slice none 0 0] 35))
 obtain ⟨W0, hW0⟩ : ∃ W0, W0 = w.alloc (.cells #[.int .i64 0, .slice none 0 0, .slice none 0 0] 35) := ⟨_, rfl⟩
 have hr0 : W0.heap[w.heap.size]? = some (.cells #[.int .i64 0, .slice none 0 0, .slice none 0 0] 35 (0, 0)) := by rw [hW0]; exact heap_alloc_new w _
 have hsW : W0.heap.size = w.heap.size + 1 := by rw [hW0]; simp
 have hcW : Ch w W0 p := by rw [hW0]; exact Ch.of (bel_new (Below.refl _ _) _)
 rw [← hW0] at hA
 obtain ⟨⟨c0, c1, c2, c3⟩, f0, f1, f2, f3⟩ := cells4_of hA.hh
 have hx1 : XI (W0.setCell ⟨p, 3, none⟩ (.int .i64 ((d : Int) + 1))) p s L k (d + 1) v := by
  have h9 := hA.deep (d' := d + 1)
  rwa [show ((d + 1 : Nat) : Int) = (d : Int) + 1 by omega] at h9
 obtain ⟨W1, hW1⟩ : ∃ W1, W1 = W0.setCell ⟨p, 3, none⟩ (.int .i64 ((d : Int) + 1)) := ⟨_, rfl⟩
 rw [← hW1] at hx1
 have hc1 : Ch W0 W1 p := by rw [hW1]; exact Ch.set _ _ _ _
 have hs1 : W1.heap.size = w.heap.size + 1 := by rw [hW1, ← hsW]; simp [World.setCell]
 have HX := Lib.hid h
 have HA := Lib.hid (And.intro hA (And.intro hr0 hcW))
 have H1 := Lib.hid (And.intro hx1 hc1)
 have HT := Lib.hid hat
 have H41 := Lib.hid h41
 have HW0 := Lib.hid hW0
 have HW1 := Lib.hid hW1
 have t1 : ((d : Int) == 40) = false := by simp; omega
 have t2 : (d == 40) = false := by simp; omega
 have hd0 : (0 : Int) ≤ (d : Int) := by omega
 clear h hA hat h41 hW0 hW1 hr0 hcW hx1 hc1
 go_enter Tryz.func154, Tryz.ntmps154
 go_wp2_with (with_reducible rw [← HW0.out])
 rw [← HW1.out]
 refine (HT.out _ H1.out.1).mono ?_
 rintro x w2 ⟨⟨sv, lv, rfl, hkp⟩, hch, hx2⟩
 obtain ⟨⟨o1, q1, rfl⟩, ⟨o2, q2, rfl⟩⟩ := hkp.here.form
 have hr2 := (H1.out.2.trans hch).block _ (show w.heap.size < W0.heap.size by omega) (by omega) |>.trans HA.out.2.1
 have hz2 : w.heap.size < w2.heap.size := lt_of_some hr2
 have hbx : ¬ w2.heap.size = w.heap.size := by omega
 have hx3 := hx2.moved (bel_new (Below.refl _ _) (.cells #[.int .i64 e.kind, .slice o1 e.set.length q1, .slice o2 e.parts.length q2] 35))
 have hb3 := heap_alloc_new w2 (.cells #[.int .i64 e.kind, .slice o1 e.set.length q1, .slice o2 e.parts.length q2] 35)
 have H2 := Lib.hid (And.intro hkp (And.intro hch (And.intro hx3 (And.intro hr2 hb3))))
 clear hkp hch hx2 hx3 hr2 hb3 c0 c1 c2 c3 f0 f1 f2 f3
 go_wp2_with fail
 refine (skip_any p k1 (d + 1) 41 s L _ _ H2.out.2.2.1 (by decide)).mono ?_
 rintro x w4 ⟨rfl, hc4, hx4⟩
 rw [if_neg H41.out] at hx4
 rw [decide_eq_false H41.out]
 have HX4 := Lib.hid hx4
 have HF := Lib.hid (((HA.out.2.2.trans H1.out.2).trans ((H2.out.2.1).trans (Ch.of (bel_new (Below.refl _ _) _)))).trans hc4)
 clear hx4 hc4
 go_wp2_with fail
 refine (pafail_any p k1 (d + 1) s L _ _ HX4.out).mono ?_
 rintro x w5 ⟨rfl, hw5⟩
 have hw5 := hw5.symm
 subst hw5
 go_wp2_with fail
 exact ⟨rfl, rfl, HF.out⟩
theorem paParens_deep (p k d a : Nat) (s : ByteArray) (L : Its) (v : Value) (w : World) (h : XI w p s L k d v) (hd : d = 40) :
 Calls Tryz.prog 154 #[.pointer (some ⟨p, 0, none⟩), .int .i64 a] w fun x w' => x = pflt 7 a ∧ Ch w w' p := by
 have hplt := h.lt
 have hA := h.moved (bel_new (Below.refl _ _) (.cells #[.int .i64 0, .slice none 0 0, .slice none 0 0] 35))
 obtain ⟨W0, hW0⟩ : ∃ W0, W0 = w.alloc (.cells #[.int .i64 0, .slice none 0 0, .slice none 0 0] 35) := ⟨_, rfl⟩
 have hr0 : W0.heap[w.heap.size]? = some (.cells #[.int .i64 0, .slice none 0 0, .slice none 0 0] 35 (0, 0)) := by rw [hW0]; exact heap_alloc_new w _
 have hsW : W0.heap.size = w.heap.size + 1 := by rw [hW0]; simp
 have hcW : Ch w W0 p := by rw [hW0]; exact Ch.of (bel_new (Below.refl _ _) _)
 rw [← hW0] at hA
 obtain ⟨⟨c0, c1, c2, c3⟩, f0, f1, f2, f3⟩ := cells4_of hA.hh
 have HA := Lib.hid (And.intro hA (And.intro hr0 hcW))
 have HW0 := Lib.hid hW0
 have t1 : ((d : Int) == 40) = true := by simp; omega
 have t2 : (d == 40) = true := by simp; omega
 clear h hA hW0 hr0 hcW
 go_enter Tryz.func154, Tryz.ntmps154
 go_wp2_with (with_reducible rw [← HW0.out])
 exact ⟨rfl, rfl, HA.out.2.2⟩
end Go.Proofs.YtfkmajjgkdjncaaGreatDoor

set_option maxHeartbeats 4000000
set_option maxRecDepth 100000
namespace Go.Proofs.YtfkmajjgkdjncaaGreatDoor
open Go.RowKit De Wd
theorem post_bad (p k d z : Nat) (c : Int) (s : ByteArray) (L : Its) (v : Value) (w : World) (h : XI w p s L k d v)
 (hat : ∀ w, XI w p s L k d v → Calls Tryz.prog 139 #[.pointer (some ⟨p, 0, none⟩)] w fun x w' => x = pflt c z ∧ Ch w w' p) :
 Calls Tryz.prog 111 #[.pointer (some ⟨p, 0, none⟩)] w fun x w' => x = pflt c z ∧ Ch w w' p := by
 have hlt := h.lt
 have hA := h.moved (bel_new (Below.refl _ _) (.cells #[.int .i64 0, .slice none 0 0, .slice none 0 0] 35))
 have HX := Lib.hid h
 have HA := Lib.hid hA
 have HT := Lib.hid hat
 clear h hA hat
 go_enter Tryz.func111, Tryz.ntmps111
 go_wp2_with fail
 refine (HT.out _ HA.out).mono ?_
 rintro x w1 ⟨rfl, hch⟩
 have HF := Lib.hid ((Ch.of (bel_new (Below.refl _ _) (.cells #[.int .i64 0, .slice none 0 0, .slice none 0 0] 35))).trans hch)
 clear hch
 go_wp2_with fail
 exact ⟨rfl, rfl, HF.out⟩
end Go.Proofs.YtfkmajjgkdjncaaGreatDoor

namespace Go.Proofs.YtfkmajjgkdjncaaGreatDoor
open Go.RowKit De Wd
def CTR (p : Nat) (s : ByteArray) (L : Its) (f : FuncId) (d k : Nat) (R : Px.Rs) : Prop :=
 ∀ v w, XI w p s L k d v → Calls Tryz.prog f #[.pointer (some ⟨p, 0, none⟩)] w (RP R p s L d v w)
def FB (p : Nat) (s : ByteArray) (L : Its) (f : FuncId) (d k : Nat) (c : Int) (z : Nat) : Prop :=
 ∀ v w, XI w p s L k d v → Calls Tryz.prog f #[.pointer (some ⟨p, 0, none⟩)] w fun x w' => x = pflt c z ∧ Ch w w' p
def Far (k : Nat) : Px.Rs → Prop
 | .ok _ k' => k ≤ k'
 | .bad _ _ => True
def Far1 (k : Nat) : Px.Rs → Prop
 | .ok _ k' => k < k'
 | .bad _ _ => True
theorem pxEsc_le {L : Its} {k j : Nat} (h : Px.EscTo L k j) (hk : k ≤ L.length) : k ≤ j := by
 cases h with
 | one _ => omega
 | num h s => have := scanB_le' s; have := Pm.pk_in h (by decide); omega
def LoA (p : Nat) (s : ByteArray) (L : Its) (d : Nat) (a : RE) (k : Nat) : Px.Rs → Prop
 | .ok e k' => k ≤ k' ∧ AlL L (fun k b k' => k ≤ k' ∧ CT p s L 69 d k b k') a k e k'
 | .bad c z => AlB L (fun k b k' => k ≤ k' ∧ CT p s L 69 d k b k') (fun k c z => FB p s L 69 d k c z) a k c z
def LoS (p : Nat) (s : ByteArray) (L : Its) (d : Nat) (a : RE) (k : Nat) : Px.Rs → Prop
 | .ok e k' => k ≤ k' ∧ SqL L (fun k b k' => k < k' ∧ CT p s L 111 d k b k') a k e k'
 | .bad c z => SqB L (fun k b k' => k < k' ∧ CT p s L 111 d k b k') (fun k c z => FB p s L 111 d k c z) a k c z
theorem poL_le {L : Its} {a e : RE} {k k' : Nat} (h : PoL L a k e k') : k ≤ k' := by
 induction h with
 | stop _ => exact Nat.le_refl _
 | go _ _ ih => omega
theorem clsR_far {L : Its} {n : Nat} {cl : Nat → Nat → Cr} {a j k : Nat} (h : k ≤ j) : Far1 k (Px.clsR L n cl a j) := by
 unfold Px.clsR
 cases cl a (plc L n j) with
 | bad z => trivial
 | ok S =>
  show Far1 k (if pk L j = 93 then _ else _)
  split
  · show k < j + 1; omega
  · trivial
theorem escR_far {L : Its} {n : Nat} {cl : Nat → Nat → Cr} {a j k : Nat} (h : k < j) : Far1 k (Px.escR L n cl a j) := by
 unfold Px.escR
 cases cl a (plc L n j) with
 | bad z => trivial
 | ok S => exact h
theorem paAtom_tot {p k d : Nat} {s : ByteArray} {L : Its} {R : Px.Rs} {arg : Value} (callee : FuncId) (v : Value) (w : World)
 (ok : ∀ e k2, (∀ w, XI w p s L (k + 1) d v → Calls Tryz.prog callee #[.pointer (some ⟨p, 0, none⟩), arg] w fun x w' => ReP w w' e x ∧ Ch w w' p ∧ XI w' p s L k2 d v) → Calls Tryz.prog 139 #[.pointer (some ⟨p, 0, none⟩)] w fun x w' => ReP w w' e x ∧ Ch w w' p ∧ XI w' p s L k2 d v)
 (bad : ∀ (c : Int) (z : Nat), (∀ w, XI w p s L (k + 1) d v → Calls Tryz.prog callee #[.pointer (some ⟨p, 0, none⟩), arg] w fun x w' => x = pflt c z ∧ Ch w w' p) → Calls Tryz.prog 139 #[.pointer (some ⟨p, 0, none⟩)] w fun x w' => x = pflt c z ∧ Ch w w' p)
 (hat : ∀ w, XI w p s L (k + 1) d v → Calls Tryz.prog callee #[.pointer (some ⟨p, 0, none⟩), arg] w (RP R p s L d v w)) :
 Calls Tryz.prog 139 #[.pointer (some ⟨p, 0, none⟩)] w (RP R p s L d v w) := by
 match R, hat with
 | .ok e k2, hat => exact ok e k2 hat
 | .bad c z, hat => exact bad c z hat
def DotC (p : Nat) (s : ByteArray) (L : Its) : Prop := ∀ k d v w, XI w p s L k d v → pk L k = 46 →
 Calls Tryz.prog 139 #[.pointer (some ⟨p, 0, none⟩)] w fun x w' => ReP w w' (.mk 2 (Ru.nt [(10, 10)]) []) x ∧ Ch w w' p ∧ XI w' p s L (k + 1) d v
theorem dotC_none {p : Nat} {s : ByteArray} {L : Its} (h : ∀ k, pk L k ≠ 46) : DotC p s L := fun k _ _ _ _ e => absurd e (h k)
open Px in
theorem reads_tot (p : Nat) (s : ByteArray) (L : Its) (hS : SrcOk s L) (hX : Px.Src L s.size (clS s)) (hD : DotC p s L) : ∀ {d k : Nat} {R : Px.Rs}, Px.Alts L s.size (clS s) d k R → CTR p s L 30 d k R := by
 intro d k R h
 have hcb : ∀ a b, a ≤ b → b ≤ s.size → ∀ z, clS s a b = .bad z → a + z ≤ 1000000 := fun a b h1 h2 z hz => by have := hX.bad a b z h1 h2 hz; have := hS.small; omega
 suffices Far k R ∧ CTR p s L 30 d k R from this.2
 refine Alts.rec
  (motive_1 := fun d k R _ => Far k R ∧ CTR p s L 30 d k R)
  (motive_2 := fun d a k R _ => LoA p s L d a k R)
  (motive_3 := fun d k R _ => Far k R ∧ CTR p s L 69 d k R)
  (motive_4 := fun d a k R _ => LoS p s L d a k R)
  (motive_5 := fun d k R _ => Far1 k R ∧ CTR p s L 111 d k R)
  (motive_6 := fun d k R _ => Far1 k R ∧ CTR p s L 139 d k R) ?_ ?_ ?_ ?_ ?_ ?_ ?_ ?_ ?_ ?_ ?_ ?_ ?_ ?_ ?_ ?_ ?_ ?_ ?_ ?_ ?_ h
 · intro d k k1 a R _ _ ih1 ih2
   match R, ih2 with
   | .ok e k2, ih2 => exact ⟨Nat.le_trans ih1.1 ih2.1, fun v w hx => alts_any p k d k1 k2 s L v a e w hx _ (fun k b k' h => h.1) ih1 ih2.2 (fun w k a k1 hp hx => hp.2 v w hx)⟩
   | .bad c z, ih2 => exact ⟨trivial, fun v w hx => alts_bad p k d k1 z c s L v a w hx _ (fun k b k' h => h.1) ih1 _ ih2 (fun w k a k1 hp hx => hp.2 v w hx) (fun w k c z hp hx => hp v w hx)⟩
 · intro d k z c _ ih
   exact ⟨trivial, fun v w hx => alts_bad0 p k d z c s L v w hx (fun w hx => ih.2 v w hx)⟩
 · intro d k a h
   exact ⟨Nat.le_refl _, .stop h⟩
 · intro d k k1 a b R h _ _ ih1 ih2
   match R, ih2 with
   | .ok e k2, ih2 => exact ⟨by have h1 : k + 1 ≤ k1 := ih1.1
                                have h2 := ih2.1
                                omega, .go h ih1 ih2.2⟩
   | .bad c z, ih2 => exact .go h ih1 ih2
 · intro d k z a c h _ ih
   exact .bad h ih.2
 · intro d k h
   exact ⟨Nat.le_refl _, fun v w hx => paAlt_none p k d s L v w hx hS.sc h⟩
 · intro d k k1 a R h _ _ ih1 ih2
   match R, ih2 with
   | .ok e k2, ih2 => exact ⟨Nat.le_trans (Nat.le_of_lt ih1.1) ih2.1, fun v w hx => alt_any p k d k1 k2 s L v a e w hx hS.sc _ (fun k b k' h => h.1) ih1 ih2.2 h (fun w k a k1 hp hx => hp.2 v w hx)⟩
   | .bad c z, ih2 => exact ⟨trivial, fun v w hx => alt_bad p k d k1 z c s L v a w hx hS.sc _ (fun k b k' h => h.1) ih1 _ ih2 h (fun w k a k1 hp hx => hp.2 v w hx) (fun w k c z hp hx => hp v w hx)⟩
 · intro d k z c h _ ih
   exact ⟨trivial, fun v w hx => alt_bad0 p k d z c s L v w hx hS.sc h (fun w hx => ih.2 v w hx)⟩
 · intro d k a h
   exact ⟨Nat.le_refl _, .stop h⟩
 · intro d k k1 a b R h _ _ ih1 ih2
   match R, ih2 with
   | .ok e k2, ih2 => exact ⟨Nat.le_trans (Nat.le_of_lt ih1.1) ih2.1, .go h ih1 ih2.2⟩
   | .bad c z, ih2 => exact .go h ih1 ih2
 · intro d k z a c h _ ih
   exact .bad h ih.2
 · intro d k k1 k2 a e _ r ih
   exact ⟨Nat.lt_of_lt_of_le ih.1 (poL_le r), fun v w hx => post_any p k d k1 k2 s L v a e w hx r (fun w hx => ih.2 v w hx)⟩
 · intro d k z c _ ih
   exact ⟨trivial, fun v w hx => post_bad p k d z c s L v w hx (fun w hx => ih.2 v w hx)⟩
 · intro d k k1 e h hd _ h2 ih
   exact ⟨by have h1 : k + 1 ≤ k1 := ih.1
             show k < k1 + 1; omega, fun v w hx => paAtom_par p k d (k1 + 1) s L v e w hx h (fun w hx => paParens_ok p (k + 1) d _ k1 s L v e w hx hd h2 (fun w hx => ih.2 v w hx))⟩
 · intro d k h hd
   exact ⟨trivial, fun v w hx => paAtom_parB p k d _ 7 s L v w hx h (fun w hx => paParens_deep p (k + 1) d _ s L v w hx hd)⟩
 · intro d k z c h hd _ ih
   exact ⟨trivial, fun v w hx => paAtom_parB p k d z c s L v w hx h (fun w hx => paParens_in p (k + 1) d _ z c s L v w hx hd (fun w hx => ih.2 v w hx))⟩
 · intro d k k1 e h hd _ h2 ih
   exact ⟨trivial, fun v w hx => paAtom_parB p k d _ 3 s L v w hx h (fun w hx => paParens_end p (k + 1) d _ k1 s L v e w hx hd h2 (fun w hx => ih.2 v w hx))⟩
 · intro d k j R h hsc hR
   subst hR
   have hkl := pk_in' h (by decide)
   have hkj := scanC_le hsc
   have h3 := hS.next k hkl
   have h4 := hS.mono (k + 1) j hkj.1
   have h5 := hS.lim j
   have h6 := hS.small
   refine ⟨clsR_far (by omega), fun v w hx => paAtom_tot 155 v w (fun e k2 hat => paAtom_cls p k d k2 s L v e w hx h hat (by have := hS.lim k; omega)) (fun c z hat => paAtom_clsB p k d z c s L v w hx h hat (by have := hS.lim k; omega)) (fun w hx => ?_)⟩
   exact paClass_full p (k + 1) d (plc L s.size k + 1) j s L v w hx hsc (by omega) h5 (by omega) (hcb _ _ (by omega) h5)
 · intro d k j R h hsc hR
   subst hR
   have hkl := pk_in' h (by decide)
   have hkj := pxEsc_le hsc (by omega)
   have h4 := hS.mono k j (by omega)
   have h5 := hS.lim j
   have h6 := hS.small
   refine ⟨escR_far (by omega), fun v w hx => paAtom_tot 156 v w (fun e k2 hat => paAtom_esc p k d k2 s L v e w hx h hat) (fun c z hat => paAtom_escB p k d z c s L v w hx h hat) (fun w hx => ?_)⟩
   exact paEscape_full p (k + 1) d (plc L s.size k) j s L v w hx hsc h4 h5 (by omega) (hcb _ _ h4 h5)
 · intro d k h
   exact ⟨Nat.lt_succ_self _, fun v w hx => hD k d v w hx h⟩
 · intro d k r h ha
   subst h
   have h9 := ha.2
   simp [Pm.noR] at h9
   exact ⟨Nat.lt_succ_self _, fun v w hx => paAtom_one p k d s L v w hx (by omega) (by omega) (by omega) (by omega) (by omega)⟩
end Go.Proofs.YtfkmajjgkdjncaaGreatDoor
