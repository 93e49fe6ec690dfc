/- Merged. -/
import Derived.Deep.LoopGhost
import Derived.Deep.RegionLaw
import Derived.Test.YtfkmajjgkdjncaaGreatDoorPmRe
import Derived.Test.YtfkmajjgkdjncaaGreatDoorPaRe
set_option linter.unusedVariables false
set_option linter.unusedSimpArgs false
set_option maxHeartbeats 4000000
set_option maxRecDepth 100000
namespace Go.Proofs.YtfkmajjgkdjncaaGreatDoor
open Go.RowKit De Wd
theorem paEscape_ok (p k d a j : Nat) (s : ByteArray) (L : Its) (v : Value) (S : List (Int × Int)) (w : World) (h : XI w p s L k d v) (hu : pk L k = 117) (hs : Pm.ScanB L (k + 1) j) (hj : j < L.length)
 (hab : a ≤ plc L s.size (j + 1)) (hb : plc L s.size (j + 1) ≤ s.size) (hsz : plc L s.size (j + 1) - a ≤ 100000) (hc : clS s a (plc L s.size (j + 1)) = .ok S) :
 Calls Tryz.prog 156 #[.pointer (some ⟨p, 0, none⟩), .int .i64 a] w fun x w' => ReP w w' (.mk 2 S []) x ∧ Ch w w' p ∧ XI w' p s L (j + 1) d v := by
 have hsm := h.small
 have hle := h.le
 have hplt := h.lt
 have hkl := pk_in' hu (by decide)
 obtain ⟨ov, cv, hv, _⟩ := h.row
 have hA := h.moved (bel_new (Below.refl _ _) (.cells #[.int .i64 0, .slice none 0 0, .slice none 0 0] 35))
 obtain ⟨W0, hW0⟩ : ∃ W0, W0 = w.alloc (.cells #[.int .i64 0, .slice none 0 0, .slice none 0 0] 35) := ⟨_, rfl⟩
 have hr0 : W0.heap[w.heap.size]? = some (.cells #[.int .i64 0, .slice none 0 0, .slice none 0 0] 35 (0, 0)) := by rw [hW0]; exact heap_alloc_new w _
 have hsW : W0.heap.size = w.heap.size + 1 := by rw [hW0]; simp
 have hcW : Ch w W0 p := by rw [hW0]; exact Ch.of (bel_new (Below.refl _ _) _)
 rw [← hW0] at hA
 have HX := Lib.hid h
 have HA := Lib.hid (And.intro hA (And.intro hr0 hcW))
 have HS := Lib.hid hs
 have HB := Lib.hid (And.intro hab (And.intro hb (And.intro hsz hc)))
 have HU := Lib.hid hu
 have HW0 := Lib.hid hW0
 clear h hs hab hb hsz hc hu hA hr0 hcW hW0
 subst hv
 go_enter Tryz.func156, Tryz.ntmps156
 go_wp2_with fail
 rw [← HW0.out]
 refine (skip_any p k d 117 s L _ _ HA.out.1 (by decide)).mono ?_
 rintro x w1 ⟨rfl, hc1, hx1⟩
 rw [if_pos HU.out] at hx1
 rw [decide_eq_true HU.out]
 have HX1 := Lib.hid hx1
 have HC1 := Lib.hid hc1
 clear hx1 hc1
 go_wp2_with fail
 go_loopg [] (L.length - (k + 1)) (fun g wx => ∃ ki : Nat, ki + g = L.length ∧ XI wx p s L ki d (.slice ov L.length cv) ∧ Ch W0 wx p ∧ Pm.ScanB L ki j)
 case atStart => exact ⟨k + 1, by omega, HX1.out, HC1.out, HS.out⟩
 case round =>
  obtain ⟨ki, hkg, hxi, hch, hsc⟩ := hrel
  obtain ⟨⟨c0, c1, c2, c3⟩, f0, f1, f2, f3⟩ := cells4_of hxi.hh
  have HI := Lib.hid hxi
  have HCH := Lib.hid hch
  have hki0 : (0 : Int) ≤ (ki : Int) := by omega
  clear hxi hch
  rcases ScanB.inv hsc with ⟨rfl, h0⟩ | ⟨h0, hn, hsc2⟩
  · have e1 : decide ((ki : Int) < (L.length : Int)) = true := by simp; omega
    have e2 : decide (ki < L.length) = true := by simp; omega
    have t1 : (pk L ki != 125) = false := by rw [h0 hj]; rfl
    clear hsc h0
    go_wp2_with fail
    go_quiet ((go_at_call 112; exact Calls.quiet_of_same (runeAt_any p ki ki d s L _ _ (HI.out.drewN _))))
    clear c0 c1 c2 c3 f0 f1 f2 f3
    have Hwq := Lib.hid (And.intro (HI.out.drewN nq) (HCH.out.trans (Ch.drewN p nq)))
    obtain ⟨⟨c0, c1, c2, c3⟩, f0, f1, f2, f3⟩ := cells4_of Hwq.out.1.hh
    generalize wr.drewN nq = wq at Hwq c0 c1 c2 c3 f0 f1 f2 f3 ⊢
    go_wp2_with fail
    go_quiet (fail)
    clear c0 c1 c2 c3 f0 f1 f2 f3
    have Hwp := Lib.hid (And.intro (Hwq.out.1.drewN nq) (Hwq.out.2.trans (Ch.drewN p nq)))
    obtain ⟨⟨c0, c1, c2, c3⟩, f0, f1, f2, f3⟩ := cells4_of Hwp.out.1.hh
    generalize wq.drewN nq = wp at Hwp c0 c1 c2 c3 f0 f1 f2 f3 ⊢
    have hx8 : XI (wp.setCell ⟨p, 2, none⟩ (.int .i64 ((ki : Int) + 1))) p s L (ki + 1) d (.slice ov L.length cv) := by
     have h9 := Hwp.out.1.at (k' := ki + 1) (by omega)
     rwa [show ((ki + 1 : Nat) : Int) = (ki : Int) + 1 by omega] at h9
    obtain ⟨W8, hW8⟩ : ∃ W8, W8 = wp.setCell ⟨p, 2, none⟩ (.int .i64 ((ki : Int) + 1)) := ⟨_, rfl⟩
    rw [← hW8] at hx8
    have hc8 : Ch W0 W8 p := by rw [hW8]; exact Hwp.out.2.trans (Ch.set _ _ _ _)
    have H8 := Lib.hid (And.intro hx8 hc8)
    have HW8 := Lib.hid hW8
    clear hx8 hc8 hW8
    go_wp2_with fail
    rw [← HW8.out]
    have eb : (ki : Int) + 1 = ((ki + 1 : Nat) : Int) := by omega
    rw [eb]
    refine (paPlace_any p (ki + 1) (ki + 1) d s L _ _ H8.out.1).mono ?_
    rintro x w1 ⟨rfl, hw⟩
    have hw := hw.symm
    subst hw
    clear eb
    go_wp2_with fail
    refine (paRunes_ok p (ki + 1) d a (plc L s.size (ki + 1)) s L _ S _ H8.out.1 HB.out.1 HB.out.2.1 HB.out.2.2.1 HB.out.2.2.2).mono ?_
    rintro x w2 ⟨u, rfl, hown, hbel⟩
    obtain ⟨ou, cu, rfl⟩ := owns_slice hown
    have HO := Lib.hid (And.intro hown hbel)
    clear hown hbel
    go_wp2_with fail
    refine (paset_any ou S.length cu _).mono ?_
    rintro x w3 ⟨rfl, hb3⟩
    have hc13 : Ch W0 w3 p := (H8.out.2.trans (Ch.of HO.out.2)).trans (Ch.of hb3)
    have hr3 : w3.heap[w.heap.size]? = some (.cells #[.int .i64 0, .slice none 0 0, .slice none 0 0] 35 (0, 0)) := (hc13.block _ (by omega) (by omega)).trans HA.out.2.1
    have hkp : KP (fun j => W8.heap.size ≤ j) w3 (fun w2 => ReIs w2 (.mk 2 S []) (.slice ou S.length cu) (.slice none 0 0)) := by
     intro w' hag
     exact pre_set (Row.owned (owns_ag (S := fun j => W8.heap.size ≤ j) HO.out.1 ((Ag.of hb3).trans hag) (fun j hj => (HO.out.1.lt j hj).1)))
    have hsq : w.heap.size < W8.heap.size := by have := H8.out.2.size; omega
    obtain ⟨⟨d0, d1, d2⟩, g0, g1, g2⟩ := cells3_of' hr3
    have HF := Lib.hid (fin3 HX.out hr3 rfl (HA.out.2.2.trans hc13) ((H8.out.1.moved HO.out.2).moved hb3) hkp (fun j hj => by omega))
    clear hc13 hr3 hkp hb3
    go_wp2_with fail
    obtain ⟨W9, hW, ⟨⟨e0, e1, e2⟩, m0, m1, m2⟩, hre, hc9, hx9⟩ := HF.out
    have HW := Lib.hid hW
    clear hW HF
    rw [show (.int .i64 2 : Value) = .int .i64 (RE.mk 2 S []).kind from rfl, ← HW.out]
    refine bodyPost_ret (v := .agg #[.int .i64 2, .slice ou S.length cu, .slice none 0 0]) (by simp [results, Tryz.results156, go_sem, e0, e1, e2, m0, m1, m2, RE.kind]) rfl ⟨hre, hc9, hx9⟩
  · have e1 : decide ((ki : Int) < (L.length : Int)) = true := by simp; omega
    have e2 : decide (ki < L.length) = true := by simp; omega
    have t1 : (pk L ki != 125) = true := by simpa using hn
    have HSC := Lib.hid hsc2
    clear hsc hsc2 hn
    go_wp2_with fail
    go_quiet ((go_at_call 112; exact Calls.quiet_of_same (runeAt_any p ki ki d s L _ _ (HI.out.drewN _))))
    clear c0 c1 c2 c3 f0 f1 f2 f3
    have Hwq := Lib.hid (And.intro (HI.out.drewN nq) (HCH.out.trans (Ch.drewN p nq)))
    obtain ⟨⟨c0, c1, c2, c3⟩, f0, f1, f2, f3⟩ := cells4_of Hwq.out.1.hh
    generalize wr.drewN nq = wq at Hwq c0 c1 c2 c3 f0 f1 f2 f3 ⊢
    go_wp2_with fail
    have ea : (ki : Int) + 1 = ((ki + 1 : Nat) : Int) := by omega
    try simp only [ea]
    clear ea
    go_roundg (L.length - (ki + 1))
    case measure => omega
    case rel => exact ⟨ki + 1, by omega, Hwq.out.1.at (by omega), Hwq.out.2.trans (Ch.set _ _ _ _), HSC.out⟩
end Go.Proofs.YtfkmajjgkdjncaaGreatDoor

set_option maxHeartbeats 4000000
set_option maxRecDepth 100000
namespace Go.Proofs.YtfkmajjgkdjncaaGreatDoor
open Go.RowKit De Wd
theorem paAtom_par (p k d k2 : Nat) (s : ByteArray) (L : Its) (v : Value) (e : RE) (w : World) (h : XI w p s L k d v) (hrn : pk L k = 40) (hat : ∀ w, XI w p s L (k + 1) d v → Calls Tryz.prog 154 #[.pointer (some ⟨p, 0, none⟩), .int .i64 ((plc L s.size k : Nat) : Int)] w fun x w' => ReP w w' e x ∧ Ch w w' p ∧ XI w' p s L k2 d v) :
 Calls Tryz.prog 139 #[.pointer (some ⟨p, 0, none⟩)] w fun x w' => ReP w w' e x ∧ Ch w w' p ∧ XI w' p s L k2 d v := by
 have hplt := h.lt
 have hA := h.moved (bel_new (Below.refl _ _) (.cells #[.int .i64 0, .slice none 0 0, .slice none 0 0] 35))
 obtain ⟨W0, hW0⟩ : ∃ W0, W0 = w.alloc (.cells #[.int .i64 0, .slice none 0 0, .slice none 0 0] 35) := ⟨_, rfl⟩
 have hr0 : W0.heap[w.heap.size]? = some (.cells #[.int .i64 0, .slice none 0 0, .slice none 0 0] 35 (0, 0)) := by rw [hW0]; exact heap_alloc_new w _
 have hsW : W0.heap.size = w.heap.size + 1 := by rw [hW0]; simp
 have hcW : Ch w W0 p := by rw [hW0]; exact Ch.of (bel_new (Below.refl _ _) _)
 rw [← hW0] at hA
 obtain ⟨⟨c0, c1, c2, c3⟩, f0, f1, f2, f3⟩ := cells4_of hA.hh
 have hkl := pk_in' hrn (by decide)
 have hx1 : XI (W0.setCell ⟨p, 2, none⟩ (.int .i64 ((k : Int) + 1))) p s L (k + 1) d v := by
  have h9 := hA.at (k' := k + 1) (by omega)
  rwa [show ((k + 1 : Nat) : Int) = (k : Int) + 1 by omega] at h9
 obtain ⟨W1, hW1⟩ : ∃ W1, W1 = W0.setCell ⟨p, 2, none⟩ (.int .i64 ((k : Int) + 1)) := ⟨_, rfl⟩
 rw [← hW1] at hx1
 have hc1 : Ch W0 W1 p := by rw [hW1]; exact Ch.set _ _ _ _
 have hs1 : W1.heap.size = w.heap.size + 1 := by rw [hW1, ← hsW]; simp [World.setCell]
 have HX := Lib.hid h
 have HA := Lib.hid (And.intro hA (And.intro hr0 hcW))
 have H1 := Lib.hid (And.intro hx1 hc1)
 have HT := Lib.hid hat
 have HW0 := Lib.hid hW0
 have HW1 := Lib.hid hW1
 have hk0 : (0 : Int) ≤ (k : Int) := by omega
 have hsm := h.small
 have t40 : (pk L k == 40) = true := by rw [hrn]; rfl
 clear h hA hat hW0 hW1 hr0 hcW hx1 hc1 hrn
 go_enter Tryz.func139, Tryz.ntmps139
 go_wp2_with (with_reducible rw [← HW0.out])
 refine (paPlace_any p k k d s L _ _ HA.out.1).mono ?_
 rintro x w1 ⟨rfl, hw⟩
 have hw := hw.symm
 subst hw
 go_wp2_with fail
 refine (runeAt_any p k k d s L _ _ HA.out.1).mono ?_
 rintro x w1 ⟨rfl, hw⟩
 have hw := hw.symm
 subst hw
 go_wp2_with fail
 rw [← HW1.out]
 refine (HT.out _ H1.out.1).mono ?_
 rintro x w2 ⟨⟨sv, lv, rfl, hkp⟩, hch, hx2⟩
 obtain ⟨⟨o1, q1, rfl⟩, ⟨o2, q2, rfl⟩⟩ := hkp.here.form
 have hr2 := (H1.out.2.trans hch).block _ (show w.heap.size < W0.heap.size by omega) (by omega) |>.trans HA.out.2.1
 obtain ⟨⟨d0, d1, d2⟩, g0, g1, g2⟩ := cells3_of' hr2
 have HF := Lib.hid (fin3 HX.out hr2 rfl ((HA.out.2.2.trans H1.out.2).trans hch) hx2 hkp (fun j hj => by omega))
 clear hkp hch hx2 hr2 c0 c1 c2 c3 f0 f1 f2 f3
 go_wp2_with fail
 obtain ⟨W9, hW, ⟨⟨e0, e1, e2⟩, m0, m1, m2⟩, hre, hc9, hx9⟩ := HF.out
 have HW := Lib.hid hW
 clear hW HF
 rw [← HW.out]
 refine bodyPost_ret (v := .agg #[.int .i64 e.kind, .slice o1 e.set.length q1, .slice o2 e.parts.length q2]) (by simp [results, Tryz.results139, go_sem, e0, e1, e2, m0, m1, m2]) rfl ⟨hre, hc9, hx9⟩
theorem paAtom_cls (p k d k2 : Nat) (s : ByteArray) (L : Its) (v : Value) (e : RE) (w : World) (h : XI w p s L k d v) (hrn : pk L k = 91) (hat : ∀ w, XI w p s L (k + 1) d v → Calls Tryz.prog 155 #[.pointer (some ⟨p, 0, none⟩), .int .i64 (((plc L s.size k : Nat) : Int) + 1)] w fun x w' => ReP w w' e x ∧ Ch w w' p ∧ XI w' p s L k2 d v) (hpl : plc L s.size k ≤ 1000000) :
 Calls Tryz.prog 139 #[.pointer (some ⟨p, 0, none⟩)] w fun x w' => ReP w w' e x ∧ Ch w w' p ∧ XI w' p s L k2 d v := by
 have hplt := h.lt
 have hA := h.moved (bel_new (Below.refl _ _) (.cells #[.int .i64 0, .slice none 0 0, .slice none 0 0] 35))
 obtain ⟨W0, hW0⟩ : ∃ W0, W0 = w.alloc (.cells #[.int .i64 0, .slice none 0 0, .slice none 0 0] 35) := ⟨_, rfl⟩
 have hr0 : W0.heap[w.heap.size]? = some (.cells #[.int .i64 0, .slice none 0 0, .slice none 0 0] 35 (0, 0)) := by rw [hW0]; exact heap_alloc_new w _
 have hsW : W0.heap.size = w.heap.size + 1 := by rw [hW0]; simp
 have hcW : Ch w W0 p := by rw [hW0]; exact Ch.of (bel_new (Below.refl _ _) _)
 rw [← hW0] at hA
 obtain ⟨⟨c0, c1, c2, c3⟩, f0, f1, f2, f3⟩ := cells4_of hA.hh
 have hkl := pk_in' hrn (by decide)
 have hx1 : XI (W0.setCell ⟨p, 2, none⟩ (.int .i64 ((k : Int) + 1))) p s L (k + 1) d v := by
  have h9 := hA.at (k' := k + 1) (by omega)
  rwa [show ((k + 1 : Nat) : Int) = (k : Int) + 1 by omega] at h9
 obtain ⟨W1, hW1⟩ : ∃ W1, W1 = W0.setCell ⟨p, 2, none⟩ (.int .i64 ((k : Int) + 1)) := ⟨_, rfl⟩
 rw [← hW1] at hx1
 have hc1 : Ch W0 W1 p := by rw [hW1]; exact Ch.set _ _ _ _
 have hs1 : W1.heap.size = w.heap.size + 1 := by rw [hW1, ← hsW]; simp [World.setCell]
 have HX := Lib.hid h
 have HA := Lib.hid (And.intro hA (And.intro hr0 hcW))
 have H1 := Lib.hid (And.intro hx1 hc1)
 have HT := Lib.hid hat
 have HW0 := Lib.hid hW0
 have HW1 := Lib.hid hW1
 have hk0 : (0 : Int) ≤ (k : Int) := by omega
 have hsm := h.small
 have t40 : (pk L k == 40) = false := by rw [hrn]; rfl
 have t91 : (pk L k == 91) = true := by rw [hrn]; rfl
 have hpi : (0 : Int) ≤ ((plc L s.size k : Nat) : Int) := by omega
 have hpj : ((plc L s.size k : Nat) : Int) ≤ 1000000 := by omega
 clear h hA hat hW0 hW1 hr0 hcW hx1 hc1 hrn
 go_enter Tryz.func139, Tryz.ntmps139
 go_wp2_with (with_reducible rw [← HW0.out])
 refine (paPlace_any p k k d s L _ _ HA.out.1).mono ?_
 rintro x w1 ⟨rfl, hw⟩
 have hw := hw.symm
 subst hw
 go_wp2_with fail
 refine (runeAt_any p k k d s L _ _ HA.out.1).mono ?_
 rintro x w1 ⟨rfl, hw⟩
 have hw := hw.symm
 subst hw
 go_wp2_with fail
 rw [← HW1.out]
 refine (HT.out _ H1.out.1).mono ?_
 rintro x w2 ⟨⟨sv, lv, rfl, hkp⟩, hch, hx2⟩
 obtain ⟨⟨o1, q1, rfl⟩, ⟨o2, q2, rfl⟩⟩ := hkp.here.form
 have hr2 := (H1.out.2.trans hch).block _ (show w.heap.size < W0.heap.size by omega) (by omega) |>.trans HA.out.2.1
 obtain ⟨⟨d0, d1, d2⟩, g0, g1, g2⟩ := cells3_of' hr2
 have HF := Lib.hid (fin3 HX.out hr2 rfl ((HA.out.2.2.trans H1.out.2).trans hch) hx2 hkp (fun j hj => by omega))
 clear hkp hch hx2 hr2 c0 c1 c2 c3 f0 f1 f2 f3
 go_wp2_with fail
 obtain ⟨W9, hW, ⟨⟨e0, e1, e2⟩, m0, m1, m2⟩, hre, hc9, hx9⟩ := HF.out
 have HW := Lib.hid hW
 clear hW HF
 rw [← HW.out]
 refine bodyPost_ret (v := .agg #[.int .i64 e.kind, .slice o1 e.set.length q1, .slice o2 e.parts.length q2]) (by simp [results, Tryz.results139, go_sem, e0, e1, e2, m0, m1, m2]) rfl ⟨hre, hc9, hx9⟩
theorem paAtom_esc (p k d k2 : Nat) (s : ByteArray) (L : Its) (v : Value) (e : RE) (w : World) (h : XI w p s L k d v) (hrn : pk L k = 92) (hat : ∀ w, XI w p s L (k + 1) d v → Calls Tryz.prog 156 #[.pointer (some ⟨p, 0, none⟩), .int .i64 ((plc L s.size k : Nat) : Int)] w fun x w' => ReP w w' e x ∧ Ch w w' p ∧ XI w' p s L k2 d v) :
 Calls Tryz.prog 139 #[.pointer (some ⟨p, 0, none⟩)] w fun x w' => ReP w w' e x ∧ Ch w w' p ∧ XI w' p s L k2 d v := by
 have hplt := h.lt
 have hA := h.moved (bel_new (Below.refl _ _) (.cells #[.int .i64 0, .slice none 0 0, .slice none 0 0] 35))
 obtain ⟨W0, hW0⟩ : ∃ W0, W0 = w.alloc (.cells #[.int .i64 0, .slice none 0 0, .slice none 0 0] 35) := ⟨_, rfl⟩
 have hr0 : W0.heap[w.heap.size]? = some (.cells #[.int .i64 0, .slice none 0 0, .slice none 0 0] 35 (0, 0)) := by rw [hW0]; exact heap_alloc_new w _
 have hsW : W0.heap.size = w.heap.size + 1 := by rw [hW0]; simp
 have hcW : Ch w W0 p := by rw [hW0]; exact Ch.of (bel_new (Below.refl _ _) _)
 rw [← hW0] at hA
 obtain ⟨⟨c0, c1, c2, c3⟩, f0, f1, f2, f3⟩ := cells4_of hA.hh
 have hkl := pk_in' hrn (by decide)
 have hx1 : XI (W0.setCell ⟨p, 2, none⟩ (.int .i64 ((k : Int) + 1))) p s L (k + 1) d v := by
  have h9 := hA.at (k' := k + 1) (by omega)
  rwa [show ((k + 1 : Nat) : Int) = (k : Int) + 1 by omega] at h9
 obtain ⟨W1, hW1⟩ : ∃ W1, W1 = W0.setCell ⟨p, 2, none⟩ (.int .i64 ((k : Int) + 1)) := ⟨_, rfl⟩
 rw [← hW1] at hx1
 have hc1 : Ch W0 W1 p := by rw [hW1]; exact Ch.set _ _ _ _
 have hs1 : W1.heap.size = w.heap.size + 1 := by rw [hW1, ← hsW]; simp [World.setCell]
 have HX := Lib.hid h
 have HA := Lib.hid (And.intro hA (And.intro hr0 hcW))
 have H1 := Lib.hid (And.intro hx1 hc1)
 have HT := Lib.hid hat
 have HW0 := Lib.hid hW0
 have HW1 := Lib.hid hW1
 have hk0 : (0 : Int) ≤ (k : Int) := by omega
 have hsm := h.small
 have t40 : (pk L k == 40) = false := by rw [hrn]; rfl
 have t91 : (pk L k == 91) = false := by rw [hrn]; rfl
 have t92 : (pk L k == 92) = true := by rw [hrn]; rfl
 clear h hA hat hW0 hW1 hr0 hcW hx1 hc1 hrn
 go_enter Tryz.func139, Tryz.ntmps139
 go_wp2_with (with_reducible rw [← HW0.out])
 refine (paPlace_any p k k d s L _ _ HA.out.1).mono ?_
 rintro x w1 ⟨rfl, hw⟩
 have hw := hw.symm
 subst hw
 go_wp2_with fail
 refine (runeAt_any p k k d s L _ _ HA.out.1).mono ?_
 rintro x w1 ⟨rfl, hw⟩
 have hw := hw.symm
 subst hw
 go_wp2_with fail
 rw [← HW1.out]
 refine (HT.out _ H1.out.1).mono ?_
 rintro x w2 ⟨⟨sv, lv, rfl, hkp⟩, hch, hx2⟩
 obtain ⟨⟨o1, q1, rfl⟩, ⟨o2, q2, rfl⟩⟩ := hkp.here.form
 have hr2 := (H1.out.2.trans hch).block _ (show w.heap.size < W0.heap.size by omega) (by omega) |>.trans HA.out.2.1
 obtain ⟨⟨d0, d1, d2⟩, g0, g1, g2⟩ := cells3_of' hr2
 have HF := Lib.hid (fin3 HX.out hr2 rfl ((HA.out.2.2.trans H1.out.2).trans hch) hx2 hkp (fun j hj => by omega))
 clear hkp hch hx2 hr2 c0 c1 c2 c3 f0 f1 f2 f3
 go_wp2_with fail
 obtain ⟨W9, hW, ⟨⟨e0, e1, e2⟩, m0, m1, m2⟩, hre, hc9, hx9⟩ := HF.out
 have HW := Lib.hid hW
 clear hW HF
 rw [← HW.out]
 refine bodyPost_ret (v := .agg #[.int .i64 e.kind, .slice o1 e.set.length q1, .slice o2 e.parts.length q2]) (by simp [results, Tryz.results139, go_sem, e0, e1, e2, m0, m1, m2]) rfl ⟨hre, hc9, hx9⟩
end Go.Proofs.YtfkmajjgkdjncaaGreatDoor

set_option maxHeartbeats 4000000
set_option maxRecDepth 100000
namespace Go.Proofs.YtfkmajjgkdjncaaGreatDoor
open Go.RowKit De Wd
theorem alts_any (p k d k1 k2 : Nat) (s : ByteArray) (L : Its) (v : Value) (a e : RE) (w : World) (h : XI w p s L k d v) (P : Nat → RE → Nat → Prop) (hmono : ∀ k b k', P k b k' → k ≤ k') (h1 : P k a k1) (hl : AlL L P a k1 e k2)
 (hat : ∀ w k a k1, P k a k1 → XI w p s L k d v → Calls Tryz.prog 69 #[.pointer (some ⟨p, 0, none⟩)] w fun x w' => ReP w w' a x ∧ Ch w w' p ∧ XI w' p s L k1 d v) :
 Calls Tryz.prog 30 #[.pointer (some ⟨p, 0, none⟩)] w fun x w' => ReP w w' e x ∧ Ch w w' p ∧ XI w' p s L k2 d v := by
 have hlt := h.lt
 have hA := h.moved (bel_new (Below.refl _ _) (.cells #[.int .i64 0, .slice none 0 0, .slice none 0 0] 35))
 have HX := Lib.hid h
 have HA := Lib.hid hA
 have HT := Lib.hid hat
 have HL := Lib.hid hl
 have HH1 := Lib.hid h1
 clear h hA hat hl h1
 go_enter Tryz.func30, Tryz.ntmps30
 go_wp2_with fail
 refine (HT.out _ _ _ _ HH1.out HA.out).mono ?_
 rintro x w1 ⟨⟨sv, lv, rfl, hkp⟩, hch, hxi⟩
 obtain ⟨⟨o1, q1, rfl⟩, ⟨o2, q2, rfl⟩⟩ := hkp.here.form
 have hs1 : w.heap.size < w1.heap.size := by have := hch.size; simp at this; omega
 have hr1 : w1.heap[w.heap.size]? = some (.cells #[.int .i64 0, .slice none 0 0, .slice none 0 0] 35 (0, 0)) := by rw [hch.block _ (by simp) (by omega)]; exact heap_alloc_new w _
 have hpb : p ≠ w1.heap.size := by omega
 have hxi2 := hxi.moved (bel_new (Below.refl _ _) (.cells #[.int .i64 a.kind, .slice o1 a.set.length q1, .slice o2 a.parts.length q2] 35))
 have hpi : PoI w (w1.alloc (.cells #[.int .i64 a.kind, .slice o1 a.set.length q1, .slice o2 a.parts.length q2] 35)) p w1.heap.size w.heap.size s L d k1 v a (.slice o1 a.set.length q1) (.slice o2 a.parts.length q2) := by
  refine ⟨hxi2, ?_, heap_alloc_new w1 _, ⟨.int .i64 0, .slice none 0 0, .slice none 0 0, ?_⟩, ?_⟩
  · exact ((Ch.of (bel_new (Below.refl _ _) _)).trans hch).trans (Ch.of (bel_new (Below.refl _ _) _))
  · rw [(bel_new (Below.refl w1.heap.size w1) _).block _ hs1]; exact hr1
  · intro w' hag
    refine hkp w' ⟨hag.os, hag.tape, hag.output, by have := hag.size; simp at this; omega, fun j hj hS => ?_⟩
    have hS' : w.heap.size + 1 ≤ j := by simpa using hS
    rw [hag.block j (by simp; omega) ⟨by omega, by omega⟩]
    exact (bel_new (Below.refl w1.heap.size w1) _).block j hj
 have HPI := Lib.hid hpi
 have hle := hxi.le
 clear hpi hxi2 hxi hch hkp hr1
 go_wp2_with fail
 go_loopg [] (L.length - k1) (fun g wx => ∃ (a' : RE) (ki : Nat) (o3 o4 : Option Addr) (q3 q4 : Nat), ki + g = L.length ∧ PoI w wx p w1.heap.size w.heap.size s L d ki v a' (.slice o3 a'.set.length q3) (.slice o4 a'.parts.length q4) ∧ AlL L P a' ki e k2)
 case atStart => exact ⟨a, k1, _, _, _, _, by omega, HPI.out, HL.out⟩
 case round =>
  obtain ⟨a', ki, o3, o4, q3, q4, hkg, hpi, hpo⟩ := hrel
  have HP := Lib.hid hpi
  obtain ⟨⟨c0, c1, c2⟩, f0, f1, f2⟩ := cells3_of' hpi.hb
  clear hpi
  rcases hpo.inv with ⟨hcnd, rfl, rfl⟩ | ⟨hcnd, nb, kj, hpp, hpo2⟩
  · have HN := Lib.hid hcnd
    clear hpo hcnd
    go_wp2_with fail
    refine (skip_any p ki d 124 s L v _ HP.out.x (by decide)).mono ?_
    rintro x w2 ⟨rfl, hc2, hx2⟩
    rw [if_neg HN.out] at hx2
    rw [decide_eq_false HN.out]
    have hb2 := (hc2.block _ (lt_of_some HP.out.hb) (fun e => hpb e.symm)).trans HP.out.hb
    obtain ⟨z0, z1, z2, hz⟩ := HP.out.hr
    have hr2 := (hc2.block _ (lt_of_some hz) (by omega)).trans hz
    have hbr : ¬ w1.heap.size = w.heap.size := by omega
    obtain ⟨⟨d0, d1, d2⟩, g0, g1, g2⟩ := cells3_of' hb2
    obtain ⟨⟨r0, r1, r2⟩, x0, x1, x2⟩ := cells3_of' hr2
    have hkp2 := HP.out.kp.to (hc2.ag.sub (fun j _ hj => by omega))
    have HK := Lib.hid hkp2
    have HC := Lib.hid (HP.out.c.trans hc2)
    have HX2 := Lib.hid hx2
    have HR2 := Lib.hid hr2
    clear c0 c1 c2 f0 f1 f2 hb2 hz hkp2 hc2 hx2 HP hr2
    go_wp2_with fail
    obtain ⟨W9, hW⟩ : ∃ W9, W9 = ((w2.setCell ⟨w.heap.size, 0, none⟩ (.int .i64 a'.kind)).setCell ⟨w.heap.size, 1, none⟩ (.slice o3 a'.set.length q3)).setCell ⟨w.heap.size, 2, none⟩ (.slice o4 a'.parts.length q4) := ⟨_, rfl⟩
    have h9 : W9.heap[w.heap.size]? = some (.cells #[.int .i64 a'.kind, .slice o3 a'.set.length q3, .slice o4 a'.parts.length q4] 35 (0, 0)) := by
     rw [hW]; have := HR2.out; simp [World.setCell, Array.getElem?_modify, this]
    have hag : Ag (fun j => w.heap.size < j ∧ j ≠ w1.heap.size) w2 W9 := by
     rw [hW]
     exact (((Ag.refl _ _).setCell (fun h => Nat.lt_irrefl _ h.1) _).setCell (fun h => Nat.lt_irrefl _ h.1) _).setCell (fun h => Nat.lt_irrefl _ h.1) _
    have hc9 : Ch w W9 p := by rw [hW]; exact ((HC.out.setNew' (Nat.le_refl _)).setNew' (Nat.le_refl _)).setNew' (Nat.le_refl _)
    have hx9 : XI W9 p s L ki d v := by rw [hW]; exact HX.out.setNew (HX.out.setNew (HX.out.setNew HX2.out (Nat.le_refl _)) (Nat.le_refl _)) (Nat.le_refl _)
    rw [← hW]
    clear hW r0 r1 r2 x0 x1 x2 d0 d1 d2 g0 g1 g2
    obtain ⟨⟨d0, d1, d2⟩, g0, g1, g2⟩ := cells3_of' h9
    refine bodyPost_ret (v := .agg #[.int .i64 a'.kind, .slice o3 a'.set.length q3, .slice o4 a'.parts.length q4]) (by simp [results, Tryz.results30, go_sem, d0, d1, d2, g0, g1, g2]) rfl ?_
    exact ⟨⟨_, _, rfl, (HK.out.to hag).sub (fun j _ hj => Nat.le_of_lt hj.1)⟩, hc9, hx9⟩
  · have HN := Lib.hid hcnd
    clear hpo hcnd
    go_wp2_with fail
    refine (skip_any p ki d 124 s L v _ HP.out.x (by decide)).mono ?_
    rintro x w2 ⟨rfl, hc2, hx2⟩
    rw [if_pos HN.out] at hx2
    have hki : ki < L.length := pk_in' HN.out (by decide)
    rw [decide_eq_true HN.out]
    have hb2 := (hc2.block _ (lt_of_some HP.out.hb) (fun e => hpb e.symm)).trans HP.out.hb
    have hblt := lt_of_some hb2
    obtain ⟨z0, z1, z2, hz⟩ := HP.out.hr
    have hr2 := (hc2.block _ (lt_of_some hz) (by omega)).trans hz
    have hrlt := lt_of_some hr2
    have hbr : ¬ w1.heap.size = w.heap.size := by omega
    obtain ⟨⟨d0, d1, d2⟩, g0, g1, g2⟩ := cells3_of' hb2
    have hkp2 := HP.out.kp.to (hc2.ag.sub (fun j _ hj => by omega))
    have HK := Lib.hid hkp2
    have HC := Lib.hid (HP.out.c.trans hc2)
    have HX2 := Lib.hid hx2
    have HR2 := Lib.hid hr2
    have HB2 := Lib.hid hb2
    have HPO := Lib.hid hpo2
    have HPP := Lib.hid hpp
    have hpp2 := hmono _ _ _ hpp
    have hqb : ¬ w2.heap.size = w1.heap.size := by omega
    clear c0 c1 c2 f0 f1 f2 hb2 hz hkp2 hc2 hx2 hr2 HP hpo2 hpp
    go_wp2_with fail
    go_region_law
     (go_simp; go_at_call 69; refine (HT.out _ _ _ _ HPP.out (HX2.out.moved (by repeat (first | exact Below.refl _ _ | refine Below.drew ?_)))).mono ?_; rintro x w5 ⟨⟨sv5, lv5, rfl, hk5⟩, hc5, hx5⟩; obtain ⟨⟨o5, q5, rfl⟩, ⟨o6, q6, rfl⟩⟩ := hk5.here.form; have hb5 := (hc5.block _ hblt (fun e => hpb e.symm)).trans HB2.out; obtain ⟨⟨e0, e1, e2⟩, m0, m1, m2⟩ := cells3_of' hb5; have hlt5 : w1.heap.size < w5.heap.size := Nat.lt_of_lt_of_le hblt (show w2.heap.size ≤ w5.heap.size from hc5.size); have hqb5 : ¬ w5.heap.size = w1.heap.size := (fun e => absurd hlt5 (e ▸ Nat.lt_irrefl _)); have hqb6 : ¬ w1.heap.size = w5.heap.size := (fun e => absurd hlt5 (e ▸ Nat.lt_irrefl _)))
    all_goals (
     have hr5 := (hc5.block _ hrlt (fun e => by omega)).trans HR2.out
     have hka5 := HK.out.to (((Ag.refl _ w2).drew).trans (hc5.ag.sub (fun j _ hj => by omega)))
     have HP9 := Lib.hid (PoI.two (b' := nb) (n5 := w2.heap.size) 4 HX.out (HC.out.trans (Ch.trans (Ch.of (Below.refl _ _).drew) hc5)) hx5 hb5 hr5 hka5 (hk5.sub (fun j _ hj => hj)) (by omega) (Nat.le_refl _) (by omega) hblt)
     have hkl := hx5.le
     clear hb5 hr5 hka5 e0 e1 e2 m0 m1 m2 d0 d1 d2 g0 g1 g2 hc5 hx5 hk5
     try go_wp2_with fail
     go_roundg (L.length - kj)
     case measure => omega
     case rel => exact ⟨.mk 4 [] [a', nb], kj, none, some ⟨w5.heap.size, 0, none⟩, 0, 2, by omega, HP9.out, HPO.out⟩)
end Go.Proofs.YtfkmajjgkdjncaaGreatDoor

set_option maxHeartbeats 4000000
set_option maxRecDepth 100000
namespace Go.Proofs.YtfkmajjgkdjncaaGreatDoor
open Go.RowKit De Wd
theorem paParens_ok (p k d a k1 : Nat) (s : ByteArray) (L : Its) (v : Value) (e : RE) (w : World) (h : XI w p s L k d v) (hd : d < 40) (h41 : pk L k1 = 41)
 (hat : ∀ w, XI w p s L k (d + 1) v → Calls Tryz.prog 30 #[.pointer (some ⟨p, 0, none⟩)] w fun x w' => ReP w w' e x ∧ Ch w w' p ∧ XI w' p s L k1 (d + 1) v) :
 Calls Tryz.prog 154 #[.pointer (some ⟨p, 0, none⟩), .int .i64 a] w fun x w' => ReP w w' e x ∧ Ch w w' p ∧ XI w' p s L (k1 + 1) d v := by
 have hplt := h.lt
 have hA := h.moved (bel_new (Below.refl _ _) (.cells #[.int .i64 0, .slice none 0 0, .slice none 0 0] 35))
 obtain ⟨W0, hW0⟩ : ∃ W0, W0 = w.alloc (.cells #[.int .i64 0, .slice none 0 0, .slice none 0 0] 35) := ⟨_, rfl⟩
 have hr0 : W0.heap[w.heap.size]? = some (.cells #[.int .i64 0, .slice none 0 0, .slice none 0 0] 35 (0, 0)) := by rw [hW0]; exact heap_alloc_new w _
 have hsW : W0.heap.size = w.heap.size + 1 := by rw [hW0]; simp
 have hcW : Ch w W0 p := by rw [hW0]; exact Ch.of (bel_new (Below.refl _ _) _)
 rw [← hW0] at hA
 obtain ⟨⟨c0, c1, c2, c3⟩, f0, f1, f2, f3⟩ := cells4_of hA.hh
 have hx1 : XI (W0.setCell ⟨p, 3, none⟩ (.int .i64 ((d : Int) + 1))) p s L k (d + 1) v := by
  have h9 := hA.deep (d' := d + 1)
  rwa [show ((d + 1 : Nat) : Int) = (d : Int) + 1 by omega] at h9
 obtain ⟨W1, hW1⟩ : ∃ W1, W1 = W0.setCell ⟨p, 3, none⟩ (.int .i64 ((d : Int) + 1)) := ⟨_, rfl⟩
 rw [← hW1] at hx1
 have hc1 : Ch W0 W1 p := by rw [hW1]; exact Ch.set _ _ _ _
 have hs1 : W1.heap.size = w.heap.size + 1 := by rw [hW1, ← hsW]; simp [World.setCell]
 have HX := Lib.hid h
 have HA := Lib.hid (And.intro hA (And.intro hr0 hcW))
 have H1 := Lib.hid (And.intro hx1 hc1)
 have HT := Lib.hid hat
 have H41 := Lib.hid h41
 have HW0 := Lib.hid hW0
 have HW1 := Lib.hid hW1
 have t1 : ((d : Int) == 40) = false := by simp; omega
 have t2 : (d == 40) = false := by simp; omega
 have hd0 : (0 : Int) ≤ (d : Int) := by omega
 clear h hA hat h41 hW0 hW1 hr0 hcW hx1 hc1
 go_enter Tryz.func154, Tryz.ntmps154
 go_wp2_with (with_reducible rw [← HW0.out])
 rw [← HW1.out]
 refine (HT.out _ H1.out.1).mono ?_
 rintro x w2 ⟨⟨sv, lv, rfl, hkp⟩, hch, hx2⟩
 obtain ⟨⟨o1, q1, rfl⟩, ⟨o2, q2, rfl⟩⟩ := hkp.here.form
 have hr2 := (H1.out.2.trans hch).block _ (show w.heap.size < W0.heap.size by omega) (by omega) |>.trans HA.out.2.1
 have hz2 : w.heap.size < w2.heap.size := lt_of_some hr2
 have hbx : ¬ w2.heap.size = w.heap.size := by omega
 have hx3 := hx2.moved (bel_new (Below.refl _ _) (.cells #[.int .i64 e.kind, .slice o1 e.set.length q1, .slice o2 e.parts.length q2] 35))
 have hb3 := heap_alloc_new w2 (.cells #[.int .i64 e.kind, .slice o1 e.set.length q1, .slice o2 e.parts.length q2] 35)
 have H2 := Lib.hid (And.intro hkp (And.intro hch (And.intro hx3 (And.intro hr2 hb3))))
 clear hkp hch hx2 hx3 hr2 hb3 c0 c1 c2 c3 f0 f1 f2 f3
 go_wp2_with fail
 refine (skip_any p k1 (d + 1) 41 s L _ _ H2.out.2.2.1 (by decide)).mono ?_
 rintro x w4 ⟨rfl, hc4, hx4⟩
 rw [if_pos H41.out] at hx4
 rw [decide_eq_true H41.out]
 obtain ⟨⟨c0, c1, c2, c3⟩, f0, f1, f2, f3⟩ := cells4_of hx4.hh
 have hb4 := (hc4.block _ (lt_of_some H2.out.2.2.2.2) (by omega)).trans H2.out.2.2.2.2
 obtain ⟨⟨d0, d1, d2⟩, g0, g1, g2⟩ := cells3_of' hb4
 have hr4 : w4.heap[w.heap.size]? = some (.cells #[.int .i64 0, .slice none 0 0, .slice none 0 0] 35 (0, 0)) := by
  rw [hc4.block _ (by simp; omega) (by omega), (bel_new (Below.refl w2.heap.size w2) _).block _ hz2]
  exact H2.out.2.2.2.1
 have hq4 : w2.heap.size < w4.heap.size := lt_of_some hb4
 obtain ⟨⟨r0, r1, r2⟩, x0, x1, x2⟩ := cells3_of' hr4
 have hpr : ¬ w.heap.size = p := by omega
 have hpr2 : ¬ p = w.heap.size := by omega
 have hpe : ¬ w2.heap.size = p := by omega
 have hpe2 : ¬ p = w2.heap.size := by omega
 have H4 := Lib.hid (And.intro hc4 (And.intro hx4 hr4))
 have ex : ((d + 1 : Nat) : Int) - 1 = (d : Int) := by omega
 have ex2 : (d : Int) + 1 - 1 = (d : Int) := by omega
 have hx6 : XI (w4.setCell ⟨p, 3, none⟩ (.int .i64 d)) p s L (k1 + 1) d v := hx4.deep
 obtain ⟨W6, hW6⟩ : ∃ W6, W6 = w4.setCell ⟨p, 3, none⟩ (.int .i64 d) := ⟨_, rfl⟩
 rw [← hW6] at hx6
 have hc6 : Ch w4 W6 p := by rw [hW6]; exact Ch.set _ _ _ _
 have hr6 := (hc6.block _ (lt_of_some hr4) (by omega)).trans hr4
 have hk6 : KP (fun j => W1.heap.size ≤ j) W6 (fun w3 => ReIs w3 e (.slice o1 e.set.length q1) (.slice o2 e.parts.length q2)) := by
  refine H2.out.1.to (((Ag.of (bel_new (Below.refl _ _) _)).trans (hc4.ag.sub (fun j _ hj => ?_))).trans (hc6.ag.sub (fun j _ hj => ?_)))
  all_goals omega
 have HF := Lib.hid (fin3 HX.out hr6 rfl (((HA.out.2.2.trans H1.out.2).trans ((H2.out.2.1).trans (Ch.of (bel_new (Below.refl _ _) _)))).trans (hc4.trans hc6)) hx6 hk6 (fun j hj => by omega))
 have HW6 := Lib.hid hW6
 clear hc4 hx4 hb4 hr4 hx6 hc6 hr6 hk6 hW6 ex2
 have EX := Lib.hid ex
 clear ex
 go_wp2_with fail
 try simp only [show ((d + 1 : Nat) : Int) - 1 = (d : Int) by omega]
 rw [← HW6.out]
 obtain ⟨W9, hW, ⟨⟨e0, e1, e2⟩, m0, m1, m2⟩, hre, hc9, hx9⟩ := HF.out
 have HW := Lib.hid hW
 clear hW HF
 rw [← HW.out]
 refine bodyPost_ret (v := .agg #[.int .i64 e.kind, .slice o1 e.set.length q1, .slice o2 e.parts.length q2]) (by simp [results, Tryz.results154, go_sem, e0, e1, e2, m0, m1, m2]) rfl ⟨hre, hc9, hx9⟩
end Go.Proofs.YtfkmajjgkdjncaaGreatDoor

set_option maxHeartbeats 4000000
set_option maxRecDepth 100000
namespace Go.Proofs.YtfkmajjgkdjncaaGreatDoor
open Go.RowKit De Wd
theorem paAtom_one (p k d : Nat) (s : ByteArray) (L : Its) (v : Value) (w : World) (h : XI w p s L k d v) (hrn : 0 ≤ pk L k) (n40 : pk L k ≠ 40) (n91 : pk L k ≠ 91) (n92 : pk L k ≠ 92) (n46 : pk L k ≠ 46) :
 Calls Tryz.prog 139 #[.pointer (some ⟨p, 0, none⟩)] w fun x w' => ReP w w' (.mk 2 [(pk L k, pk L k)] []) x ∧ Ch w w' p ∧ XI w' p s L (k + 1) d v := by
 have hplt := h.lt
 have hA := h.moved (bel_new (Below.refl _ _) (.cells #[.int .i64 0, .slice none 0 0, .slice none 0 0] 35))
 obtain ⟨W0, hW0⟩ : ∃ W0, W0 = w.alloc (.cells #[.int .i64 0, .slice none 0 0, .slice none 0 0] 35) := ⟨_, rfl⟩
 have hr0 : W0.heap[w.heap.size]? = some (.cells #[.int .i64 0, .slice none 0 0, .slice none 0 0] 35 (0, 0)) := by rw [hW0]; exact heap_alloc_new w _
 have hsW : W0.heap.size = w.heap.size + 1 := by rw [hW0]; simp
 have hcW : Ch w W0 p := by rw [hW0]; exact Ch.of (bel_new (Below.refl _ _) _)
 rw [← hW0] at hA
 obtain ⟨⟨c0, c1, c2, c3⟩, f0, f1, f2, f3⟩ := cells4_of hA.hh
 have hkl := pk_in' rfl hrn
 have hx1 : XI (W0.setCell ⟨p, 2, none⟩ (.int .i64 ((k : Int) + 1))) p s L (k + 1) d v := by
  have h9 := hA.at (k' := k + 1) (by omega)
  rwa [show ((k + 1 : Nat) : Int) = (k : Int) + 1 by omega] at h9
 obtain ⟨W1, hW1⟩ : ∃ W1, W1 = W0.setCell ⟨p, 2, none⟩ (.int .i64 ((k : Int) + 1)) := ⟨_, rfl⟩
 rw [← hW1] at hx1
 have hc1 : Ch W0 W1 p := by rw [hW1]; exact Ch.set _ _ _ _
 have hs1 : W1.heap.size = w.heap.size + 1 := by rw [hW1, ← hsW]; simp [World.setCell]
 have HX := Lib.hid h
 have HA := Lib.hid (And.intro hA (And.intro hr0 hcW))
 have H1 := Lib.hid (And.intro hx1 hc1)
 have HW0 := Lib.hid hW0
 have HW1 := Lib.hid hW1
 have hk0 : (0 : Int) ≤ (k : Int) := by omega
 have hsm := h.small
 have t40 : (pk L k == 40) = false := by simpa using n40
 have t91 : (pk L k == 91) = false := by simpa using n91
 have t92 : (pk L k == 92) = false := by simpa using n92
 have t46 : (pk L k == 46) = false := by simpa using n46
 clear h hA hW0 hW1 hr0 hcW hx1 hc1 hrn n40 n91 n92 n46
 go_enter Tryz.func139, Tryz.ntmps139
 go_wp2_with (with_reducible rw [← HW0.out])
 refine (paPlace_any p k k d s L _ _ HA.out.1).mono ?_
 rintro x w1 ⟨rfl, hw⟩
 have hw := hw.symm
 subst hw
 go_wp2_with fail
 refine (runeAt_any p k k d s L _ _ HA.out.1).mono ?_
 rintro x w1 ⟨rfl, hw⟩
 have hw := hw.symm
 subst hw
 go_wp2_with fail
 rw [← HW1.out]
 have hbel := bel_new (Below.refl W1.heap.size W1) (.cells #[.int .i32 (pk L k), .int .i32 (pk L k)] 79)
 rw [← hs1]
 refine (paset_any (some ⟨W1.heap.size, 0, none⟩) 1 1 _).mono ?_
 rintro x w2 ⟨rfl, hb2⟩
 have hch : Ch W1 w2 p := (Ch.of hbel).trans (Ch.of hb2)
 have hx2 := (H1.out.1.moved hbel).moved hb2
 have hq2 : w2.heap[W1.heap.size]? = some (.cells #[.int .i32 (pk L k), .int .i32 (pk L k)] 79 (0, 0)) := by
  rw [hb2.block _ (by simp)]; exact heap_alloc_new W1 _
 have hkp : KP (fun j => W1.heap.size ≤ j) w2 (fun w3 => ReIs w3 (.mk 2 [(pk L k, pk L k)] []) (.slice (some ⟨W1.heap.size, 0, none⟩) 1 1) (.slice none 0 0)) := by
  refine (KP.block hq2 (Nat.le_refl _)).mono (fun w3 h3 => pre_set ⟨_, 1, rfl, Nat.le_refl _, by show (1 : Nat) ≤ maxLen; decide, .inr ⟨W1.heap.size, 0, rfl, lt_of_some h3, fun j u hu => ?_⟩⟩)
  unfold World.cell?
  rw [show (⟨W1.heap.size, 0 + j, none⟩ : Addr).block = W1.heap.size from rfl, h3]
  match j, hu with
  | 0, h => simpa [flatK] using h
  | 1, h => simpa [flatK] using h
  | j + 2, h => simp [flatK] at h
 have hr2 := (H1.out.2.trans hch).block _ (show w.heap.size < W0.heap.size by omega) (by omega) |>.trans HA.out.2.1
 obtain ⟨⟨d0, d1, d2⟩, g0, g1, g2⟩ := cells3_of' hr2
 have HF := Lib.hid (fin3 HX.out hr2 rfl ((HA.out.2.2.trans H1.out.2).trans hch) hx2 hkp (fun j hj => by omega))
 clear hkp hch hx2 hr2 hq2 c0 c1 c2 c3 f0 f1 f2 f3 hbel hb2 hs1 hsW
 go_wp2_with fail
 obtain ⟨W9, hW, ⟨⟨e0, e1, e2⟩, m0, m1, m2⟩, hre, hc9, hx9⟩ := HF.out
 have HW := Lib.hid hW
 clear hW HF
 rw [show (.int .i64 2 : Value) = .int .i64 (RE.mk 2 [(pk L k, pk L k)] []).kind from rfl, ← HW.out]
 refine bodyPost_ret (v := .agg #[.int .i64 2, .slice (some ⟨W1.heap.size, 0, none⟩) 1 1, .slice none 0 0]) (by simp [results, Tryz.results139, go_sem, e0, e1, e2, m0, m1, m2, RE.kind]) rfl ⟨hre, hc9, hx9⟩
end Go.Proofs.YtfkmajjgkdjncaaGreatDoor

set_option maxHeartbeats 1000000
set_option maxRecDepth 100000
namespace Go.Proofs.YtfkmajjgkdjncaaGreatDoor
open Go.RowKit De Wd
theorem paAlt_none (p k d : Nat) (s : ByteArray) (L : Its) (v : Value) (w : World) (h : XI w p s L k d v) (h1 : Sc L) (hatm : Pm.atm (pk L k) = false) :
 Calls Tryz.prog 69 #[.pointer (some ⟨p, 0, none⟩)] w fun x w' => ReP w w' (.mk 1 [] []) x ∧ Ch w w' p ∧ XI w' p s L k d v := by
 have hplt := h.lt
 have hA := h.moved (bel_new (Below.refl _ _) (.cells #[.int .i64 0, .slice none 0 0, .slice none 0 0] 35))
 obtain ⟨W0, hW0⟩ : ∃ W0, W0 = w.alloc (.cells #[.int .i64 0, .slice none 0 0, .slice none 0 0] 35) := ⟨_, rfl⟩
 have hr0 : W0.heap[w.heap.size]? = some (.cells #[.int .i64 0, .slice none 0 0, .slice none 0 0] 35 (0, 0)) := by rw [hW0]; exact heap_alloc_new w _
 have hcW : Ch w W0 p := by rw [hW0]; exact Ch.of (bel_new (Below.refl _ _) _)
 rw [← hW0] at hA
 obtain ⟨⟨d0, d1, d2⟩, g0, g1, g2⟩ := cells3_of' hr0
 have HR0 := Lib.hid (And.intro h (And.intro hr0 hcW))
 have HA := Lib.hid hA
 have HW0 := Lib.hid hW0
 clear h hA hr0 hcW hW0 d0 d1 d2 g0 g1 g2
 go_enter Tryz.func69, Tryz.ntmps69
 go_wp2_with (with_reducible rw [← HW0.out])
 refine (atomNext_any p k d s L v _ HA.out h1).mono ?_
 rintro x wz ⟨rfl, hwz⟩
 rw [hatm]
 have hrz := (hwz.block _ (lt_of_some HR0.out.2.1)).trans HR0.out.2.1
 obtain ⟨⟨d0, d1, d2⟩, g0, g1, g2⟩ := cells3_of' hrz
 have HF := Lib.hid (fin3 (S := fun j => w.heap.size < j) (e := .mk 1 [] []) (sv := .slice none 0 0) (lv := .slice none 0 0) HR0.out.1 hrz rfl (HR0.out.2.2.trans (Ch.of hwz)) (HA.out.moved hwz) (fun w2 _ => pre_leaf) (fun j hj => hj))
 clear hwz hrz
 go_wp2_with fail
 obtain ⟨W9, hW, ⟨⟨e0, e1, e2⟩, m0, m1, m2⟩, hre, hc9, hx9⟩ := HF.out
 have HW := Lib.hid hW
 clear hW HF
 rw [show (.int .i64 1 : Value) = .int .i64 (RE.mk 1 [] []).kind from rfl, ← HW.out]
 refine bodyPost_ret (v := .agg #[.int .i64 1, .slice none 0 0, .slice none 0 0]) (by simp [results, Tryz.results69, go_sem, e0, e1, e2, m0, m1, m2, RE.kind]) rfl ⟨hre, hc9, hx9⟩
structure SrcOk (s : ByteArray) (L : Its) : Prop where
 small : s.size ≤ 100000
 lim : ∀ k, plc L s.size k ≤ s.size
 mono : ∀ i j, i ≤ j → plc L s.size i ≤ plc L s.size j
 next : ∀ i, i < L.length → plc L s.size i + 1 ≤ plc L s.size (i + 1)
 sc : Sc L
def CT (p : Nat) (s : ByteArray) (L : Its) (f : FuncId) (d k : Nat) (e : RE) (k' : Nat) : Prop :=
 ∀ v w, XI w p s L k d v → Calls Tryz.prog f #[.pointer (some ⟨p, 0, none⟩)] w fun x w' => ReP w w' e x ∧ Ch w w' p ∧ XI w' p s L k' d v
theorem scanC_le' {L : Its} {k j : Nat} (h : Pm.ScanC L k j) : k ≤ j := by
 induction h with
 | stop _ => omega
 | esc _ _ _ ih => omega
 | go _ _ _ _ ih => omega
theorem scanB_le' {L : Its} {k j : Nat} (h : Pm.ScanB L k j) : k ≤ j := by
 induction h with
 | stop _ => omega
 | go _ _ _ ih => omega
open Pm in
theorem reads_all (p : Nat) (s : ByteArray) (L : Its) (hS : SrcOk s L) : ∀ {d k : Nat} {e : RE} {k' : Nat}, Alts L s.size (clS s) d k e k' → CT p s L 30 d k e k' := by
 intro d k e k' h
 suffices k ≤ k' ∧ CT p s L 30 d k e k' from this.2
 refine Alts.rec
  (motive_1 := fun d k e k' _ => k ≤ k' ∧ CT p s L 30 d k e k')
  (motive_2 := fun d a k e k' _ => k ≤ k' ∧ AlL L (fun k b k' => k ≤ k' ∧ CT p s L 69 d k b k') a k e k')
  (motive_3 := fun d k e k' _ => k ≤ k' ∧ CT p s L 69 d k e k')
  (motive_4 := fun d a k e k' _ => k ≤ k' ∧ SqL L (fun k b k' => k < k' ∧ CT p s L 111 d k b k') a k e k')
  (motive_5 := fun d k e k' _ => k < k' ∧ CT p s L 111 d k e k')
  (motive_6 := fun a k e k' _ => k ≤ k' ∧ PoL L a k e k')
  (motive_7 := fun d k e k' _ => k < k' ∧ CT p s L 139 d k e k') ?_ ?_ ?_ ?_ ?_ ?_ ?_ ?_ ?_ ?_ ?_ ?_ ?_ ?_ h
 · intro d k k1 k2 a e _ _ ih1 ih2
   exact ⟨by omega, fun v w hx => alts_any p k d k1 k2 s L v a e w hx _ (fun k b k' h => h.1) ih1 ih2.2 (fun w k a k1 hp hx => hp.2 v w hx)⟩
 · intro d k a h
   exact ⟨Nat.le_refl _, .stop h⟩
 · intro d k k1 k2 a b e h _ _ ih1 ih2
   exact ⟨by omega, .go h ih1 ih2.2⟩
 · intro d k h
   exact ⟨Nat.le_refl _, fun v w hx => paAlt_none p k d s L v w hx hS.sc h⟩
 · intro d k k1 k2 a e h _ _ ih1 ih2
   exact ⟨by omega, fun v w hx => alt_any p k d k1 k2 s L v a e w hx hS.sc _ (fun k b k' h => h.1) ih1 ih2.2 h (fun w k a k1 hp hx => hp.2 v w hx)⟩
 · intro d k a h
   exact ⟨Nat.le_refl _, .stop h⟩
 · intro d k k1 k2 a b e h _ _ ih1 ih2
   exact ⟨by omega, .go h ih1 ih2.2⟩
 · intro d k k1 k2 a e _ _ ih1 ih2
   exact ⟨by omega, fun v w hx => post_any p k d k1 k2 s L v a e w hx ih2.2 (fun w hx => ih1.2 v w hx)⟩
 · intro k a h
   exact ⟨Nat.le_refl _, .stop h⟩
 · intro k k2 a e h _ ih
   exact ⟨by omega, .go h ih.2⟩
 · intro d k k1 e h hd _ h2 ih
   exact ⟨by omega, fun v w hx => paAtom_par p k d (k1 + 1) s L v e w hx h (fun w hx => paParens_ok p (k + 1) d _ k1 s L v e w hx hd h2 (fun w hx => ih.2 v w hx))⟩
 · intro d k j S h hsc h2 c
   have hkj := scanC_le' hsc
   have hkl := pk_in' h (by decide)
   exact ⟨by omega, fun v w hx => paAtom_cls p k d (j + 1) s L v _ w hx h (fun w hx => by
    have h3 := hS.next k hkl
    have h4 := hS.mono (k + 1) j hkj
    have h5 := hS.lim j
    have h6 := hS.small
    exact paClass_ok p (k + 1) d (plc L s.size k + 1) j s L v S w hx hsc h2 (by omega) (by omega) (by omega) c) (by have := hS.lim k; have := hS.small; omega)⟩
 · intro d k j S h h1 hsc hj c
   have hkj := scanB_le' hsc
   exact ⟨by omega, fun v w hx => paAtom_esc p k d (j + 1) s L v _ w hx h (fun w hx => by
    have h4 := hS.mono k (j + 1) (by omega)
    have h5 := hS.lim (j + 1)
    have h6 := hS.small
    exact paEscape_ok p (k + 1) d (plc L s.size k) j s L v S w hx h1 hsc hj (by omega) (by omega) (by omega) c)⟩
 · intro d k r h ha
   subst h
   have h9 : alnum (pk L k) = true := ha
   unfold alnum at h9
   simp at h9
   exact ⟨by omega, fun v w hx => paAtom_one p k d s L v w hx (by omega) (by omega) (by omega) (by omega) (by omega)⟩
end Go.Proofs.YtfkmajjgkdjncaaGreatDoor

namespace Go.Proofs.YtfkmajjgkdjncaaGreatDoor
open Go.RowKit De Wd Ru
namespace Pm
section
variable {L : Its} {n : Nat} {cl : Nat → Nat → Cr}
end
end Pm
end Go.Proofs.YtfkmajjgkdjncaaGreatDoor

namespace Go.Proofs.YtfkmajjgkdjncaaGreatDoor
open Go.RowKit De Wd Ru
namespace Pm
structure Lw (n : Nat) (t : List Int) : Prop where
 lo : ∀ c ∈ t, c < 128
 len : t.length ≤ n
theorem Lw.app {n m : Nat} {a b : List Int} (h : Lw n a) (k : Lw m b) : Lw (n + m) (a ++ b) :=
 ⟨fun c hc => by rcases List.mem_append.1 hc with h1 | h1; exact h.lo c h1; exact k.lo c h1, by rw [List.length_append]; have := h.len; have := k.len; omega⟩
theorem Lw.one {c : Int} (h : c < 128) : Lw 1 [c] := ⟨fun x hx => by simp at hx; subst hx; exact h, by simp⟩
theorem Lw.le {n m : Nat} {a : List Int} (h : Lw n a) (k : n ≤ m) : Lw m a := ⟨h.lo, Nat.le_trans h.len k⟩
theorem hexI_len : ∀ (k m : Nat), m < 16 ^ (k + 1) → (hexI m).length ≤ k + 1 := by
 intro k
 induction k with
 | zero => intro m hm; rw [hexI_small (by simpa using hm)]; simp
 | succ k ih =>
  intro m hm
  by_cases h : m < 16
  · rw [hexI_small h]; simp
  · rw [hexI_big h, List.length_append]
    have := ih (m / 16) (by rw [Nat.div_lt_iff_lt_mul (by decide)]; rw [Nat.pow_succ] at hm; exact hm)
    simp; omega
theorem lw_lb {r : Int} (h0 : 0 ≤ r) (h1 : r ≤ 1114111) : Lw 10 (lb r) := by
 unfold lb
 split
 · rename_i h
   unfold alnum at h
   simp at h
   exact (Lw.one (by omega)).le (by decide)
 · have h2 : Lw 6 (hexI r.toNat) := ⟨fun c hc => by have := hexI_mem _ _ (Nat.le_refl _) c hc; omega, hexI_len 5 _ (by have : (16 : Nat) ^ (5 + 1) = 16777216 := by decide
                                                                                                                       omega)⟩
   exact (show Lw 3 [92, 117, 123] from ⟨by decide, by decide⟩).app (h2.app (Lw.one (by decide)))
theorem lw_rI {x : Int × Int} (h : Sk x) : Lw 21 (rI x) := by
 unfold rI
 split
 · exact (lw_lb h.1.1.1 h.1.1.2).le (by decide)
 · exact (lw_lb h.1.1.1 h.1.1.2).app ((Lw.one (c := 45) (by decide)).app (lw_lb h.2.1.1.1 h.2.1.1.2))
theorem lw_rsI : ∀ l : List (Int × Int), (∀ x ∈ l, Sk x) → Lw (21 * l.length) (rsI l)
 | [], _ => ⟨fun c hc => by simp [rsI] at hc, by simp [rsI]⟩
 | x :: l, h => by rw [rsI_cons]; exact ((lw_rI (h x (by simp))).app (lw_rsI l (fun y hy => h y (by simp [hy])))).le (by simp; omega)
theorem lw_set {l : List (Int × Int)} (hl : SetOk l) : Lw (21 * l.length + 12) (sb (setB l)) := by
 by_cases h1 : l.length = 1 ∧ (l.getD 0 (0, 0)).1 = (l.getD 0 (0, 0)).2
 · have hs : setB l = letB (l.getD 0 (0, 0)).1 := if_pos h1
   obtain ⟨x, rfl⟩ := List.length_eq_one_iff.1 h1.1
   have hx := hl.sk x (by simp)
   rw [hs, show (([x] : List (Int × Int)).getD 0 (0, 0)) = x from rfl, sb_let hx.1.1.1]
   exact (lw_lb hx.1.1.1 hx.1.1.2).le (by omega)
 · have hs : setB l = (⟨#[91]⟩ ++ catB (l.map rngB)) ++ ⟨#[93]⟩ := if_neg h1
   have e : sb (setB l) = [91] ++ (rsI l ++ [93]) := by rw [hs, sb_app, sb_app, sb_cat l hl.sk, List.append_assoc]; rfl
   rw [e]
   exact ((Lw.one (by decide)).app ((lw_rsI l hl.sk).app (Lw.one (by decide)))).le (by omega)
theorem lw_hold {n : Nat} {t : ByteArray} (h : Lw n (sb t)) (m : Bool) : Lw (n + 2) (sb (hold t m)) := by
 rw [sb_hold]
 split
 · exact ((Lw.one (c := 40) (by decide)).app (h.app (Lw.one (c := 41) (by decide)))).le (by omega)
 · exact h.le (by omega)
theorem lw_all : ∀ (N : Nat) (e : RE), e.size ≤ N → e.prt = true → e.nn = false → Lw (450 * e.size) (sb e.text) := by
 intro N
 induction N with
 | zero => intro e h; have := e.size_pos; omega
 | succ N ih =>
  intro e hs hp hn
  have hsh := RE.prt_shp hp
  have part : ∀ p ∈ e.parts, Lw (450 * p.size) (sb p.text) := by
   intro p hm
   obtain ⟨i, hi, rfl⟩ := List.getElem_of_mem hm
   have hg : e.parts[i]? = some e.parts[i] := by simp [hi]
   exact ih _ (by have := RE.size_part hg; omega) (RE.prt_part hp hg) (nn_part hn hm)
  have hsp := e.size_pos
  rcases RE.shp_cases hsh with h0 | h1 | h2 | h3 | h4 | h5
  · rw [RE.nn_eq, h0] at hn; simp at hn
  · have ht : sb e.text = [40] ++ [41] := by rw [RE.text_eq, h1]; rfl
    rw [ht]; exact ((Lw.one (by decide)).app (Lw.one (by decide))).le (by omega)
  · obtain ⟨e2, hne, hm⟩ := full2 hsh h2.1
    have ht : e.text = setB e.set := by rw [RE.text_eq, h2.1]; rfl
    rw [ht]; exact (lw_set (setOk_of hm hne)).le (by have := h2.2.1; omega)
  · have e3 := full0 hsh (by omega)
    obtain ⟨p, q, hl⟩ := len2 h3.2
    rw [h3.1, hl] at e3
    have h9 := ((lw_hold (part p (by rw [hl]; simp)) ([4].contains p.kind)).app (lw_hold (part q (by rw [hl]; simp)) ([3, 4].contains q.kind)))
    rw [e3, text3]
    exact h9.le (by rw [RE.size_mk, RE.sizes_cons, RE.sizes_cons, RE.sizes_nil]; omega)
  · have e4 := full0 hsh (by omega)
    obtain ⟨p, q, hl⟩ := len2 h4.2
    rw [h4.1, hl] at e4
    have h9 := (part p (by rw [hl]; simp)).app ((Lw.one (c := 124) (by decide)).app (lw_hold (part q (by rw [hl]; simp)) ([4].contains q.kind)))
    rw [e4, text4]
    exact h9.le (by rw [RE.size_mk, RE.sizes_cons, RE.sizes_cons, RE.sizes_nil]; omega)
  · have e5 := full0 hsh (by omega)
    obtain ⟨p, hl⟩ := List.length_eq_one_iff.1 h5.2
    rw [h5.1, hl] at e5
    have h9 := (lw_hold (part p (by rw [hl]; simp)) ([3, 4].contains p.kind)).app (Lw.one (c := 42) (by decide))
    rw [e5, text5]
    exact h9.le (by rw [RE.size_mk, RE.sizes_cons, RE.sizes_nil]; omega)
end Pm
end Go.Proofs.YtfkmajjgkdjncaaGreatDoor

namespace Go.Proofs.YtfkmajjgkdjncaaGreatDoor
open Go.RowKit De Wd Ru Pm
theorem text_plain (s : ByteArray) (hl : ∀ c ∈ sb s, c < 128) : Plain (all 0 (sb s)) s.size (clS s) := by
 rw [all_asc _ _ hl]
 refine ⟨?_, ?_⟩
 · intro k hk
   unfold Wd.plc
   rw [asc_get]
   rw [asc_len] at hk
   by_cases c : k < (sb s).length
   · rw [List.getElem?_eq_getElem c]; simp
   · rw [List.getElem?_eq_none (by omega)]; have := sb_len s; simp; omega
 · intro k t hA hk
   rw [asc_len] at hk
   have ht : ((sb s).drop k).take (k + t.length - k) = t := by
    apply List.ext_getElem?
    intro i
    rw [show k + t.length - k = t.length by omega]
    by_cases hi : i < t.length
    · have := hA i hi
      rw [pk_asc] at this
      rw [List.getElem?_take_of_lt hi, List.getElem?_drop]
      rw [List.getElem?_eq_getElem (show k + i < (sb s).length by omega)] at this ⊢
      rw [List.getElem?_eq_getElem hi]
      simp [List.getD, hi] at this
      rw [this]
    · rw [List.getElem?_eq_none (show t.length ≤ i by omega), List.getElem?_eq_none (by simp; omega)]
   unfold clS
   rw [sb_extract', ht]
   have hz : (s.extract k (k + t.length)).size = t.length := by
    rw [ByteArray.size_extract]
    have := sb_len s
    omega
   rw [hz]
theorem text_src (s : ByteArray) (hl : ∀ c ∈ sb s, c < 128) (hs : s.size ≤ 100000) : SrcOk s (all 0 (sb s)) := by
 have hp := (text_plain s hl).plc
 have hlen : (all 0 (sb s)).length = s.size := by rw [all_asc _ _ hl, asc_len, sb_len]
 have hout : ∀ k, ¬ k < (all 0 (sb s)).length → plc (all 0 (sb s)) s.size k = s.size := fun k hk => by unfold Wd.plc; rw [List.getElem?_eq_none (by omega)]
 refine ⟨hs, fun k => ?_, fun i j hij => ?_, fun i hi => ?_, ?_⟩
 · by_cases h : k ≤ (all 0 (sb s)).length
   · rw [hp k h]; omega
   · rw [hout k (by omega)]; exact Nat.le_refl _
 · by_cases h : j ≤ (all 0 (sb s)).length
   · rw [hp i (by omega), hp j h]; exact hij
   · rw [hout j (by omega)]
     by_cases h2 : i ≤ (all 0 (sb s)).length
     · rw [hp i h2]; omega
     · rw [hout i (by omega)]; exact Nat.le_refl _
 · rw [hp i (by omega), hp (i + 1) (by omega)]; exact Nat.le_refl _
 · exact sc_all _ 0 _ (Nat.le_refl _) (sb_u8 _)
theorem re_text (e : RE) (w : World) (h1 : e.prt = true) (h2 : e.nn = false) (h3 : e.dep ≤ 20) (h4 : e.size ≤ 200) :
 Calls Tryz.prog 14 #[.string e.text] w (ReOk e w) := by
 have hw := lw_all e.size e (Nat.le_refl _) h1 h2
 have hs : e.text.size ≤ 100000 := by have := hw.len; rw [sb_len] at this; omega
 have hS := text_src e.text hw.lo hs
 have hr := reads (text_plain e.text hw.lo) h1 h2 h3 (by rw [all_asc _ _ hw.lo]; exact At.whole _ 0) (by rw [all_asc _ _ hw.lo]; exact asc_len _ 0)
 exact re_ok e.text e w hs (fun p v w' hx => reads_all p e.text _ hS hr v w' hx)
end Go.Proofs.YtfkmajjgkdjncaaGreatDoor
