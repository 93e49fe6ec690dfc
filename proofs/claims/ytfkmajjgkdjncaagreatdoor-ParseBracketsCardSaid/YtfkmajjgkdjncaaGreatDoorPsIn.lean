/- Merged. -/
import Derived.Test.YtfkmajjgkdjncaaGreatDoorPsName
import Derived.Deep.LoopGhost
import Derived.Deep.RegionLaw
set_option linter.unusedVariables false
set_option linter.unusedSimpArgs false
set_option maxHeartbeats 4000000
set_option maxRecDepth 100000
namespace Go.Proofs.YtfkmajjgkdjncaaGreatDoor
open Go.RowKit De Wd
theorem pbraces_any (p k d j : Nat) (U : List Uw) (V : Pm.Ws) (hV : VOk V U) (wv tv rv ti ri : Value) (ns : List ByteArray) (w : World) (h : PI w p U k d wv tv rv ti ri) (h1 : Pm.sg V k 123) (hn : Pm.Nms V (k + 1) ns j) (h2 : Pm.sg V j 125) :
 Calls Tryz.prog 94 #[.pointer (some ⟨p, 0, none⟩)] w fun x w' => ∃ v, x = .returned v ∧ w'.ownsRow w.heap.size 9 1 v ns.length (strs ns) ∧ Ch w w' p ∧ PI w' p U (j + 1) d wv tv rv ti ri := by
 obtain ⟨q1, hq1⟩ := hV.at h.le
 have ht1 : tst 3 ⟨#[123]⟩ q1 = true := by rw [sg_v hV hq1 123]; exact decide_eq_true h1
 have HQ1 := Lib.hid hq1
 have HS1 := Lib.hid ht1
 clear hq1 ht1
 have hplt := h.lt
 have HP := Lib.hid h
 have HN := Lib.hid hn
 have HH2 := Lib.hid h2
 clear h h1 hn h2
 go_enter Tryz.func94, Tryz.ntmps94
 go_wp2_with fail
 refine (text_any 3 ⟨#[123]⟩ _).mono ?_
 rintro x wt1 ⟨b11, b21, rfl, hbx, hbt⟩
 have HT1 := Lib.hid (And.intro (HP.out.moved hbt) (And.intro hbx hbt))
 clear hbx hbt
 go_wp2_with fail
 refine (ptakeT p k d U wv tv rv ti ri 3 ⟨#[123]⟩ b11 b21 q1 _ (by decide) HT1.out.1 HQ1.out HT1.out.2.1 ?_ ?_ HS1.out).mono ?_
 · intro e; have h1 := HT1.out.1.hh; rw [← e, HT1.out.2.1.h1] at h1; cases h1
 · intro e; have h1 := HT1.out.1.hh; rw [← e, HT1.out.2.1.h2] at h1; cases h1
 rintro x w1 ⟨rfl, hc1, hx1⟩
 replace hc1 := (Ch.of (p := p) HT1.out.2.2).trans hc1
 have H1 := Lib.hid (And.intro hx1 hc1)
 have hs1 : w.heap.size ≤ w1.heap.size := hc1.size
 clear hx1 hc1
 go_wp2_with fail
 refine (pnames_any p (k + 1) d j U V hV wv tv rv ti ri ns _ H1.out.1 HN.out).mono ?_
 rintro x w2 ⟨v, rfl, ho2, hc2, hx2⟩
 obtain ⟨q3, hq3⟩ := hV.at hx2.le
 have ht3 : tst 3 ⟨#[125]⟩ q3 = true := by rw [sg_v hV hq3 125]; exact decide_eq_true HH2.out
 have HQ3 := Lib.hid hq3
 have HS3 := Lib.hid ht3
 clear hq3 ht3
 obtain ⟨o2, c2, rfl⟩ := owns_slice ho2
 have H2 := Lib.hid (And.intro hx2 (And.intro (H1.out.2.trans hc2) (owns_base ho2 hs1)))
 clear hx2 hc2 ho2
 go_wp2_with fail
 refine (text_any 3 ⟨#[125]⟩ _).mono ?_
 rintro x wt3 ⟨b13, b23, rfl, hbx, hbt⟩
 have HT3 := Lib.hid (And.intro (H2.out.1.moved hbt) (And.intro hbx hbt))
 clear hbx hbt
 go_wp2_with fail
 refine (ptakeT p j d U wv tv rv ti ri 3 ⟨#[125]⟩ b13 b23 q3 _ (by decide) HT3.out.1 HQ3.out HT3.out.2.1 ?_ ?_ HS3.out).mono ?_
 · intro e; have h1 := HT3.out.1.hh; rw [← e, HT3.out.2.1.h1] at h1; cases h1
 · intro e; have h1 := HT3.out.1.hh; rw [← e, HT3.out.2.1.h2] at h1; cases h1
 rintro x w3 ⟨rfl, hc3, hx3⟩
 replace hc3 := (Ch.of (p := p) HT3.out.2.2).trans hc3
 have ho3 := owns_ag H2.out.2.2 hc3.ag (fun j e => by have := (H2.out.2.2.lt j e).1; omega)
 have H3 := Lib.hid (And.intro hx3 (And.intro (H2.out.2.1.trans hc3) ho3))
 clear hx3 hc3 ho3
 go_wp2_with fail
 go_ret
 exact ⟨_, rfl, H3.out.2.2, H3.out.2.1, H3.out.1⟩
end Go.Proofs.YtfkmajjgkdjncaaGreatDoor

set_option maxHeartbeats 4000000
set_option maxRecDepth 100000
namespace Go.Proofs.YtfkmajjgkdjncaaGreatDoor
open Go.RowKit De Wd
theorem ptIs_nil (w : World) (k : Int) : PtIs w (.mk k [] [] []) (.slice none 0 0) (.slice none 0 0) (.slice none 0 0) :=
 .mk k [] [] [] _ _ _ [] (row_zero _ _ _ rfl) (row_zero _ _ _ rfl) (row_zero _ _ _ rfl) rfl (fun i c p h => by simp at h) (fun i c p h => by simp at h)
theorem QI.store {w w5 : World} {p b r N k0 d0 k1 d : Nat} {U : List Uw} {wv tv rv ti ri tv0 rv0 ti0 ri0 x0 x1 x2 x3 y0 y1 y2 y3 nv ev lv : Value} {e : PT}
 (h0 : PI w p U k0 d0 wv tv0 rv0 ti0 ri0) (hc : Ch w w5 p) (hx : PI w5 p U k1 d wv tv rv ti ri)
 (hb : w5.heap[b]? = some (.cells #[x0, x1, x2, x3] 58 (0, 0))) (hr : w5.heap[r]? = some (.cells #[y0, y1, y2, y3] 58 (0, 0)))
 (ke : KP (fun j => N ≤ j) w5 (fun w2 => PtIs w2 e nv ev lv)) (hwb : w.heap.size ≤ b) (hwr : w.heap.size ≤ r) (hrb : r < b) (hbn : b < N) :
 QI w ((((w5.setCell ⟨b, 0, none⟩ (.int .i64 e.kind)).setCell ⟨b, 1, none⟩ nv).setCell ⟨b, 2, none⟩ ev).setCell ⟨b, 3, none⟩ lv) p b r U d k1 wv tv rv ti ri e nv ev lv := by
 refine ⟨h0.setNew (h0.setNew (h0.setNew (h0.setNew hx hwb) hwb) hwb) hwb, (((hc.setNew' hwb).setNew' hwb).setNew' hwb).setNew' hwb, set4_at _ _ _ _ hb, ⟨y0, y1, y2, y3, ?_⟩, ?_⟩
 · rw [Below.heap_setCell _ _ _ _ (by simp; omega), Below.heap_setCell _ _ _ _ (by simp; omega), Below.heap_setCell _ _ _ _ (by simp; omega), Below.heap_setCell _ _ _ _ (by simp; omega)]; exact hr
 · refine (ke.to (((((Ag.refl _ _).setCell (fun h => ?_) _).setCell (fun h => ?_) _).setCell (fun h => ?_) _).setCell (fun h => ?_) _)).sub (fun j _ hj => ⟨by omega, by omega⟩)
   all_goals exact Nat.lt_irrefl _ (Nat.lt_of_lt_of_le hbn h)
theorem pparens_any (p k d k1 : Nat) (U : List Uw) (V : Pm.Ws) (hV : VOk V U) (wv tv rv ti ri : Value) (e : PT) (w : World) (h : PI w p U k d wv tv rv ti ri) (h1 : Pm.sg V k 40) (hd : d < 40) (hnone : Pm.sg V (k + 1) 41 → e = .mk 1 [] [] [] ∧ k1 = k + 1) (hk1 : Pm.sg V k1 41)
 (hpat : ¬ Pm.sg V (k + 1) 41 → ∀ w, PI w p U (k + 1) (d + 1) wv tv rv ti ri → Calls Tryz.prog 95 #[.pointer (some ⟨p, 0, none⟩)] w fun x w' => PtP w w' e x ∧ Ch w w' p ∧ PI w' p U k1 (d + 1) wv tv rv ti ri) :
 Calls Tryz.prog 183 #[.pointer (some ⟨p, 0, none⟩)] w fun x w' => PtP w w' e x ∧ Ch w w' p ∧ PI w' p U (k1 + 1) d wv tv rv ti ri := by
 have hplt := h.lt
 obtain ⟨b, hb0⟩ : ∃ b, b = w.heap.size + 1 := ⟨_, rfl⟩
 have HX := Lib.hid h
 obtain ⟨W0, hW0⟩ : ∃ W0, W0 = (w.alloc (.cells #[.int .i64 0, .slice none 0 0, .slice none 0 0, .slice none 0 0] 58)).alloc (.cells #[.int .i64 1, .slice none 0 0, .slice none 0 0, .slice none 0 0] 58) := ⟨_, rfl⟩
 have hbel : Below w.heap.size w W0 := by rw [hW0]; exact bel_new (bel_new (Below.refl _ _) _) _
 have hx0 := h.moved hbel
 have hb0c : W0.heap[b]? = some (.cells #[.int .i64 1, .slice none 0 0, .slice none 0 0, .slice none 0 0] 58 (0, 0)) := by rw [hW0, hb0]; have := heap_alloc_new (w.alloc (.cells #[.int .i64 0, .slice none 0 0, .slice none 0 0, .slice none 0 0] 58)) (.cells #[.int .i64 1, .slice none 0 0, .slice none 0 0, .slice none 0 0] 58); simpa using this
 have hr0c : W0.heap[w.heap.size]? = some (.cells #[.int .i64 0, .slice none 0 0, .slice none 0 0, .slice none 0 0] 58 (0, 0)) := by rw [hW0, Below.heap_alloc _ _ _ (by simp)]; exact heap_alloc_new w _
 have HPAT := Lib.hid hpat
 have HNO := Lib.hid hnone
 have HS := Lib.hid (And.intro h1 hk1)
 have H0 := Lib.hid (And.intro hx0 (And.intro hb0c (And.intro hr0c hbel)))
 have HW0 := Lib.hid hW0
 clear h hnone h1 hk1 hpat hx0 hb0c hr0c hbel hW0
 go_enter Tryz.func183, Tryz.ntmps183
 go_wp2_with (with_reducible rw [← HW0.out])
 simp only [← hb0]
 have hbg : w.heap.size < b := by omega
 have hbl : b ≤ w.heap.size + 1 := by omega
 clear hb0
 refine (popen_any p k d U V hV wv tv rv ti ri 40 _ H0.out.1 HS.out.1 hd).mono ?_
 rintro x w1 ⟨rfl, hc1, hx1⟩
 have hpb : p ≠ b := by omega
 obtain ⟨q2, hq2⟩ := hV.at hx1.le
 have hsg := sg_v hV hq2 41
 have H1 := Lib.hid (And.intro hx1 (And.intro ((hc1.block _ (lt_of_some H0.out.2.1) (by omega)).trans H0.out.2.1) (And.intro ((hc1.block _ (lt_of_some H0.out.2.2.1) (by omega)).trans H0.out.2.2.1) ((Ch.of H0.out.2.2.2).trans hc1))))
 have HQ2 := Lib.hid hq2
 clear hx1 hc1 hq2
 go_wp2_with fail
 refine (sees_any p (k + 1) (d + 1) U wv tv rv ti ri ⟨#[41]⟩ q2 _ H1.out.1 HQ2.out).mono ?_
 rintro x w2 ⟨rfl, hb2⟩
 by_cases hcase : Pm.sg V (k + 1) 41
 · rw [decide_eq_true (show Pm.sg V (k + 1) ((41 : UInt8).toNat : Int) from hcase)] at hsg
   rw [hsg]
   clear hsg HPAT
   obtain ⟨rfl, rfl⟩ := HNO.out hcase
   have HQI := Lib.hid (show QI w w2 p b w.heap.size U (d + 1) (k + 1) wv tv rv ti ri (.mk 1 [] [] []) (.slice none 0 0) (.slice none 0 0) (.slice none 0 0) from ⟨H1.out.1.moved hb2, H1.out.2.2.2.trans (Ch.of hb2), (hb2.block _ (lt_of_some H1.out.2.1)).trans H1.out.2.1, ⟨_, _, _, _, (hb2.block _ (lt_of_some H1.out.2.2.1)).trans H1.out.2.2.1⟩, fun w' _ => ptIs_nil w' 1⟩)
   clear hb2 hcase
   obtain ⟨q3, hq3⟩ := hV.at HQI.out.x.le
   have ht3 : tst 3 ⟨#[41]⟩ q3 = true := by rw [sg_v hV hq3 41]; exact decide_eq_true HS.out.2
   have HQ3 := Lib.hid hq3
   have HS3 := Lib.hid ht3
   clear hq3 ht3
   go_wp2_with fail
   refine (pshut_any p (k + 1) d U V hV wv tv rv ti ri 41 _ HQI.out.x (by have := HS3.out; rw [sg_v hV HQ3.out 41] at this; exact of_decide_eq_true this) hd).mono ?_
   rintro x w3 ⟨rfl, hc3, hx3⟩
   have hbr : ¬ b = w.heap.size := by omega
   have hb3 := (hc3.block _ (lt_of_some HQI.out.hb) (fun e => hpb e.symm)).trans HQI.out.hb
   obtain ⟨z0, z1, z2, z3, hz⟩ := HQI.out.hr
   have hr3 := (hc3.block _ (lt_of_some hz) (by omega)).trans hz
   obtain ⟨⟨d0, d1, d2, d3⟩, g0, g1, g2, g3⟩ := cells4_of' hb3
   obtain ⟨⟨r0, r1, r2, r3⟩, x0, x1, x2, x3⟩ := cells4_of' hr3
   have hkp3 := HQI.out.kp.to (hc3.ag.sub (fun j _ hj => by omega))
   have HF := Lib.hid (fin4 HX.out hr3 rfl (HQI.out.c.trans hc3) hx3 hkp3 (fun j hj => hj.1))
   clear hb3 hz hkp3 hc3 hx3 hr3
   go_wp2_with fail
   obtain ⟨W9, hW, ⟨⟨e0, e1, e2, e3⟩, m0, m1, m2, m3⟩, hre, hc9, hx9⟩ := HF.out
   have HW := Lib.hid hW
   clear hW HF
   try rw [← HW.out]
   refine bodyPost_ret (v := .agg #[.int .i64 (PT.mk 1 [] [] []).kind, .slice none 0 0, .slice none 0 0, .slice none 0 0]) (by simp [results, Tryz.results183, go_sem, e0, e1, e2, e3, m0, m1, m2, m3]) rfl ⟨hre, hc9, hx9⟩
 · rw [decide_eq_false (show ¬ Pm.sg V (k + 1) ((41 : UInt8).toNat : Int) from hcase)] at hsg
   rw [hsg]
   clear hsg HNO
   have HC := Lib.hid hcase
   have H2 := Lib.hid (And.intro (H1.out.1.moved hb2) (And.intro ((hb2.block _ (lt_of_some H1.out.2.1)).trans H1.out.2.1) (And.intro ((hb2.block _ (lt_of_some H1.out.2.2.1)).trans H1.out.2.2.1) (H1.out.2.2.2.trans (Ch.of hb2)))))
   have hbl2 : b < w2.heap.size := lt_of_some H2.out.2.1
   clear hb2 hcase
   go_wp2_with fail
   refine (HPAT.out HC.out _ H2.out.1).mono ?_
   rintro x w5 ⟨⟨n5, e5, l5, rfl, hk5⟩, hc5, hx5⟩
   obtain ⟨⟨o7, q7, rfl⟩, ⟨o8, q8, rfl⟩, ⟨o9, q9, rfl⟩⟩ := hk5.here.form
   have hb5 := (hc5.block _ hbl2 (by omega)).trans H2.out.2.1
   have hr5 := (hc5.block _ (by omega) (by omega)).trans H2.out.2.2.1
   obtain ⟨⟨d0, d1, d2, d3⟩, g0, g1, g2, g3⟩ := cells4_of' hb5
   have hqi := QI.store HX.out (H2.out.2.2.2.trans hc5) hx5 hb5 hr5 hk5 (by omega) (Nat.le_refl _) (by omega) hbl2
   obtain ⟨W6, hW6⟩ : ∃ W6, W6 = (((w5.setCell ⟨b, 0, none⟩ (.int .i64 e.kind)).setCell ⟨b, 1, none⟩ (.slice o7 e.names.length q7)).setCell ⟨b, 2, none⟩ (.slice o8 e.ends.length q8)).setCell ⟨b, 3, none⟩ (.slice o9 e.parts.length q9) := ⟨_, rfl⟩
   rw [← hW6] at hqi
   have HQI := Lib.hid hqi
   have HW6 := Lib.hid hW6
   clear hqi hW6 hb5 hr5 hc5 hx5 hk5
   go_wp2_with (with_reducible rw [← HW6.out])
   clear d0 d1 d2 d3 g0 g1 g2 g3
   obtain ⟨q3, hq3⟩ := hV.at HQI.out.x.le
   have ht3 : tst 3 ⟨#[41]⟩ q3 = true := by rw [sg_v hV hq3 41]; exact decide_eq_true HS.out.2
   have HQ3 := Lib.hid hq3
   have HS3 := Lib.hid ht3
   clear hq3 ht3
   go_wp2_with fail
   refine (pshut_any p k1 d U V hV wv tv rv ti ri 41 _ HQI.out.x (by have := HS3.out; rw [sg_v hV HQ3.out 41] at this; exact of_decide_eq_true this) hd).mono ?_
   rintro x w3 ⟨rfl, hc3, hx3⟩
   have hbr : ¬ b = w.heap.size := by omega
   have hb3 := (hc3.block _ (lt_of_some HQI.out.hb) (fun e => hpb e.symm)).trans HQI.out.hb
   obtain ⟨z0, z1, z2, z3, hz⟩ := HQI.out.hr
   have hr3 := (hc3.block _ (lt_of_some hz) (by omega)).trans hz
   obtain ⟨⟨d0, d1, d2, d3⟩, g0, g1, g2, g3⟩ := cells4_of' hb3
   obtain ⟨⟨r0, r1, r2, r3⟩, x0, x1, x2, x3⟩ := cells4_of' hr3
   have hkp3 := HQI.out.kp.to (hc3.ag.sub (fun j _ hj => by omega))
   have HF := Lib.hid (fin4 HX.out hr3 rfl (HQI.out.c.trans hc3) hx3 hkp3 (fun j hj => hj.1))
   clear hb3 hz hkp3 hc3 hx3 hr3
   go_wp2_with fail
   obtain ⟨W9, hW, ⟨⟨e0, e1, e2, e3⟩, m0, m1, m2, m3⟩, hre, hc9, hx9⟩ := HF.out
   have HW := Lib.hid hW
   clear hW HF
   try rw [← HW.out]
   refine bodyPost_ret (v := .agg #[.int .i64 e.kind, .slice o7 e.names.length q7, .slice o8 e.ends.length q8, .slice o9 e.parts.length q9]) (by simp [results, Tryz.results183, go_sem, e0, e1, e2, e3, m0, m1, m2, m3]) rfl ⟨hre, hc9, hx9⟩
end Go.Proofs.YtfkmajjgkdjncaaGreatDoor

set_option maxHeartbeats 4000000
set_option maxRecDepth 100000
namespace Go.Proofs.YtfkmajjgkdjncaaGreatDoor
open Go.RowKit De Wd
theorem pn_in {w : World} {k : Int} {ns es : List ByteArray} {a : PT} {v v2 n1 e1 l1 : Value} {q : Nat} {t : TypeId} (hn : Row w v ns.length (strs ns)) (he : Row w v2 es.length (strs es)) (hq : w.heap[q]? = some (.cells #[.int .i64 a.kind, n1, e1, l1] t (0, 0))) (ha : PtIs w a n1 e1 l1) :
 PtIs w (.mk k ns es [a]) v v2 (.slice (some ⟨q, 0, none⟩) 1 1) := by
 refine .mk k ns es [a] _ _ _ [(a.kind, n1, e1, l1)] hn he ⟨_, 1, rfl, Nat.le_refl _, by show (1 : Nat) ≤ _; decide, .inr ⟨q, 0, rfl, lt_of_some hq, ?_⟩⟩ rfl ?_ ?_
 · intro j u hu
   unfold World.cell?
   rw [show (⟨q, 0 + j, none⟩ : Addr).block = q from rfl, hq]
   match j, hu with
   | 0, h => simpa [quad] using h
   | 1, h => simpa [quad] using h
   | 2, h => simpa [quad] using h
   | 3, h => simpa [quad] using h
   | j + 4, h => simp [quad] at h
 · intro i e p he hp
   match i, he, hp with
   | 0, he, hp => cases he; cases hp; rfl
   | i + 1, he, hp => simp at he
 · intro i e p he hp
   match i, he, hp with
   | 0, he, hp => cases he; cases hp; exact ha
   | i + 1, he, hp => simp at he
theorem pn_tok {w : World} {k : Int} {ns : List ByteArray} {v : Value} (hn : Row w v ns.length (strs ns)) : PtIs w (.mk k ns [] []) v (.slice none 0 0) (.slice none 0 0) :=
 .mk k ns [] [] _ _ _ [] hn (row_zero _ _ _ rfl) (row_zero _ _ _ rfl) rfl (fun i c p h => by simp at h) (fun i c p h => by simp at h)
theorem owns_kp {w : World} {base r b n : Nat} {e : TypeId} {size : Nat} {v : Value} {xs : List Value} (ho : w.ownsRow base e size v n xs) (hr : r < base) (hb : w.heap.size ≤ b) : KP (fun j => r < j ∧ j ≠ b) w (fun w' => Row w' v n xs) :=
 fun w' hag => Row.owned (owns_ag ho hag (fun j e => by have := ho.lt j e; omega))
theorem owns_kp2 {w : World} {base r b n : Nat} {e : TypeId} {size : Nat} {v : Value} {xs : List Value} (ho : w.ownsRow base e size v n xs) (hr : r < base) (hb : b < base) : KP (fun j => r < j ∧ j ≠ b) w (fun w' => Row w' v n xs) :=
 fun w' hag => Row.owned (owns_ag ho hag (fun j e => by have := ho.lt j e; omega))
theorem kp_ch {w w' : World} {p r b : Nat} {F : World → Prop} (h : KP (fun j => r < j ∧ j ≠ b) w F) (hc : Ch w w' p) (hp : p ≤ r) : KP (fun j => r < j ∧ j ≠ b) w' F := h.to (hc.ag.sub (fun j _ hj => by omega))
theorem kp_set {w : World} {r b i : Nat} {x : Value} {F : World → Prop} (h : KP (fun j => r < j ∧ j ≠ b) w F) : KP (fun j => r < j ∧ j ≠ b) (w.setCell ⟨b, i, none⟩ x) F := h.to ((Ag.refl _ _).setCell (fun h => h.2 rfl) _)
theorem kp_new {w : World} {r b : Nat} {o : Obj} {F : World → Prop} (h : KP (fun j => r < j ∧ j ≠ b) w F) : KP (fun j => r < j ∧ j ≠ b) (w.alloc o) F := h.to (Ag.of (bel_new (Below.refl _ _) o))
structure BI (w W : World) (p b r : Nat) (U : List Uw) (d k : Nat) (wv tv rv ti ri c0 c1 c2 c3 : Value) : Prop where
 x : PI W p U k d wv tv rv ti ri
 c : Ch w W p
 hb : W.heap[b]? = some (.cells #[c0, c1, c2, c3] 58 (0, 0))
 hr : ∃ c0 c1 c2 c3, W.heap[r]? = some (.cells #[c0, c1, c2, c3] 58 (0, 0))
section
variable {w W W' : World} {p b r d k d' k' k0 d0 : Nat} {U : List Uw} {wv tv rv ti ri c0 c1 c2 c3 tv0 rv0 ti0 ri0 : Value}
theorem BI.to (h : BI w W p b r U d k wv tv rv ti ri c0 c1 c2 c3) (hc : Ch W W' p) (hx : PI W' p U k' d' wv tv rv ti ri) (hb : b ≠ p) (hr : r ≠ p) : BI w W' p b r U d' k' wv tv rv ti ri c0 c1 c2 c3 := by
 obtain ⟨z0, z1, z2, z3, hz⟩ := h.hr
 exact ⟨hx, h.c.trans hc, (hc.block _ (lt_of_some h.hb) hb).trans h.hb, ⟨z0, z1, z2, z3, (hc.block _ (lt_of_some hz) hr).trans hz⟩⟩
theorem BI.new (h : BI w W p b r U d k wv tv rv ti ri c0 c1 c2 c3) (o : Obj) (hb : b ≠ p) (hr : r ≠ p) : BI w (W.alloc o) p b r U d k wv tv rv ti ri c0 c1 c2 c3 :=
 h.to (Ch.of (bel_new (Below.refl _ _) o)) (h.x.moved (bel_new (Below.refl _ _) o)) hb hr
theorem BI.set2 (h0 : PI w p U k0 d0 wv tv0 rv0 ti0 ri0) (h : BI w W p b r U d k wv tv rv ti ri c0 c1 c2 c3) (x : Value) (hwb : w.heap.size ≤ b) (hbr : b ≠ r) : BI w (W.setCell ⟨b, 2, none⟩ x) p b r U d k wv tv rv ti ri c0 c1 x c3 := by
 obtain ⟨z0, z1, z2, z3, hz⟩ := h.hr
 exact ⟨h0.setNew h.x hwb, h.c.setNew' hwb, by have := h.hb; simp [World.setCell, Array.getElem?_modify, this], ⟨z0, z1, z2, z3, by rw [Below.heap_setCell _ _ _ _ (by simpa using fun e => hbr e.symm)]; exact hz⟩⟩
theorem BI.set3 (h0 : PI w p U k0 d0 wv tv0 rv0 ti0 ri0) (h : BI w W p b r U d k wv tv rv ti ri c0 c1 c2 c3) (x : Value) (hwb : w.heap.size ≤ b) (hbr : b ≠ r) : BI w (W.setCell ⟨b, 3, none⟩ x) p b r U d k wv tv rv ti ri c0 c1 c2 x := by
 obtain ⟨z0, z1, z2, z3, hz⟩ := h.hr
 exact ⟨h0.setNew h.x hwb, h.c.setNew' hwb, by have := h.hb; simp [World.setCell, Array.getElem?_modify, this], ⟨z0, z1, z2, z3, by rw [Below.heap_setCell _ _ _ _ (by simpa using fun e => hbr e.symm)]; exact hz⟩⟩
end
theorem pin_any (p k d j k1 j2 : Nat) (U : List Uw) (V : Pm.Ws) (hV : VOk V U) (wv tv rv ti ri : Value) (ns es : List ByteArray) (e : PT) (w : World) (h : PI w p U k d wv tv rv ti ri) (h1 : Pm.sg V k 60) (hd : d < 40) (hn : Pm.Nms V (k + 1) ns j) (h2 : Pm.sg V j 58) (h3 : Pm.sg V k1 58) (hn2 : Pm.Nms V (k1 + 1) es j2) (h4 : Pm.sg V j2 62)
 (hpat : ∀ w, PI w p U (j + 1) (d + 1) wv tv rv ti ri → Calls Tryz.prog 95 #[.pointer (some ⟨p, 0, none⟩)] w fun x w' => PtP w w' e x ∧ Ch w w' p ∧ PI w' p U k1 (d + 1) wv tv rv ti ri) :
 Calls Tryz.prog 182 #[.pointer (some ⟨p, 0, none⟩)] w fun x w' => PtP w w' (.mk 3 ns es [e]) x ∧ Ch w w' p ∧ PI w' p U (j2 + 1) d wv tv rv ti ri := by
 have hplt := h.lt
 have hpr : w.heap.size ≠ p := by omega
 have hprl : p ≤ w.heap.size := by omega
 have hbel := bel_new (Below.refl w.heap.size w) (.cells #[.int .i64 0, .slice none 0 0, .slice none 0 0, .slice none 0 0] 58)
 have HX := Lib.hid h
 have H0 := Lib.hid (And.intro (h.moved hbel) (And.intro (heap_alloc_new w (.cells #[.int .i64 0, .slice none 0 0, .slice none 0 0, .slice none 0 0] 58)) (Ch.of (p := p) hbel)))
 have HPAT := Lib.hid hpat
 have HS := Lib.hid (And.intro h1 (And.intro h2 (And.intro h3 h4)))
 have HN := Lib.hid (And.intro hn hn2)
 clear h h1 hpat hbel hn h2 h3 hn2 h4
 go_enter Tryz.func182, Tryz.ntmps182
 go_wp2_with fail
 refine (popen_any p k d U V hV wv tv rv ti ri 60 _ H0.out.1 HS.out.1 hd).mono ?_
 rintro x w1 ⟨rfl, hc1, hx1⟩
 have hsz1 : w.heap.size < w1.heap.size := by have := hc1.size; simp at this; omega
 have H1 := Lib.hid (And.intro hx1 (And.intro ((hc1.block _ (by simp) hpr).trans H0.out.2.1) (H0.out.2.2.trans hc1)))
 clear hx1 hc1
 go_wp2_with fail
 refine (pnames_any p (k + 1) (d + 1) j U V hV wv tv rv ti ri ns _ H1.out.1 HN.out.1).mono ?_
 rintro x w2 ⟨v, rfl, ho2, hc2, hx2⟩
 obtain ⟨o2, q2, rfl⟩ := owns_slice ho2
 obtain ⟨b, hb0⟩ : ∃ b, b = w2.heap.size := ⟨_, rfl⟩
 have hsz2 := hc2.size
 have hbg : w.heap.size < b := by omega
 have hbp : b ≠ p := by omega
 have hbr : b ≠ w.heap.size := by omega
 have hwb : w.heap.size ≤ b := by omega
 obtain ⟨W2, hW2⟩ : ∃ W2, W2 = w2.alloc (.cells #[.int .i64 3, .slice o2 ns.length q2, .slice none 0 0, .slice none 0 0] 58) := ⟨_, rfl⟩
 have hbi : BI w W2 p b w.heap.size U (d + 1) j wv tv rv ti ri (.int .i64 3) (.slice o2 ns.length q2) (.slice none 0 0) (.slice none 0 0) := by
  have hbl2 := bel_new (Below.refl w2.heap.size w2) (.cells #[.int .i64 3, .slice o2 ns.length q2, .slice none 0 0, .slice none 0 0] 58)
  rw [hW2]
  exact ⟨hx2.moved hbl2, (H1.out.2.2.trans hc2).trans (Ch.of hbl2), by rw [hb0]; exact heap_alloc_new w2 _, ⟨_, _, _, _, (hbl2.block _ (by omega)).trans ((hc2.block _ hsz1 hpr).trans H1.out.2.1)⟩⟩
 have hkn : KP (fun j => w.heap.size < j ∧ j ≠ b) W2 (fun w' => Row w' (.slice o2 ns.length q2) ns.length (strs ns)) := by
  rw [hW2]; exact kp_new (owns_kp ho2 hsz1 (by omega))
 have H2 := Lib.hid (And.intro hbi hkn)
 have HW2 := Lib.hid hW2
 have HB0 := Lib.hid hb0
 obtain ⟨q3, hq3⟩ := hV.at hbi.x.le
 have ht3 : tst 3 ⟨#[58]⟩ q3 = true := by rw [sg_v hV hq3 58]; exact decide_eq_true HS.out.2.1
 have HQ3 := Lib.hid hq3
 have HS3 := Lib.hid ht3
 clear hq3 ht3
 clear hx2 hc2 ho2 hbi hkn hW2 hb0
 go_wp2_with (with_reducible rw [← HW2.out])
 simp only [← HB0.out]
 refine (text_any 3 ⟨#[58]⟩ _).mono ?_
 rintro x wt3 ⟨b13, b23, rfl, hbx, hbt⟩
 have HT3 := Lib.hid (And.intro (H2.out.1.x.moved hbt) (And.intro hbx hbt))
 clear hbx hbt
 go_wp2_with fail
 refine (ptakeT p j (d + 1) U wv tv rv ti ri 3 ⟨#[58]⟩ b13 b23 q3 _ (by decide) HT3.out.1 HQ3.out HT3.out.2.1 ?_ ?_ HS3.out).mono ?_
 · intro e; have h1 := HT3.out.1.hh; rw [← e, HT3.out.2.1.h1] at h1; cases h1
 · intro e; have h1 := HT3.out.1.hh; rw [← e, HT3.out.2.1.h2] at h1; cases h1
 rintro x w3 ⟨rfl, hc3, hx3⟩
 replace hc3 := (Ch.of (p := p) HT3.out.2.2).trans hc3
 have H3 := Lib.hid (And.intro (H2.out.1.to hc3 hx3 hbp hpr) (kp_ch H2.out.2 hc3 hprl))
 clear hc3 hx3
 go_wp2_with fail
 refine (HPAT.out _ H3.out.1.x).mono ?_
 rintro x w5 ⟨⟨n5, e5, l5, rfl, hk5⟩, hc5, hx5⟩
 obtain ⟨⟨o7, q7, rfl⟩, ⟨o8, q8, rfl⟩, ⟨o9, q9, rfl⟩⟩ := hk5.here.form
 have hb3 := lt_of_some H3.out.1.hb
 have hw53 := hc5.size
 have hbi5 := H3.out.1.to hc5 hx5 hbp hpr
 have hkn5 := kp_ch H3.out.2 hc5 hprl
 have hk5' : KP (fun j => w.heap.size < j ∧ j ≠ b) w5 (fun w' => PtIs w' e (.slice o7 e.names.length q7) (.slice o8 e.ends.length q8) (.slice o9 e.parts.length q9)) := hk5.sub (fun j _ hj => ⟨by omega, by omega⟩)
 obtain ⟨⟨d0, d1, d2, d3⟩, g0, g1, g2, g3⟩ := cells4_of' hbi5.hb
 have H5 := Lib.hid (And.intro hbi5 (And.intro hkn5 hk5'))
 have hqb5 : ¬ w5.heap.size = b := by omega
 have hqb6 : ¬ b = w5.heap.size := by omega
 have hbl5 : b < w5.heap.size := by omega
 clear hbi5 hkn5 hk5 hk5' hc5 hx5
 obtain ⟨q, hq⟩ : ∃ q, q = w5.heap.size := ⟨_, rfl⟩
 obtain ⟨W6, hW6⟩ : ∃ W6, W6 = (w5.setCell ⟨b, 3, none⟩ (.slice (some ⟨w5.heap.size, 0, none⟩) 1 1)).alloc (.cells #[.int .i64 e.kind, .slice o7 e.names.length q7, .slice o8 e.ends.length q8, .slice o9 e.parts.length q9] 58) := ⟨_, rfl⟩
 have hbi6 : BI w W6 p b w.heap.size U (d + 1) k1 wv tv rv ti ri (.int .i64 3) (.slice o2 ns.length q2) (.slice none 0 0) (.slice (some ⟨q, 0, none⟩) 1 1) := by
  rw [hW6, hq]; exact (BI.set3 HX.out H5.out.1 _ hwb hbr).new _ hbp hpr
 have hkn6 : KP (fun j => w.heap.size < j ∧ j ≠ b) W6 (fun w' => Row w' (.slice o2 ns.length q2) ns.length (strs ns)) := by
  rw [hW6]; exact kp_new (kp_set H5.out.2.1)
 have hkq6 : KP (fun j => w.heap.size < j ∧ j ≠ b) W6 (fun w' => w'.heap[q]? = some (.cells #[.int .i64 e.kind, .slice o7 e.names.length q7, .slice o8 e.ends.length q8, .slice o9 e.parts.length q9] 58 (0, 0)) ∧ PtIs w' e (.slice o7 e.names.length q7) (.slice o8 e.ends.length q8) (.slice o9 e.parts.length q9)) := by
  rw [hW6]
  intro w' hag
  refine ⟨KP.block (o := .cells #[.int .i64 e.kind, .slice o7 e.names.length q7, .slice o8 e.ends.length q8, .slice o9 e.parts.length q9] 58 (0, 0)) ?_ ⟨by omega, by omega⟩ w' hag, kp_new (kp_set H5.out.2.2) w' hag⟩
  have := heap_alloc_new (w5.setCell ⟨b, 3, none⟩ (.slice (some ⟨w5.heap.size, 0, none⟩) 1 1)) (.cells #[.int .i64 e.kind, .slice o7 e.names.length q7, .slice o8 e.ends.length q8, .slice o9 e.parts.length q9] 58)
  rw [hq]
  simpa [World.setCell] using this
 have hbW6 : b < W6.heap.size := lt_of_some hbi6.hb
 have H6 := Lib.hid (And.intro hbi6 (And.intro hkn6 hkq6))
 have HW6 := Lib.hid hW6
 have HQQ := Lib.hid hq
 obtain ⟨q5, hq5⟩ := hV.at hbi6.x.le
 have ht5 : tst 3 ⟨#[58]⟩ q5 = true := by rw [sg_v hV hq5 58]; exact decide_eq_true HS.out.2.2.1
 have HQ5 := Lib.hid hq5
 have HS5 := Lib.hid ht5
 clear hq5 ht5
 clear hbi6 hkn6 hkq6 hW6 hq d0 d1 d2
 go_wp2_with (with_reducible rw [← HW6.out])
 simp only [← HQQ.out]
 clear d3 g0 g1 g2 g3 hqb5 hqb6 hbl5
 refine (text_any 3 ⟨#[58]⟩ _).mono ?_
 rintro x wt5 ⟨b15, b25, rfl, hbx, hbt⟩
 have HT5 := Lib.hid (And.intro (H6.out.1.x.moved hbt) (And.intro hbx hbt))
 clear hbx hbt
 go_wp2_with fail
 refine (ptakeT p k1 (d + 1) U wv tv rv ti ri 3 ⟨#[58]⟩ b15 b25 q5 _ (by decide) HT5.out.1 HQ5.out HT5.out.2.1 ?_ ?_ HS5.out).mono ?_
 · intro e; have h1 := HT5.out.1.hh; rw [← e, HT5.out.2.1.h1] at h1; cases h1
 · intro e; have h1 := HT5.out.1.hh; rw [← e, HT5.out.2.1.h2] at h1; cases h1
 rintro x w7 ⟨rfl, hc7, hx7⟩
 replace hc7 := (Ch.of (p := p) HT5.out.2.2).trans hc7
 have hsz7 := hc7.size
 have H7 := Lib.hid (And.intro (H6.out.1.to hc7 hx7 hbp hpr) (And.intro (kp_ch H6.out.2.1 hc7 hprl) (kp_ch H6.out.2.2 hc7 hprl)))
 clear hc7 hx7
 go_wp2_with fail
 refine (pnames_any p (k1 + 1) (d + 1) j2 U V hV wv tv rv ti ri es _ H7.out.1.x HN.out.2).mono ?_
 rintro x w8 ⟨v8, rfl, ho8, hc8, hx8⟩
 obtain ⟨o6, q6, rfl⟩ := owns_slice ho8
 have hbi8 := H7.out.1.to hc8 hx8 hbp hpr
 have hke8 := owns_kp2 (r := w.heap.size) (b := b) ho8 (by omega) (by omega)
 obtain ⟨⟨d0, d1, d2, d3⟩, g0, g1, g2, g3⟩ := cells4_of' hbi8.hb
 obtain ⟨W9, hW9⟩ : ∃ W9, W9 = w8.setCell ⟨b, 2, none⟩ (.slice o6 es.length q6) := ⟨_, rfl⟩
 have hbi9 := BI.set2 HX.out hbi8 (.slice o6 es.length q6) hwb hbr
 have hkp9 : KP (fun j => w.heap.size < j ∧ j ≠ b) W9 (fun w' => PtIs w' (.mk 3 ns es [e]) (.slice o2 ns.length q2) (.slice o6 es.length q6) (.slice (some ⟨q, 0, none⟩) 1 1)) := by
  rw [hW9]
  intro w' hag
  have h9 := kp_set (kp_ch H7.out.2.2 hc8 hprl) w' hag
  exact pn_in (kp_set (kp_ch H7.out.2.1 hc8 hprl) w' hag) (kp_set hke8 w' hag) h9.1 h9.2
 rw [← hW9] at hbi9
 have HQI := Lib.hid (show QI w W9 p b w.heap.size U (d + 1) j2 wv tv rv ti ri (.mk 3 ns es [e]) (.slice o2 ns.length q2) (.slice o6 es.length q6) (.slice (some ⟨q, 0, none⟩) 1 1) from ⟨hbi9.x, hbi9.c, hbi9.hb, hbi9.hr, hkp9⟩)
 have HW9 := Lib.hid hW9
 have hpb : p ≠ b := fun e => hbp e.symm
 clear hbi8 hbi9 hkp9 hke8 ho8 hc8 hx8 hW9
 go_wp2_with (with_reducible rw [← HW9.out])
 clear d0 d1 d2 d3 g0 g1 g2 g3
 obtain ⟨q10, hq10⟩ := hV.at HQI.out.x.le
 have ht10 : tst 3 ⟨#[62]⟩ q10 = true := by rw [sg_v hV hq10 62]; exact decide_eq_true HS.out.2.2.2
 have HQ10 := Lib.hid hq10
 have HS10 := Lib.hid ht10
 clear hq10 ht10
 go_wp2_with fail
 refine (pshut_any p j2 d U V hV wv tv rv ti ri 62 _ HQI.out.x (by have := HS10.out; rw [sg_v hV HQ10.out 62] at this; exact of_decide_eq_true this) hd).mono ?_
 rintro x w10 ⟨rfl, hc10, hx10⟩
 have hbr9 : ¬ b = w.heap.size := by omega
 have hb10 := (hc10.block _ (lt_of_some HQI.out.hb) (fun e => hpb e.symm)).trans HQI.out.hb
 obtain ⟨z0, z1, z2, z3, hz⟩ := HQI.out.hr
 have hr10 := (hc10.block _ (lt_of_some hz) (by omega)).trans hz
 obtain ⟨⟨d0, d1, d2, d3⟩, g0, g1, g2, g3⟩ := cells4_of' hb10
 obtain ⟨⟨r0, r1, r2, r3⟩, x0, x1, x2, x3⟩ := cells4_of' hr10
 have hkp10 := HQI.out.kp.to (hc10.ag.sub (fun j _ hj => by omega))
 have HF := Lib.hid (fin4 HX.out hr10 rfl (HQI.out.c.trans hc10) hx10 hkp10 (fun j hj => hj.1))
 clear hb10 hz hkp10 hc10 hx10 hr10
 go_wp2_with fail
 obtain ⟨W11, hW, ⟨⟨e0, e1, e2, e3⟩, m0, m1, m2, m3⟩, hre, hc9, hx9⟩ := HF.out
 have HW := Lib.hid hW
 clear hW HF
 try rw [← HW.out]
 refine bodyPost_ret (v := .agg #[.int .i64 (PT.mk 3 ns es [e]).kind, .slice o2 ns.length q2, .slice o6 es.length q6, .slice (some ⟨q, 0, none⟩) 1 1]) (by simp [results, Tryz.results182, go_sem, e0, e1, e2, e3, m0, m1, m2, m3]) rfl ⟨hre, hc9, hx9⟩
end Go.Proofs.YtfkmajjgkdjncaaGreatDoor
