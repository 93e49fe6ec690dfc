/- Merged. -/
import Derived.Test.YtfkmajjgkdjncaaGreatDoorPsIn
import Derived.Deep.LoopGhost
import Derived.Deep.RegionLaw
set_option linter.unusedVariables false
set_option linter.unusedSimpArgs false
set_option maxHeartbeats 4000000
set_option maxRecDepth 100000
namespace Go.Proofs.YtfkmajjgkdjncaaGreatDoor
open Go.RowKit De Wd
theorem sg_ne {V : Pm.Ws} {k : Nat} {a b : Int} (h : Pm.sg V k a) (hab : a ≠ b) : ¬ Pm.sg V k b := fun e => by
 unfold Pm.sg at h e
 rw [h] at e
 simp at e
 exact hab e
theorem patomTok_any (p k d j : Nat) (U : List Uw) (V : Pm.Ws) (hV : VOk V U) (wv tv rv ti ri : Value) (ns : List ByteArray) (w : World) (h : PI w p U k d wv tv rv ti ri) (h1 : Pm.sg V k 123) (hn : Pm.Nms V (k + 1) ns j) (h2 : Pm.sg V j 125) :
 Calls Tryz.prog 164 #[.pointer (some ⟨p, 0, none⟩)] w fun x w' => PtP w w' (.mk 2 ns [] []) x ∧ Ch w w' p ∧ PI w' p U (j + 1) d wv tv rv ti ri := by
 have hplt := h.lt
 have hpr : w.heap.size ≠ p := by omega
 have hbel := bel_new (Below.refl w.heap.size w) (.cells #[.int .i64 0, .slice none 0 0, .slice none 0 0, .slice none 0 0] 58)
 have HX := Lib.hid h
 have H0 := Lib.hid (And.intro (h.moved hbel) (And.intro (heap_alloc_new w (.cells #[.int .i64 0, .slice none 0 0, .slice none 0 0, .slice none 0 0] 58)) (Ch.of (p := p) hbel)))
 clear h hbel
 have HN := Lib.hid (And.intro h1 (And.intro hn h2))
 clear h1 hn h2
 go_enter Tryz.func164, Tryz.ntmps164
 obtain ⟨q1, hq1⟩ := hV.at H0.out.1.le
 have hsg1 := sg_v hV hq1 123
 rw [decide_eq_true (show Pm.sg V k ((123 : UInt8).toNat : Int) from HN.out.1)] at hsg1
 have HQ1 := Lib.hid hq1
 have HT1 := Lib.hid hsg1
 clear hq1 hsg1
 go_wp2_with fail
 refine (sees_any p k d U wv tv rv ti ri ⟨#[123]⟩ q1 _ H0.out.1 HQ1.out).mono ?_
 rintro x w1 ⟨rfl, hb1⟩
 rw [HT1.out]
 have H1 := Lib.hid (And.intro (H0.out.1.moved hb1) (And.intro ((hb1.block _ (lt_of_some H0.out.2.1)).trans H0.out.2.1) (H0.out.2.2.trans (Ch.of hb1))))
 clear hb1
 have hlt1 := lt_of_some H1.out.2.1
 go_wp2_with fail
 refine (pbraces_any p k d j U V hV wv tv rv ti ri ns _ H1.out.1 HN.out.1 HN.out.2.1 HN.out.2.2).mono ?_
 rintro x w2 ⟨v, rfl, ho2, hc2, hx2⟩
 obtain ⟨o2, q2, rfl⟩ := owns_slice ho2
 have hr2 := (hc2.block _ hlt1 hpr).trans H1.out.2.1
 have hk2 : KP (fun j => w.heap.size < j ∧ j ≠ w2.heap.size) w2 (fun w' => PtIs w' (.mk 2 ns [] []) (.slice o2 ns.length q2) (.slice none 0 0) (.slice none 0 0)) := fun w' hag => pn_tok (owns_kp ho2 hlt1 (Nat.le_refl _) w' hag)
 obtain ⟨⟨r0, r1, r2, r3⟩, x0, x1, x2, x3⟩ := cells4_of' hr2
 have HF := Lib.hid (fin4 HX.out hr2 rfl (H1.out.2.2.trans hc2) hx2 hk2 (fun j hj => by omega))
 go_wp2_with fail
 obtain ⟨W11, hW, ⟨⟨e0, e1, e2, e3⟩, m0, m1, m2, m3⟩, hre, hc9, hx9⟩ := HF.out
 dsimp only [PT.kind] at hW hre e0
 have HW := Lib.hid hW
 clear hW HF
 try rw [← HW.out]
 refine bodyPost_ret (v := .agg #[.int .i64 2, .slice o2 ns.length q2, .slice none 0 0, .slice none 0 0]) (by simp [results, Tryz.results164, go_sem, e0, e1, e2, e3, m0, m1, m2, m3]) rfl ⟨hre, hc9, hx9⟩
theorem patomWell_any (p k d : Nat) (U : List Uw) (V : Pm.Ws) (hV : VOk V U) (wv tv rv ti ri : Value) (w : World) (h : PI w p U k d wv tv rv ti ri) (h1 : Pm.sg V k 95) :
 Calls Tryz.prog 164 #[.pointer (some ⟨p, 0, none⟩)] w fun x w' => PtP w w' (.mk 4 [] [] []) x ∧ Ch w w' p ∧ PI w' p U (k + 1) d wv tv rv ti ri := by
 have hplt := h.lt
 have hpr : w.heap.size ≠ p := by omega
 have hbel := bel_new (Below.refl w.heap.size w) (.cells #[.int .i64 0, .slice none 0 0, .slice none 0 0, .slice none 0 0] 58)
 have HX := Lib.hid h
 have H0 := Lib.hid (And.intro (h.moved hbel) (And.intro (heap_alloc_new w (.cells #[.int .i64 0, .slice none 0 0, .slice none 0 0, .slice none 0 0] 58)) (Ch.of (p := p) hbel)))
 clear h hbel
 have HN := Lib.hid h1
 clear h1
 go_enter Tryz.func164, Tryz.ntmps164
 obtain ⟨q1, hq1⟩ := hV.at H0.out.1.le
 have hsg1 := sg_v hV hq1 123
 rw [decide_eq_false (show ¬ Pm.sg V k ((123 : UInt8).toNat : Int) from sg_ne HN.out (by decide))] at hsg1
 have HQ1 := Lib.hid hq1
 have HT1 := Lib.hid hsg1
 clear hq1 hsg1
 go_wp2_with fail
 refine (sees_any p k d U wv tv rv ti ri ⟨#[123]⟩ q1 _ H0.out.1 HQ1.out).mono ?_
 rintro x w1 ⟨rfl, hb1⟩
 rw [HT1.out]
 have H1 := Lib.hid (And.intro (H0.out.1.moved hb1) (And.intro ((hb1.block _ (lt_of_some H0.out.2.1)).trans H0.out.2.1) (H0.out.2.2.trans (Ch.of hb1))))
 clear hb1
 obtain ⟨q2, hq2⟩ := hV.at H1.out.1.le
 have hsg2 := sg_v hV hq2 95
 rw [decide_eq_true (show Pm.sg V k ((95 : UInt8).toNat : Int) from HN.out)] at hsg2
 have HQ2 := Lib.hid hq2
 have HT2 := Lib.hid hsg2
 clear hq2 hsg2
 go_wp2_with fail
 refine (text_any 3 ⟨#[95]⟩ _).mono ?_
 rintro x wt2 ⟨b12, b22, rfl, hbx, hbt⟩
 have HY2 := Lib.hid (And.intro (H1.out.1.moved hbt) (And.intro hbx hbt))
 clear hbx hbt
 go_wp2_with fail
 refine (pskipT p k d U wv tv rv ti ri 3 ⟨#[95]⟩ b12 b22 q2 _ (by decide) HY2.out.1 HQ2.out HY2.out.2.1 ?_ ?_).mono ?_
 · intro e; have h1 := HY2.out.1.hh; rw [← e, HY2.out.2.1.h1] at h1; cases h1
 · intro e; have h1 := HY2.out.1.hh; rw [← e, HY2.out.2.1.h2] at h1; cases h1
 rintro x w2 ⟨rfl, hc2, hx2⟩
 replace hc2 := (Ch.of (p := p) HY2.out.2.2).trans hc2
 rw [HT2.out] at hx2 ⊢
 rw [if_pos rfl] at hx2
 have H2 := Lib.hid (And.intro hx2 (And.intro ((hc2.block _ (lt_of_some H1.out.2.1) hpr).trans H1.out.2.1) (H1.out.2.2.trans hc2)))
 clear hx2 hc2
 have hr2 := H2.out.2.1
 obtain ⟨⟨r0, r1, r2, r3⟩, x0, x1, x2, x3⟩ := cells4_of' hr2
 have HF := Lib.hid (fin4 HX.out hr2 rfl H2.out.2.2 H2.out.1 (show KP (fun j => w.heap.size < j) w2 (fun w' => PtIs w' (.mk 4 [] [] []) (.slice none 0 0) (.slice none 0 0) (.slice none 0 0)) from fun w' _ => ptIs_nil w' 4) (fun j hj => by omega))
 go_wp2_with fail
 obtain ⟨W11, hW, ⟨⟨e0, e1, e2, e3⟩, m0, m1, m2, m3⟩, hre, hc9, hx9⟩ := HF.out
 dsimp only [PT.kind] at hW hre e0
 have HW := Lib.hid hW
 clear hW HF
 try rw [← HW.out]
 refine bodyPost_ret (v := .agg #[.int .i64 4, .slice none 0 0, .slice none 0 0, .slice none 0 0]) (by simp [results, Tryz.results164, go_sem, e0, e1, e2, e3, m0, m1, m2, m3]) rfl ⟨hre, hc9, hx9⟩
theorem patomIn_any (p k d k9 : Nat) (U : List Uw) (V : Pm.Ws) (hV : VOk V U) (wv tv rv ti ri : Value) (e : PT) (w : World) (h : PI w p U k d wv tv rv ti ri) (h1 : Pm.sg V k 60)
 (hin : ∀ w, PI w p U k d wv tv rv ti ri → Calls Tryz.prog 182 #[.pointer (some ⟨p, 0, none⟩)] w fun x w' => PtP w w' e x ∧ Ch w w' p ∧ PI w' p U k9 d wv tv rv ti ri) :
 Calls Tryz.prog 164 #[.pointer (some ⟨p, 0, none⟩)] w fun x w' => PtP w w' (e) x ∧ Ch w w' p ∧ PI w' p U (k9) d wv tv rv ti ri := by
 have hplt := h.lt
 have hpr : w.heap.size ≠ p := by omega
 have hbel := bel_new (Below.refl w.heap.size w) (.cells #[.int .i64 0, .slice none 0 0, .slice none 0 0, .slice none 0 0] 58)
 have HX := Lib.hid h
 have H0 := Lib.hid (And.intro (h.moved hbel) (And.intro (heap_alloc_new w (.cells #[.int .i64 0, .slice none 0 0, .slice none 0 0, .slice none 0 0] 58)) (Ch.of (p := p) hbel)))
 clear h hbel
 have HN := Lib.hid h1
 have HI := Lib.hid hin
 clear h1 hin
 go_enter Tryz.func164, Tryz.ntmps164
 obtain ⟨q1, hq1⟩ := hV.at H0.out.1.le
 have hsg1 := sg_v hV hq1 123
 rw [decide_eq_false (show ¬ Pm.sg V k ((123 : UInt8).toNat : Int) from sg_ne HN.out (by decide))] at hsg1
 have HQ1 := Lib.hid hq1
 have HT1 := Lib.hid hsg1
 clear hq1 hsg1
 go_wp2_with fail
 refine (sees_any p k d U wv tv rv ti ri ⟨#[123]⟩ q1 _ H0.out.1 HQ1.out).mono ?_
 rintro x w1 ⟨rfl, hb1⟩
 rw [HT1.out]
 have H1 := Lib.hid (And.intro (H0.out.1.moved hb1) (And.intro ((hb1.block _ (lt_of_some H0.out.2.1)).trans H0.out.2.1) (H0.out.2.2.trans (Ch.of hb1))))
 clear hb1
 obtain ⟨q2, hq2⟩ := hV.at H1.out.1.le
 have hsg2 := sg_v hV hq2 95
 rw [decide_eq_false (show ¬ Pm.sg V k ((95 : UInt8).toNat : Int) from sg_ne HN.out (by decide))] at hsg2
 have HQ2 := Lib.hid hq2
 have HT2 := Lib.hid hsg2
 clear hq2 hsg2
 go_wp2_with fail
 refine (text_any 3 ⟨#[95]⟩ _).mono ?_
 rintro x wt2 ⟨b12, b22, rfl, hbx, hbt⟩
 have HY2 := Lib.hid (And.intro (H1.out.1.moved hbt) (And.intro hbx hbt))
 clear hbx hbt
 go_wp2_with fail
 refine (pskipT p k d U wv tv rv ti ri 3 ⟨#[95]⟩ b12 b22 q2 _ (by decide) HY2.out.1 HQ2.out HY2.out.2.1 ?_ ?_).mono ?_
 · intro e; have h1 := HY2.out.1.hh; rw [← e, HY2.out.2.1.h1] at h1; cases h1
 · intro e; have h1 := HY2.out.1.hh; rw [← e, HY2.out.2.1.h2] at h1; cases h1
 rintro x w2 ⟨rfl, hc2, hx2⟩
 replace hc2 := (Ch.of (p := p) HY2.out.2.2).trans hc2
 rw [HT2.out] at hx2 ⊢
 rw [if_neg (by decide)] at hx2
 have H2 := Lib.hid (And.intro hx2 (And.intro ((hc2.block _ (lt_of_some H1.out.2.1) hpr).trans H1.out.2.1) (H1.out.2.2.trans hc2)))
 clear hx2 hc2
 obtain ⟨q3, hq3⟩ := hV.at H2.out.1.le
 have hsg3 := sg_v hV hq3 60
 rw [decide_eq_true (show Pm.sg V k ((60 : UInt8).toNat : Int) from HN.out)] at hsg3
 have HQ3 := Lib.hid hq3
 have HT3 := Lib.hid hsg3
 clear hq3 hsg3
 go_wp2_with fail
 refine (sees_any p k d U wv tv rv ti ri ⟨#[60]⟩ q3 _ H2.out.1 HQ3.out).mono ?_
 rintro x w3 ⟨rfl, hb3⟩
 rw [HT3.out]
 have H3 := Lib.hid (And.intro (H2.out.1.moved hb3) (And.intro ((hb3.block _ (lt_of_some H2.out.2.1)).trans H2.out.2.1) (H2.out.2.2.trans (Ch.of hb3))))
 clear hb3
 have hlt4 := lt_of_some H3.out.2.1
 go_wp2_with fail
 refine (HI.out _ H3.out.1).mono ?_
 rintro x w4 ⟨⟨n5, e5, l5, rfl, hk4⟩, hc4, hx4⟩
 obtain ⟨⟨o7, q7, rfl⟩, ⟨o8, q8, rfl⟩, ⟨o9, q9, rfl⟩⟩ := hk4.here.form
 have hr4 := (hc4.block _ hlt4 hpr).trans H3.out.2.1
 obtain ⟨⟨r0, r1, r2, r3⟩, x0, x1, x2, x3⟩ := cells4_of' hr4
 have HF := Lib.hid (fin4 HX.out hr4 rfl (H3.out.2.2.trans hc4) hx4 hk4 (fun j hj => by omega))
 go_wp2_with fail
 obtain ⟨W11, hW, ⟨⟨e0, e1, e2, e3⟩, m0, m1, m2, m3⟩, hre, hc9, hx9⟩ := HF.out
 have HW := Lib.hid hW
 clear hW HF
 try rw [← HW.out]
 refine bodyPost_ret (v := .agg #[.int .i64 e.kind, .slice o7 e.names.length q7, .slice o8 e.ends.length q8, .slice o9 e.parts.length q9]) (by simp [results, Tryz.results164, go_sem, e0, e1, e2, e3, m0, m1, m2, m3]) rfl ⟨hre, hc9, hx9⟩
theorem patomPar_any (p k d k9 : Nat) (U : List Uw) (V : Pm.Ws) (hV : VOk V U) (wv tv rv ti ri : Value) (e : PT) (w : World) (h : PI w p U k d wv tv rv ti ri) (h1 : Pm.sg V k 40)
 (hin : ∀ w, PI w p U k d wv tv rv ti ri → Calls Tryz.prog 183 #[.pointer (some ⟨p, 0, none⟩)] w fun x w' => PtP w w' e x ∧ Ch w w' p ∧ PI w' p U k9 d wv tv rv ti ri) :
 Calls Tryz.prog 164 #[.pointer (some ⟨p, 0, none⟩)] w fun x w' => PtP w w' (e) x ∧ Ch w w' p ∧ PI w' p U (k9) d wv tv rv ti ri := by
 have hplt := h.lt
 have hpr : w.heap.size ≠ p := by omega
 have hbel := bel_new (Below.refl w.heap.size w) (.cells #[.int .i64 0, .slice none 0 0, .slice none 0 0, .slice none 0 0] 58)
 have HX := Lib.hid h
 have H0 := Lib.hid (And.intro (h.moved hbel) (And.intro (heap_alloc_new w (.cells #[.int .i64 0, .slice none 0 0, .slice none 0 0, .slice none 0 0] 58)) (Ch.of (p := p) hbel)))
 clear h hbel
 have HN := Lib.hid h1
 have HI := Lib.hid hin
 clear h1 hin
 go_enter Tryz.func164, Tryz.ntmps164
 obtain ⟨q1, hq1⟩ := hV.at H0.out.1.le
 have hsg1 := sg_v hV hq1 123
 rw [decide_eq_false (show ¬ Pm.sg V k ((123 : UInt8).toNat : Int) from sg_ne HN.out (by decide))] at hsg1
 have HQ1 := Lib.hid hq1
 have HT1 := Lib.hid hsg1
 clear hq1 hsg1
 go_wp2_with fail
 refine (sees_any p k d U wv tv rv ti ri ⟨#[123]⟩ q1 _ H0.out.1 HQ1.out).mono ?_
 rintro x w1 ⟨rfl, hb1⟩
 rw [HT1.out]
 have H1 := Lib.hid (And.intro (H0.out.1.moved hb1) (And.intro ((hb1.block _ (lt_of_some H0.out.2.1)).trans H0.out.2.1) (H0.out.2.2.trans (Ch.of hb1))))
 clear hb1
 obtain ⟨q2, hq2⟩ := hV.at H1.out.1.le
 have hsg2 := sg_v hV hq2 95
 rw [decide_eq_false (show ¬ Pm.sg V k ((95 : UInt8).toNat : Int) from sg_ne HN.out (by decide))] at hsg2
 have HQ2 := Lib.hid hq2
 have HT2 := Lib.hid hsg2
 clear hq2 hsg2
 go_wp2_with fail
 refine (text_any 3 ⟨#[95]⟩ _).mono ?_
 rintro x wt2 ⟨b12, b22, rfl, hbx, hbt⟩
 have HY2 := Lib.hid (And.intro (H1.out.1.moved hbt) (And.intro hbx hbt))
 clear hbx hbt
 go_wp2_with fail
 refine (pskipT p k d U wv tv rv ti ri 3 ⟨#[95]⟩ b12 b22 q2 _ (by decide) HY2.out.1 HQ2.out HY2.out.2.1 ?_ ?_).mono ?_
 · intro e; have h1 := HY2.out.1.hh; rw [← e, HY2.out.2.1.h1] at h1; cases h1
 · intro e; have h1 := HY2.out.1.hh; rw [← e, HY2.out.2.1.h2] at h1; cases h1
 rintro x w2 ⟨rfl, hc2, hx2⟩
 replace hc2 := (Ch.of (p := p) HY2.out.2.2).trans hc2
 rw [HT2.out] at hx2 ⊢
 rw [if_neg (by decide)] at hx2
 have H2 := Lib.hid (And.intro hx2 (And.intro ((hc2.block _ (lt_of_some H1.out.2.1) hpr).trans H1.out.2.1) (H1.out.2.2.trans hc2)))
 clear hx2 hc2
 obtain ⟨q3, hq3⟩ := hV.at H2.out.1.le
 have hsg3 := sg_v hV hq3 60
 rw [decide_eq_false (show ¬ Pm.sg V k ((60 : UInt8).toNat : Int) from sg_ne HN.out (by decide))] at hsg3
 have HQ3 := Lib.hid hq3
 have HT3 := Lib.hid hsg3
 clear hq3 hsg3
 go_wp2_with fail
 refine (sees_any p k d U wv tv rv ti ri ⟨#[60]⟩ q3 _ H2.out.1 HQ3.out).mono ?_
 rintro x w3 ⟨rfl, hb3⟩
 rw [HT3.out]
 have H3 := Lib.hid (And.intro (H2.out.1.moved hb3) (And.intro ((hb3.block _ (lt_of_some H2.out.2.1)).trans H2.out.2.1) (H2.out.2.2.trans (Ch.of hb3))))
 clear hb3
 have hlt4 := lt_of_some H3.out.2.1
 go_wp2_with fail
 refine (HI.out _ H3.out.1).mono ?_
 rintro x w4 ⟨⟨n5, e5, l5, rfl, hk4⟩, hc4, hx4⟩
 obtain ⟨⟨o7, q7, rfl⟩, ⟨o8, q8, rfl⟩, ⟨o9, q9, rfl⟩⟩ := hk4.here.form
 have hr4 := (hc4.block _ hlt4 hpr).trans H3.out.2.1
 obtain ⟨⟨r0, r1, r2, r3⟩, x0, x1, x2, x3⟩ := cells4_of' hr4
 have HF := Lib.hid (fin4 HX.out hr4 rfl (H3.out.2.2.trans hc4) hx4 hk4 (fun j hj => by omega))
 go_wp2_with fail
 obtain ⟨W11, hW, ⟨⟨e0, e1, e2, e3⟩, m0, m1, m2, m3⟩, hre, hc9, hx9⟩ := HF.out
 have HW := Lib.hid hW
 clear hW HF
 try rw [← HW.out]
 refine bodyPost_ret (v := .agg #[.int .i64 e.kind, .slice o7 e.names.length q7, .slice o8 e.ends.length q8, .slice o9 e.parts.length q9]) (by simp [results, Tryz.results164, go_sem, e0, e1, e2, e3, m0, m1, m2, m3]) rfl ⟨hre, hc9, hx9⟩
end Go.Proofs.YtfkmajjgkdjncaaGreatDoor

set_option maxHeartbeats 4000000
set_option maxRecDepth 100000
namespace Go.Proofs.YtfkmajjgkdjncaaGreatDoor
open Go.RowKit De Wd
theorem ppattern_any (p k d k1 k2 : Nat) (U : List Uw) (V : Pm.Ws) (hV : VOk V U) (wv tv rv ti ri : Value) (a e : PT) (w : World) (h : PI w p U k d wv tv rv ti ri) (P : Nat → PT → Nat → Prop) (hmono : ∀ k b k', P k b k' → k ≤ k') (h1 : P k a k1) (hl : PaL V P a k1 e k2)
 (hat : ∀ w k a k1, P k a k1 → PI w p U k d wv tv rv ti ri → Calls Tryz.prog 123 #[.pointer (some ⟨p, 0, none⟩)] w fun x w' => PtP w w' a x ∧ Ch w w' p ∧ PI w' p U k1 d wv tv rv ti ri) :
 Calls Tryz.prog 95 #[.pointer (some ⟨p, 0, none⟩)] w fun x w' => PtP w w' e x ∧ Ch w w' p ∧ PI w' p U k2 d wv tv rv ti ri := by
 have hlt := h.lt
 have hA := h.moved (bel_new (Below.refl _ _) (.cells #[.int .i64 0, .slice none 0 0, .slice none 0 0, .slice none 0 0] 58))
 have HX := Lib.hid h
 have HA := Lib.hid hA
 have HT := Lib.hid hat
 have HL := Lib.hid hl
 have HH1 := Lib.hid h1
 clear h hA hat hl h1
 go_enter Tryz.func95, Tryz.ntmps95
 go_wp2_with fail
 refine (HT.out _ _ _ _ HH1.out HA.out).mono ?_
 rintro x w1 ⟨⟨nv, ev, lv, rfl, hkp⟩, hch, hxi⟩
 obtain ⟨⟨o1, q1, rfl⟩, ⟨o2, q2, rfl⟩, ⟨o3, q3, rfl⟩⟩ := hkp.here.form
 have hs1 : w.heap.size < w1.heap.size := by have := hch.size; simp at this; omega
 have hr1 : w1.heap[w.heap.size]? = some (.cells #[.int .i64 0, .slice none 0 0, .slice none 0 0, .slice none 0 0] 58 (0, 0)) := by rw [hch.block _ (by simp) (by omega)]; exact heap_alloc_new w _
 have hpb : p ≠ w1.heap.size := by omega
 have hxi2 := hxi.moved (bel_new (Below.refl _ _) (.cells #[.int .i64 a.kind, .slice o1 a.names.length q1, .slice o2 a.ends.length q2, .slice o3 a.parts.length q3] 58))
 have hpi : QI w (w1.alloc (.cells #[.int .i64 a.kind, .slice o1 a.names.length q1, .slice o2 a.ends.length q2, .slice o3 a.parts.length q3] 58)) p w1.heap.size w.heap.size U d k1 wv tv rv ti ri a (.slice o1 a.names.length q1) (.slice o2 a.ends.length q2) (.slice o3 a.parts.length q3) := by
  refine ⟨hxi2, ?_, heap_alloc_new w1 _, ⟨.int .i64 0, .slice none 0 0, .slice none 0 0, .slice none 0 0, ?_⟩, ?_⟩
  · exact ((Ch.of (bel_new (Below.refl _ _) _)).trans hch).trans (Ch.of (bel_new (Below.refl _ _) _))
  · rw [(bel_new (Below.refl w1.heap.size w1) _).block _ hs1]; exact hr1
  · intro w' hag
    refine hkp w' ⟨hag.os, hag.tape, hag.output, by have := hag.size; simp at this; omega, fun j hj hS => ?_⟩
    have hS' : w.heap.size + 1 ≤ j := by simpa using hS
    rw [hag.block j (by simp; omega) ⟨by omega, by omega⟩]
    exact (bel_new (Below.refl w1.heap.size w1) _).block j hj
 have HPI := Lib.hid hpi
 have hle := hxi.le
 clear hpi hxi2 hxi hch hkp hr1
 go_wp2_with fail
 go_loopg [] (U.length - k1) (fun g wx => ∃ (a' : PT) (ki : Nat) (o4 o5 o6 : Option Addr) (q4 q5 q6 : Nat), ki + g = U.length ∧ QI w wx p w1.heap.size w.heap.size U d ki wv tv rv ti ri a' (.slice o4 a'.names.length q4) (.slice o5 a'.ends.length q5) (.slice o6 a'.parts.length q6) ∧ PaL V P a' ki e k2)
 case atStart => exact ⟨a, k1, _, _, _, _, _, _, by omega, HPI.out, HL.out⟩
 case round =>
  obtain ⟨a', ki, o4, o5, o6, q4, q5, q6, hkg, hpi, hpo⟩ := hrel
  have HP := Lib.hid hpi
  have hkil := hpi.x.le
  clear hpi
  rcases hpo.inv with ⟨hcnd, rfl, rfl⟩ | ⟨hcnd, nb, kj, hpp, hpo2⟩
  · have HN := Lib.hid hcnd
    clear hpo hcnd
    go_wp2_with fail
    refine (text_any 3 ⟨#[124]⟩ _).mono ?_
    rintro x wt ⟨b1, b2, rfl, hbx, hbt⟩
    have hblt0 := lt_of_some HP.out.hb
    have HT0 := Lib.hid (And.intro (HP.out.x.moved hbt) (And.intro hbx hbt))
    obtain ⟨qq, hqq⟩ := hV.at HP.out.x.le
    clear hbx hbt
    go_wp2_with fail
    refine (pskipT p ki d U wv tv rv ti ri 3 ⟨#[124]⟩ b1 b2 qq _ (by decide) HT0.out.1 hqq HT0.out.2.1 ?_ ?_).mono ?_
    · intro e; have h1 := HT0.out.1.hh; rw [← e, HT0.out.2.1.h1] at h1; cases h1
    · intro e; have h1 := HT0.out.1.hh; rw [← e, HT0.out.2.1.h2] at h1; cases h1
    rintro x w2 ⟨rfl, hc2', hx2⟩
    have hc2 := (Ch.of (p := p) HT0.out.2.2).trans hc2'
    clear hc2'
    have hsg := sg_v hV hqq 124
    rw [decide_eq_false (show ¬ Pm.sg V ki ((124 : UInt8).toNat : Int) from HN.out)] at hsg
    rw [hsg] at hx2 ⊢
    rw [if_neg (by decide)] at hx2
    clear hsg hqq
    have hb2 := (hc2.block _ (lt_of_some HP.out.hb) (fun e => hpb e.symm)).trans HP.out.hb
    obtain ⟨z0, z1, z2, z3, hz⟩ := HP.out.hr
    have hr2 := (hc2.block _ (lt_of_some hz) (by omega)).trans hz
    have hbr : ¬ w1.heap.size = w.heap.size := by omega
    obtain ⟨⟨d0, d1, d2, d3⟩, g0, g1, g2, g3⟩ := cells4_of' hb2
    obtain ⟨⟨r0, r1, r2, r3⟩, x0, x1, x2, x3⟩ := cells4_of' hr2
    have hkp2 := HP.out.kp.to (hc2.ag.sub (fun j _ hj => by omega))
    have HF := Lib.hid (fin4 HX.out hr2 rfl (HP.out.c.trans hc2) hx2 hkp2 (fun j hj => hj.1))
    clear hb2 hz hkp2 hc2 hx2 HP hr2
    go_wp2_with fail
    obtain ⟨W9, hW, ⟨⟨e0, e1, e2, e3⟩, m0, m1, m2, m3⟩, hre, hc9, hx9⟩ := HF.out
    have HW := Lib.hid hW
    clear hW HF
    rw [← HW.out]
    refine bodyPost_ret (v := .agg #[.int .i64 a'.kind, .slice o4 a'.names.length q4, .slice o5 a'.ends.length q5, .slice o6 a'.parts.length q6]) (by simp [results, Tryz.results95, go_sem, e0, e1, e2, e3, m0, m1, m2, m3]) rfl ⟨hre, hc9, hx9⟩
  · have HN := Lib.hid hcnd
    clear hpo hcnd
    go_wp2_with fail
    refine (text_any 3 ⟨#[124]⟩ _).mono ?_
    rintro x wt ⟨b1, b2, rfl, hbx, hbt⟩
    have hblt0 := lt_of_some HP.out.hb
    have HT0 := Lib.hid (And.intro (HP.out.x.moved hbt) (And.intro hbx hbt))
    obtain ⟨qq, hqq⟩ := hV.at HP.out.x.le
    clear hbx hbt
    go_wp2_with fail
    refine (pskipT p ki d U wv tv rv ti ri 3 ⟨#[124]⟩ b1 b2 qq _ (by decide) HT0.out.1 hqq HT0.out.2.1 ?_ ?_).mono ?_
    · intro e; have h1 := HT0.out.1.hh; rw [← e, HT0.out.2.1.h1] at h1; cases h1
    · intro e; have h1 := HT0.out.1.hh; rw [← e, HT0.out.2.1.h2] at h1; cases h1
    rintro x w2 ⟨rfl, hc2', hx2⟩
    have hc2 := (Ch.of (p := p) HT0.out.2.2).trans hc2'
    clear hc2'
    have hsg := sg_v hV hqq 124
    rw [decide_eq_true (show Pm.sg V ki ((124 : UInt8).toNat : Int) from HN.out)] at hsg
    rw [hsg] at hx2 ⊢
    rw [if_pos rfl] at hx2
    clear hsg hqq
    have hb2 := (hc2.block _ (lt_of_some HP.out.hb) (fun e => hpb e.symm)).trans HP.out.hb
    have hblt := lt_of_some hb2
    obtain ⟨z0, z1, z2, z3, hz⟩ := HP.out.hr
    have hr2 := (hc2.block _ (lt_of_some hz) (by omega)).trans hz
    have hrlt := lt_of_some hr2
    have hbr : ¬ w1.heap.size = w.heap.size := by omega
    obtain ⟨⟨d0, d1, d2, d3⟩, g0, g1, g2, g3⟩ := cells4_of' hb2
    have hkp2 := HP.out.kp.to (hc2.ag.sub (fun j _ hj => by omega))
    have HK := Lib.hid hkp2
    have HC := Lib.hid (HP.out.c.trans hc2)
    have HX2 := Lib.hid hx2
    have HR2 := Lib.hid hr2
    have HB2 := Lib.hid hb2
    have HPO := Lib.hid hpo2
    have hqb : ¬ w2.heap.size = w1.heap.size := by omega
    clear hb2 hz hkp2 hc2 hx2 hr2 HP hpo2
    have HPP := Lib.hid hpp
    have hpp2 := hmono _ _ _ hpp
    clear hpp
    go_wp2_with fail
    go_region_law
     (go_simp; go_at_call 123; refine (HT.out _ _ _ _ HPP.out (HX2.out.moved (by repeat (first | exact Below.refl _ _ | refine Below.drew ?_)))).mono ?_; rintro x w5 ⟨⟨n5, e5, l5, rfl, hk5⟩, hc5, hx5⟩; obtain ⟨⟨o7, q7, rfl⟩, ⟨o8, q8, rfl⟩, ⟨o9, q9, rfl⟩⟩ := hk5.here.form; have hb5 := (hc5.block _ hblt (fun e => hpb e.symm)).trans HB2.out; obtain ⟨⟨e0, e1, e2, e3⟩, m0, m1, m2, m3⟩ := cells4_of' hb5; have hlt5 : w1.heap.size < w5.heap.size := Nat.lt_of_lt_of_le hblt (show w2.heap.size ≤ w5.heap.size from hc5.size); have hqb5 : ¬ w5.heap.size = w1.heap.size := (fun e => absurd hlt5 (e ▸ Nat.lt_irrefl _)); have hqb6 : ¬ w1.heap.size = w5.heap.size := (fun e => absurd hlt5 (e ▸ Nat.lt_irrefl _)))
    all_goals (
     have hr5 := (hc5.block _ hrlt (fun e => by omega)).trans HR2.out
     have hka5 := HK.out.to (((Ag.refl _ w2).drew).trans (hc5.ag.sub (fun j _ hj => by omega)))
     have HP9 := Lib.hid (QI.two (b' := nb) (n5' := w2.heap.size) 6 HX.out (HC.out.trans (Ch.trans (Ch.of (Below.refl _ _).drew) hc5)) hx5 hb5 hr5 hka5 (hk5.sub (fun j _ hj => hj)) (by omega) (Nat.le_refl _) (by omega) hblt)
     have hkl := hx5.le
     clear hb5 hr5 hka5 e0 e1 e2 e3 m0 m1 m2 m3 d0 d1 d2 d3 g0 g1 g2 g3 hc5 hx5 hk5
     try go_wp2_with fail
     go_roundg (U.length - kj)
     case measure => omega
     case rel => exact ⟨.mk 6 [] [] [a', nb], kj, none, none, some ⟨w5.heap.size, 0, none⟩, 0, 0, 2, by omega, HP9.out, HPO.out⟩)
end Go.Proofs.YtfkmajjgkdjncaaGreatDoor

set_option maxHeartbeats 4000000
set_option maxRecDepth 100000
namespace Go.Proofs.YtfkmajjgkdjncaaGreatDoor
open Go.RowKit De Wd
theorem palt_any (p k d k1 k2 : Nat) (U : List Uw) (V : Pm.Ws) (hV : VOk V U) (wv tv rv ti ri : Value) (a e : PT) (w : World) (h : PI w p U k d wv tv rv ti ri) (P : Nat → PT → Nat → Prop) (hmono : ∀ k b k', P k b k' → k < k') (h1 : P k a k1) (hl : PsL V P a k1 e k2)
 (hat : ∀ w k a k1, P k a k1 → PI w p U k d wv tv rv ti ri → Calls Tryz.prog 143 #[.pointer (some ⟨p, 0, none⟩)] w fun x w' => PtP w w' a x ∧ Ch w w' p ∧ PI w' p U k1 d wv tv rv ti ri) :
 Calls Tryz.prog 123 #[.pointer (some ⟨p, 0, none⟩)] w fun x w' => PtP w w' e x ∧ Ch w w' p ∧ PI w' p U k2 d wv tv rv ti ri := by
 have hlt := h.lt
 have hA := h.moved (bel_new (Below.refl _ _) (.cells #[.int .i64 0, .slice none 0 0, .slice none 0 0, .slice none 0 0] 58))
 have HX := Lib.hid h
 have HA := Lib.hid hA
 have HT := Lib.hid hat
 have HL := Lib.hid hl
 have HH1 := Lib.hid h1
 clear h hA hat hl h1
 go_enter Tryz.func123, Tryz.ntmps123
 go_wp2_with fail
 refine (HT.out _ _ _ _ HH1.out HA.out).mono ?_
 rintro x w1 ⟨⟨nv, ev, lv, rfl, hkp⟩, hch, hxi⟩
 obtain ⟨⟨o1, q1, rfl⟩, ⟨o2, q2, rfl⟩, ⟨o3, q3, rfl⟩⟩ := hkp.here.form
 have hs1 : w.heap.size < w1.heap.size := by have := hch.size; simp at this; omega
 have hr1 : w1.heap[w.heap.size]? = some (.cells #[.int .i64 0, .slice none 0 0, .slice none 0 0, .slice none 0 0] 58 (0, 0)) := by rw [hch.block _ (by simp) (by omega)]; exact heap_alloc_new w _
 have hpb : p ≠ w1.heap.size := by omega
 have hxi2 := hxi.moved (bel_new (Below.refl _ _) (.cells #[.int .i64 a.kind, .slice o1 a.names.length q1, .slice o2 a.ends.length q2, .slice o3 a.parts.length q3] 58))
 have hpi : QI w (w1.alloc (.cells #[.int .i64 a.kind, .slice o1 a.names.length q1, .slice o2 a.ends.length q2, .slice o3 a.parts.length q3] 58)) p w1.heap.size w.heap.size U d k1 wv tv rv ti ri a (.slice o1 a.names.length q1) (.slice o2 a.ends.length q2) (.slice o3 a.parts.length q3) := by
  refine ⟨hxi2, ?_, heap_alloc_new w1 _, ⟨.int .i64 0, .slice none 0 0, .slice none 0 0, .slice none 0 0, ?_⟩, ?_⟩
  · exact ((Ch.of (bel_new (Below.refl _ _) _)).trans hch).trans (Ch.of (bel_new (Below.refl _ _) _))
  · rw [(bel_new (Below.refl w1.heap.size w1) _).block _ hs1]; exact hr1
  · intro w' hag
    refine hkp w' ⟨hag.os, hag.tape, hag.output, by have := hag.size; simp at this; omega, fun j hj hS => ?_⟩
    have hS' : w.heap.size + 1 ≤ j := by simpa using hS
    rw [hag.block j (by simp; omega) ⟨by omega, by omega⟩]
    exact (bel_new (Below.refl w1.heap.size w1) _).block j hj
 have HPI := Lib.hid hpi
 have hle := hxi.le
 clear hpi hxi2 hxi hch hkp hr1
 go_wp2_with fail
 go_loopg [] (U.length - k1) (fun g wx => ∃ (a' : PT) (ki : Nat) (o4 o5 o6 : Option Addr) (q4 q5 q6 : Nat), ki + g = U.length ∧ QI w wx p w1.heap.size w.heap.size U d ki wv tv rv ti ri a' (.slice o4 a'.names.length q4) (.slice o5 a'.ends.length q5) (.slice o6 a'.parts.length q6) ∧ PsL V P a' ki e k2)
 case atStart => exact ⟨a, k1, _, _, _, _, _, _, by omega, HPI.out, HL.out⟩
 case round =>
  obtain ⟨a', ki, o4, o5, o6, q4, q5, q6, hkg, hpi, hpo⟩ := hrel
  have HP := Lib.hid hpi
  have hkil := hpi.x.le
  clear hpi
  rcases hpo.inv with ⟨hcnd, rfl, rfl⟩ | ⟨hcnd, nb, kj, hpp, hpo2⟩
  · have HN := Lib.hid hcnd
    clear hpo hcnd
    go_wp2_with fail
    refine (patomNext_any p ki d U V hV wv tv rv ti ri _ HP.out.x).mono ?_
    rintro x w2 ⟨rfl, hb2'⟩
    have hc2 := Ch.of (p := p) hb2'
    have hx2 := HP.out.x.moved hb2'
    clear hb2'
    rw [decide_eq_false HN.out]
    have hb2 := (hc2.block _ (lt_of_some HP.out.hb) (fun e => hpb e.symm)).trans HP.out.hb
    obtain ⟨z0, z1, z2, z3, hz⟩ := HP.out.hr
    have hr2 := (hc2.block _ (lt_of_some hz) (by omega)).trans hz
    have hbr : ¬ w1.heap.size = w.heap.size := by omega
    obtain ⟨⟨d0, d1, d2, d3⟩, g0, g1, g2, g3⟩ := cells4_of' hb2
    obtain ⟨⟨r0, r1, r2, r3⟩, x0, x1, x2, x3⟩ := cells4_of' hr2
    have hkp2 := HP.out.kp.to (hc2.ag.sub (fun j _ hj => by omega))
    have HF := Lib.hid (fin4 HX.out hr2 rfl (HP.out.c.trans hc2) hx2 hkp2 (fun j hj => hj.1))
    clear hb2 hz hkp2 hc2 hx2 HP hr2
    go_wp2_with fail
    obtain ⟨W9, hW, ⟨⟨e0, e1, e2, e3⟩, m0, m1, m2, m3⟩, hre, hc9, hx9⟩ := HF.out
    have HW := Lib.hid hW
    clear hW HF
    rw [← HW.out]
    refine bodyPost_ret (v := .agg #[.int .i64 a'.kind, .slice o4 a'.names.length q4, .slice o5 a'.ends.length q5, .slice o6 a'.parts.length q6]) (by simp [results, Tryz.results123, go_sem, e0, e1, e2, e3, m0, m1, m2, m3]) rfl ⟨hre, hc9, hx9⟩
  · have HN := Lib.hid hcnd
    clear hpo hcnd
    go_wp2_with fail
    refine (patomNext_any p ki d U V hV wv tv rv ti ri _ HP.out.x).mono ?_
    rintro x w2 ⟨rfl, hb2'⟩
    have hc2 := Ch.of (p := p) hb2'
    have hx2 := HP.out.x.moved hb2'
    clear hb2'
    rw [decide_eq_true HN.out]
    have hb2 := (hc2.block _ (lt_of_some HP.out.hb) (fun e => hpb e.symm)).trans HP.out.hb
    have hblt := lt_of_some hb2
    obtain ⟨z0, z1, z2, z3, hz⟩ := HP.out.hr
    have hr2 := (hc2.block _ (lt_of_some hz) (by omega)).trans hz
    have hrlt := lt_of_some hr2
    have hbr : ¬ w1.heap.size = w.heap.size := by omega
    obtain ⟨⟨d0, d1, d2, d3⟩, g0, g1, g2, g3⟩ := cells4_of' hb2
    have hkp2 := HP.out.kp.to (hc2.ag.sub (fun j _ hj => by omega))
    have HK := Lib.hid hkp2
    have HC := Lib.hid (HP.out.c.trans hc2)
    have HX2 := Lib.hid hx2
    have HR2 := Lib.hid hr2
    have HB2 := Lib.hid hb2
    have HPO := Lib.hid hpo2
    have hqb : ¬ w2.heap.size = w1.heap.size := by omega
    clear hb2 hz hkp2 hc2 hx2 hr2 HP hpo2
    have HPP := Lib.hid hpp
    have hpp2 := hmono _ _ _ hpp
    clear hpp
    go_wp2_with fail
    go_region_law
     (go_simp; go_at_call 143; refine (HT.out _ _ _ _ HPP.out (HX2.out.moved (by repeat (first | exact Below.refl _ _ | refine Below.drew ?_)))).mono ?_; rintro x w5 ⟨⟨n5, e5, l5, rfl, hk5⟩, hc5, hx5⟩; obtain ⟨⟨o7, q7, rfl⟩, ⟨o8, q8, rfl⟩, ⟨o9, q9, rfl⟩⟩ := hk5.here.form; have hb5 := (hc5.block _ hblt (fun e => hpb e.symm)).trans HB2.out; obtain ⟨⟨e0, e1, e2, e3⟩, m0, m1, m2, m3⟩ := cells4_of' hb5; have hlt5 : w1.heap.size < w5.heap.size := Nat.lt_of_lt_of_le hblt (show w2.heap.size ≤ w5.heap.size from hc5.size); have hqb5 : ¬ w5.heap.size = w1.heap.size := (fun e => absurd hlt5 (e ▸ Nat.lt_irrefl _)); have hqb6 : ¬ w1.heap.size = w5.heap.size := (fun e => absurd hlt5 (e ▸ Nat.lt_irrefl _)))
    all_goals (
     have hr5 := (hc5.block _ hrlt (fun e => by omega)).trans HR2.out
     have hka5 := HK.out.to (((Ag.refl _ w2).drew).trans (hc5.ag.sub (fun j _ hj => by omega)))
     have HP9 := Lib.hid (QI.two (b' := nb) (n5' := w2.heap.size) 5 HX.out (HC.out.trans (Ch.trans (Ch.of (Below.refl _ _).drew) hc5)) hx5 hb5 hr5 hka5 (hk5.sub (fun j _ hj => hj)) (by omega) (Nat.le_refl _) (by omega) hblt)
     have hkl := hx5.le
     clear hb5 hr5 hka5 e0 e1 e2 e3 m0 m1 m2 m3 d0 d1 d2 d3 g0 g1 g2 g3 hc5 hx5 hk5
     try go_wp2_with fail
     go_roundg (U.length - kj)
     case measure => omega
     case rel => exact ⟨.mk 5 [] [] [a', nb], kj, none, none, some ⟨w5.heap.size, 0, none⟩, 0, 0, 2, by omega, HP9.out, HPO.out⟩)
end Go.Proofs.YtfkmajjgkdjncaaGreatDoor

set_option maxHeartbeats 4000000
set_option maxRecDepth 100000
namespace Go.Proofs.YtfkmajjgkdjncaaGreatDoor
open Go.RowKit De Wd
theorem ppost_any (p k d k1 k2 : Nat) (U : List Uw) (V : Pm.Ws) (hV : VOk V U) (wv tv rv ti ri : Value) (a e : PT) (w : World) (h : PI w p U k d wv tv rv ti ri) (hl : PqL V a k1 e k2)
 (hat : ∀ w, PI w p U k d wv tv rv ti ri → Calls Tryz.prog 164 #[.pointer (some ⟨p, 0, none⟩)] w fun x w' => PtP w w' a x ∧ Ch w w' p ∧ PI w' p U k1 d wv tv rv ti ri) :
 Calls Tryz.prog 143 #[.pointer (some ⟨p, 0, none⟩)] w fun x w' => PtP w w' e x ∧ Ch w w' p ∧ PI w' p U k2 d wv tv rv ti ri := by
 have hlt := h.lt
 have hA := h.moved (bel_new (Below.refl _ _) (.cells #[.int .i64 0, .slice none 0 0, .slice none 0 0, .slice none 0 0] 58))
 have HX := Lib.hid h
 have HA := Lib.hid hA
 have HT := Lib.hid hat
 have HL := Lib.hid hl
 clear h hA hat hl
 go_enter Tryz.func143, Tryz.ntmps143
 go_wp2_with fail
 refine (HT.out _ HA.out).mono ?_
 rintro x w1 ⟨⟨nv, ev, lv, rfl, hkp⟩, hch, hxi⟩
 obtain ⟨⟨o1, q1, rfl⟩, ⟨o2, q2, rfl⟩, ⟨o3, q3, rfl⟩⟩ := hkp.here.form
 have hs1 : w.heap.size < w1.heap.size := by have := hch.size; simp at this; omega
 have hr1 : w1.heap[w.heap.size]? = some (.cells #[.int .i64 0, .slice none 0 0, .slice none 0 0, .slice none 0 0] 58 (0, 0)) := by rw [hch.block _ (by simp) (by omega)]; exact heap_alloc_new w _
 have hpb : p ≠ w1.heap.size := by omega
 have hxi2 := hxi.moved (bel_new (Below.refl _ _) (.cells #[.int .i64 a.kind, .slice o1 a.names.length q1, .slice o2 a.ends.length q2, .slice o3 a.parts.length q3] 58))
 have hpi : QI w (w1.alloc (.cells #[.int .i64 a.kind, .slice o1 a.names.length q1, .slice o2 a.ends.length q2, .slice o3 a.parts.length q3] 58)) p w1.heap.size w.heap.size U d k1 wv tv rv ti ri a (.slice o1 a.names.length q1) (.slice o2 a.ends.length q2) (.slice o3 a.parts.length q3) := by
  refine ⟨hxi2, ?_, heap_alloc_new w1 _, ⟨.int .i64 0, .slice none 0 0, .slice none 0 0, .slice none 0 0, ?_⟩, ?_⟩
  · exact ((Ch.of (bel_new (Below.refl _ _) _)).trans hch).trans (Ch.of (bel_new (Below.refl _ _) _))
  · rw [(bel_new (Below.refl w1.heap.size w1) _).block _ hs1]; exact hr1
  · intro w' hag
    refine hkp w' ⟨hag.os, hag.tape, hag.output, by have := hag.size; simp at this; omega, fun j hj hS => ?_⟩
    have hS' : w.heap.size + 1 ≤ j := by simpa using hS
    rw [hag.block j (by simp; omega) ⟨by omega, by omega⟩]
    exact (bel_new (Below.refl w1.heap.size w1) _).block j hj
 have HPI := Lib.hid hpi
 have hle := hxi.le
 clear hpi hxi2 hxi hch hkp hr1
 go_wp2_with fail
 go_loopg [] (U.length - k1) (fun g wx => ∃ (a' : PT) (ki : Nat) (o4 o5 o6 : Option Addr) (q4 q5 q6 : Nat), ki + g = U.length ∧ QI w wx p w1.heap.size w.heap.size U d ki wv tv rv ti ri a' (.slice o4 a'.names.length q4) (.slice o5 a'.ends.length q5) (.slice o6 a'.parts.length q6) ∧ PqL V a' ki e k2)
 case atStart => exact ⟨a, k1, _, _, _, _, _, _, by omega, HPI.out, HL.out⟩
 case round =>
  obtain ⟨a', ki, o4, o5, o6, q4, q5, q6, hkg, hpi, hpo⟩ := hrel
  have HP := Lib.hid hpi
  have hkil := hpi.x.le
  clear hpi
  rcases hpo.inv with ⟨hcnd, rfl, rfl⟩ | ⟨hcnd, hpo2⟩
  · have HN := Lib.hid hcnd
    clear hpo hcnd
    go_wp2_with fail
    refine (text_any 3 ⟨#[42]⟩ _).mono ?_
    rintro x wt ⟨b1, b2, rfl, hbx, hbt⟩
    have hblt0 := lt_of_some HP.out.hb
    have HT0 := Lib.hid (And.intro (HP.out.x.moved hbt) (And.intro hbx hbt))
    obtain ⟨qq, hqq⟩ := hV.at HP.out.x.le
    clear hbx hbt
    go_wp2_with fail
    refine (pskipT p ki d U wv tv rv ti ri 3 ⟨#[42]⟩ b1 b2 qq _ (by decide) HT0.out.1 hqq HT0.out.2.1 ?_ ?_).mono ?_
    · intro e; have h1 := HT0.out.1.hh; rw [← e, HT0.out.2.1.h1] at h1; cases h1
    · intro e; have h1 := HT0.out.1.hh; rw [← e, HT0.out.2.1.h2] at h1; cases h1
    rintro x w2 ⟨rfl, hc2', hx2⟩
    have hc2 := (Ch.of (p := p) HT0.out.2.2).trans hc2'
    clear hc2'
    have hsg := sg_v hV hqq 42
    rw [decide_eq_false (show ¬ Pm.sg V ki ((42 : UInt8).toNat : Int) from HN.out)] at hsg
    rw [hsg] at hx2 ⊢
    rw [if_neg (by decide)] at hx2
    clear hsg hqq
    have hb2 := (hc2.block _ (lt_of_some HP.out.hb) (fun e => hpb e.symm)).trans HP.out.hb
    obtain ⟨z0, z1, z2, z3, hz⟩ := HP.out.hr
    have hr2 := (hc2.block _ (lt_of_some hz) (by omega)).trans hz
    have hbr : ¬ w1.heap.size = w.heap.size := by omega
    obtain ⟨⟨d0, d1, d2, d3⟩, g0, g1, g2, g3⟩ := cells4_of' hb2
    obtain ⟨⟨r0, r1, r2, r3⟩, x0, x1, x2, x3⟩ := cells4_of' hr2
    have hkp2 := HP.out.kp.to (hc2.ag.sub (fun j _ hj => by omega))
    have HF := Lib.hid (fin4 HX.out hr2 rfl (HP.out.c.trans hc2) hx2 hkp2 (fun j hj => hj.1))
    clear hb2 hz hkp2 hc2 hx2 HP hr2
    go_wp2_with fail
    obtain ⟨W9, hW, ⟨⟨e0, e1, e2, e3⟩, m0, m1, m2, m3⟩, hre, hc9, hx9⟩ := HF.out
    have HW := Lib.hid hW
    clear hW HF
    rw [← HW.out]
    refine bodyPost_ret (v := .agg #[.int .i64 a'.kind, .slice o4 a'.names.length q4, .slice o5 a'.ends.length q5, .slice o6 a'.parts.length q6]) (by simp [results, Tryz.results143, go_sem, e0, e1, e2, e3, m0, m1, m2, m3]) rfl ⟨hre, hc9, hx9⟩
  · have HN := Lib.hid hcnd
    clear hpo hcnd
    go_wp2_with fail
    refine (text_any 3 ⟨#[42]⟩ _).mono ?_
    rintro x wt ⟨b1, b2, rfl, hbx, hbt⟩
    have hblt0 := lt_of_some HP.out.hb
    have HT0 := Lib.hid (And.intro (HP.out.x.moved hbt) (And.intro hbx hbt))
    obtain ⟨qq, hqq⟩ := hV.at HP.out.x.le
    clear hbx hbt
    go_wp2_with fail
    refine (pskipT p ki d U wv tv rv ti ri 3 ⟨#[42]⟩ b1 b2 qq _ (by decide) HT0.out.1 hqq HT0.out.2.1 ?_ ?_).mono ?_
    · intro e; have h1 := HT0.out.1.hh; rw [← e, HT0.out.2.1.h1] at h1; cases h1
    · intro e; have h1 := HT0.out.1.hh; rw [← e, HT0.out.2.1.h2] at h1; cases h1
    rintro x w2 ⟨rfl, hc2', hx2⟩
    have hc2 := (Ch.of (p := p) HT0.out.2.2).trans hc2'
    clear hc2'
    have hsg := sg_v hV hqq 42
    rw [decide_eq_true (show Pm.sg V ki ((42 : UInt8).toNat : Int) from HN.out)] at hsg
    rw [hsg] at hx2 ⊢
    rw [if_pos rfl] at hx2
    clear hsg hqq
    have hb2 := (hc2.block _ (lt_of_some HP.out.hb) (fun e => hpb e.symm)).trans HP.out.hb
    have hblt := lt_of_some hb2
    obtain ⟨z0, z1, z2, z3, hz⟩ := HP.out.hr
    have hr2 := (hc2.block _ (lt_of_some hz) (by omega)).trans hz
    have hrlt := lt_of_some hr2
    have hbr : ¬ w1.heap.size = w.heap.size := by omega
    obtain ⟨⟨d0, d1, d2, d3⟩, g0, g1, g2, g3⟩ := cells4_of' hb2
    have hkp2 := HP.out.kp.to (hc2.ag.sub (fun j _ hj => by omega))
    have HK := Lib.hid hkp2
    have HC := Lib.hid (HP.out.c.trans hc2)
    have HX2 := Lib.hid hx2
    have HR2 := Lib.hid hr2
    have HB2 := Lib.hid hb2
    have HPO := Lib.hid hpo2
    have hqb : ¬ w2.heap.size = w1.heap.size := by omega
    clear hb2 hz hkp2 hc2 hx2 hr2 HP hpo2
    go_wp2_with fail
    have HP9 := Lib.hid (QI.one (n5' := w2.heap.size) 7 HX.out HC.out HX2.out HB2.out HR2.out HK.out (by omega) (Nat.le_refl _) (by omega) hblt)
    have hkl := HX2.out.le
    clear d0 d1 d2 d3 g0 g1 g2 g3
    go_roundg (U.length - (ki + 1))
    case measure => omega
    case rel => exact ⟨.mk 7 [] [] [a'], ki + 1, none, none, some ⟨w2.heap.size, 0, none⟩, 0, 0, 1, by omega, HP9.out, HPO.out⟩
end Go.Proofs.YtfkmajjgkdjncaaGreatDoor

namespace Go.Proofs.YtfkmajjgkdjncaaGreatDoor
open Go.RowKit De Wd
def CP (p : Nat) (U : List Uw) (wv tv rv ti ri : Value) (fn d k : Nat) (e : PT) (k' : Nat) : Prop :=
 ∀ w, PI w p U k d wv tv rv ti ri → Calls Tryz.prog fn #[.pointer (some ⟨p, 0, none⟩)] w fun x w' => PtP w w' e x ∧ Ch w w' p ∧ PI w' p U k' d wv tv rv ti ri
theorem preads_all (p : Nat) (U : List Uw) (V : Pm.Ws) (hV : VOk V U) (wv tv rv ti ri : Value) : ∀ {d k : Nat} {e : PT} {k' : Nat}, Pm.PAlts V d k e k' → k < k' ∧ CP p U wv tv rv ti ri 95 d k e k' := by
 intro d k e k' h
 refine Pm.PAlts.rec
  (motive_1 := fun d k e k' _ => k < k' ∧ CP p U wv tv rv ti ri 95 d k e k')
  (motive_2 := fun d a k e k' _ => k ≤ k' ∧ PaL V (fun k b k' => k < k' ∧ CP p U wv tv rv ti ri 123 d k b k') a k e k')
  (motive_3 := fun d k e k' _ => k < k' ∧ CP p U wv tv rv ti ri 123 d k e k')
  (motive_4 := fun d a k e k' _ => k ≤ k' ∧ PsL V (fun k b k' => k < k' ∧ CP p U wv tv rv ti ri 143 d k b k') a k e k')
  (motive_5 := fun d k e k' _ => k < k' ∧ CP p U wv tv rv ti ri 143 d k e k')
  (motive_6 := fun a k e k' _ => k ≤ k' ∧ PqL V a k e k')
  (motive_7 := fun d k e k' _ => k < k' ∧ CP p U wv tv rv ti ri 164 d k e k') ?_ ?_ ?_ ?_ ?_ ?_ ?_ ?_ ?_ ?_ ?_ ?_ ?_ ?_ h
 · intro d k k1 k2 a e _ _ ih1 ih2
   exact ⟨by omega, fun w hx => ppattern_any p k d k1 k2 U V hV wv tv rv ti ri a e w hx _ (fun k b k' h => Nat.le_of_lt h.1) ih1 ih2.2 (fun w k a k1 hp hx => hp.2 w hx)⟩
 · intro d k a h
   exact ⟨Nat.le_refl _, .stop h⟩
 · intro d k k1 k2 a b e h _ _ ih1 ih2
   exact ⟨by omega, .go h ih1 ih2.2⟩
 · intro d k k1 k2 a e _ _ ih1 ih2
   exact ⟨by omega, fun w hx => palt_any p k d k1 k2 U V hV wv tv rv ti ri a e w hx _ (fun k b k' h => h.1) ih1 ih2.2 (fun w k a k1 hp hx => hp.2 w hx)⟩
 · intro d k a h
   exact ⟨Nat.le_refl _, .stop h⟩
 · intro d k k1 k2 a b e h _ _ ih1 ih2
   exact ⟨by omega, .go h ih1 ih2.2⟩
 · intro d k k1 k2 a e _ _ ih1 ih2
   exact ⟨by omega, fun w hx => ppost_any p k d k1 k2 U V hV wv tv rv ti ri a e w hx ih2.2 (fun w hx => ih1.2 w hx)⟩
 · intro k a h
   exact ⟨Nat.le_refl _, .stop h⟩
 · intro k k2 a e h _ ih
   exact ⟨by omega, .go h ih.2⟩
 · intro d k j ns h n h2
   have h5 := nms_lt n
   exact ⟨by omega, fun w hx => patomTok_any p k d j U V hV wv tv rv ti ri ns w hx h n h2⟩
 · intro d k h
   exact ⟨by omega, fun w hx => patomWell_any p k d U V hV wv tv rv ti ri w hx h⟩
 · intro d k j k1 j2 ns es e h hd n h2 _ h3 n2 h4 ih
   have h5 := nms_lt n
   have h6 := nms_lt n2
   exact ⟨by omega, fun w hx => patomIn_any p k d (j2 + 1) U V hV wv tv rv ti ri _ w hx h (fun w hx => pin_any p k d j k1 j2 U V hV wv tv rv ti ri ns es e w hx h hd n h2 h3 n2 h4 (fun w hx => ih.2 w hx))⟩
 · intro d k h hd h2
   exact ⟨by omega, fun w hx => patomPar_any p k d (k + 1 + 1) U V hV wv tv rv ti ri _ w hx h (fun w hx => pparens_any p k d (k + 1) U V hV wv tv rv ti ri _ w hx h hd (fun _ => ⟨rfl, rfl⟩) h2 (fun hn => absurd h2 hn))⟩
 · intro d k k1 e h hd h2 _ h3 ih
   exact ⟨by omega, fun w hx => patomPar_any p k d (k1 + 1) U V hV wv tv rv ti ri _ w hx h (fun w hx => pparens_any p k d k1 U V hV wv tv rv ti ri _ w hx h hd (fun h9 => absurd h9 h2) h3 (fun _ w hx => ih.2 w hx))⟩
end Go.Proofs.YtfkmajjgkdjncaaGreatDoor
