import Derived.Test.YtfkmajjgkdjncaaGreatDoorPsClass
import Derived.Test.YtfkmajjgkdjncaaGreatDoorPmBack
import Derived.Test.YtfkmajjgkdjncaaGreatDoorGLim
import Derived.Test.YtfkmajjgkdjncaaGreatDoorPsLi
import Derived.Test.YtfkmajjgkdjncaaGreatDoorPaRe
import Derived.Deep.LoopGhost
import Derived.Deep.RegionLaw
set_option linter.unusedVariables false
set_option linter.unusedSimpArgs false
set_option maxHeartbeats 4000000
set_option maxRecDepth 100000
namespace Go.Proofs.YtfkmajjgkdjncaaGreatDoor
open Go.RowKit De Wd
theorem cells6_of' {w : World} {p : Nat} {a b c d e f : Value} {t : TypeId} (h : w.heap[p]? = some (.cells #[a, b, c, d, e, f] t (0, 0))) : (w.cell? ⟨p, 0, none⟩ = some a ∧ w.cell? ⟨p, 1, none⟩ = some b ∧ w.cell? ⟨p, 2, none⟩ = some c ∧ w.cell? ⟨p, 3, none⟩ = some d ∧ w.cell? ⟨p, 4, none⟩ = some e ∧ w.cell? ⟨p, 5, none⟩ = some f) ∧ w.frozen? ⟨p, 0, none⟩ = false ∧ w.frozen? ⟨p, 1, none⟩ = false ∧ w.frozen? ⟨p, 2, none⟩ = false ∧ w.frozen? ⟨p, 3, none⟩ = false ∧ w.frozen? ⟨p, 4, none⟩ = false ∧ w.frozen? ⟨p, 5, none⟩ = false := by
 simp [World.cell?, World.frozen?, h]
structure TI (w W : World) (p t : Nat) (U : List Uw) (k : Nat) (wv tv rv ti ri c0 c1 c2 c3 c4 c5 : Value) : Prop where
 x : PI W p U k 0 wv tv rv ti ri
 c : Ch w W p
 ht : W.heap[t]? = some (.cells #[c0, c1, c2, c3, c4, c5] 54 (0, 0))
section
variable {w W W' : World} {p t k k' k0 d0 : Nat} {U : List Uw} {wv tv rv ti ri c0 c1 c2 c3 c4 c5 tv0 rv0 ti0 ri0 : Value}
theorem TI.to (h : TI w W p t U k wv tv rv ti ri c0 c1 c2 c3 c4 c5) (hc : Ch W W' p) (hx : PI W' p U k' 0 wv tv rv ti ri) (hp : t ≠ p) : TI w W' p t U k' wv tv rv ti ri c0 c1 c2 c3 c4 c5 :=
 ⟨hx, h.c.trans hc, (hc.block _ (lt_of_some h.ht) hp).trans h.ht⟩
theorem TI.set1 (h : TI w W p t U k wv tv rv ti ri c0 c1 c2 c3 c4 c5) (h0 : PI w p U k0 d0 wv tv0 rv0 ti0 ri0) (x : Value) (hwt : w.heap.size ≤ t) : TI w (W.setCell ⟨t, 1, none⟩ x) p t U k wv tv rv ti ri c0 x c2 c3 c4 c5 :=
 ⟨h0.setNew h.x hwt, h.c.setNew' hwt, by have := h.ht; simp [World.setCell, Array.getElem?_modify, this]⟩
theorem TI.set2 (h : TI w W p t U k wv tv rv ti ri c0 c1 c2 c3 c4 c5) (h0 : PI w p U k0 d0 wv tv0 rv0 ti0 ri0) (x : Value) (hwt : w.heap.size ≤ t) : TI w (W.setCell ⟨t, 2, none⟩ x) p t U k wv tv rv ti ri c0 c1 x c3 c4 c5 :=
 ⟨h0.setNew h.x hwt, h.c.setNew' hwt, by have := h.ht; simp [World.setCell, Array.getElem?_modify, this]⟩
theorem TI.set345 (h : TI w W p t U k wv tv rv ti ri c0 c1 c2 c3 c4 c5) (h0 : PI w p U k0 d0 wv tv0 rv0 ti0 ri0) (x y z : Value) (hwt : w.heap.size ≤ t) : TI w (((W.setCell ⟨t, 3, none⟩ x).setCell ⟨t, 4, none⟩ y).setCell ⟨t, 5, none⟩ z) p t U k wv tv rv ti ri c0 c1 c2 x y z :=
 ⟨h0.setNew (h0.setNew (h0.setNew h.x hwt) hwt) hwt, ((h.c.setNew' hwt).setNew' hwt).setNew' hwt, by have := h.ht; simp [World.setCell, Array.getElem?_modify, this]⟩
end
theorem ptoken_any (p k k0 d0 : Nat) (U : List Uw) (V : Pm.Ws) (hV : VOk V U) (wv tv rv ti ri : Value) (tv0 rv0 ti0 ri0 : Value) (pst : List (TK × Value × Value)) (psr : List (RU × Value)) (lt lr : List Int) (t : TK) (tx : ByteArray) (w0 w : World) (h0 : PI w0 p U k0 d0 wv tv0 rv0 ti0 ri0) (hli : LI w0 w p U (k + 1) wv tv rv ti ri pst psr lt lr) (hT : Pm.TkA V k t tx) (hre : ∀ w, Calls Tryz.prog 14 #[.string tx] w (ReOk t.re w)) :
 Calls Tryz.prog 56 #[.pointer (some ⟨p, 0, none⟩)] w fun x w' => x = .returned (.tuple #[]) ∧ ∃ tv' a b, LI w0 w' p U (k + 6) wv tv' rv ti ri (pst ++ [(t, a, b)]) psr lt lr := by
 have h := hli.x
 have hplt := h.lt
 have hp0 := h0.lt
 have hw00 := hli.c.size
 have HTV := Lib.hid (owns_slice hli.tk.row)
 have HLI := Lib.hid hli
 have HX0 := Lib.hid h0
 have HX := Lib.hid h
 have HTA := Lib.hid hT
 obtain ⟨ir, hr0', hr1, hr2, hr3⟩ := infoToken
 have hkd0 := hT.kd
 have HRE := Lib.hid hre
 clear hli h0 h hT hre
 go_enter Tryz.func56, Tryz.ntmps56
 go_wp2_with fail
 refine (pname_any p (k + 1) 0 U V hV wv tv rv ti ri t.name _ HX.out HTA.out.w1 HTA.out.nm).mono ?_
 rintro x w1 ⟨rfl, hc1, hx1⟩
 obtain ⟨tb, htb⟩ : ∃ tb, tb = w1.heap.size := ⟨_, rfl⟩
 have hs1 := hc1.size
 have hwt : w.heap.size ≤ tb := by omega
 have htp : tb ≠ p := by omega
 obtain ⟨W1, hW1⟩ : ∃ W1, W1 = w1.alloc (.cells #[.string t.name, .int .i64 0, .int .i64 0, .int .i64 0, .slice none 0 0, .slice none 0 0] 54) := ⟨_, rfl⟩
 have hti : TI w W1 p tb U (k + 2) wv tv rv ti ri (.string t.name) (.int .i64 0) (.int .i64 0) (.int .i64 0) (.slice none 0 0) (.slice none 0 0) := by
  have hb := bel_new (Below.refl w1.heap.size w1) (.cells #[.string t.name, .int .i64 0, .int .i64 0, .int .i64 0, .slice none 0 0, .slice none 0 0] 54)
  rw [hW1]
  exact ⟨hx1.moved hb, hc1.trans (Ch.of hb), by rw [htb]; exact heap_alloc_new w1 _⟩
 have H1 := Lib.hid hti
 have HW1 := Lib.hid hW1
 have HTB := Lib.hid htb
 clear hti hW1 htb hc1 hx1
 go_wp2_with (with_reducible rw [← HW1.out])
 simp only [← HTB.out]
 rcases hkd0 with hkd | hkd | hkd
 · skip
   have HK := Lib.hid (show V[k + 2]? = some (1, sb ⟨#[105, 110, 116]⟩) ∧ t.kind = 0 from ⟨by have h9 := HTA.out.w2; rw [hkd] at h9; exact h9, hkd⟩)
   clear hkd
   obtain ⟨q2, hq2⟩ := hV.at H1.out.x.le
   have hsg2 := tst_v hV hq2 (kk := 1) (by decide) ⟨#[99, 97, 108, 108]⟩
   rw [decide_eq_false (fun e => by rw [HK.out.1] at e; revert e; decide)] at hsg2
   have HQ2 := Lib.hid hq2
   have HT2 := Lib.hid hsg2
   clear hq2 hsg2
   refine (text_any 1 ⟨#[99, 97, 108, 108]⟩ _).mono ?_
   rintro x wt2 ⟨b12, b22, rfl, hbx, hbt⟩
   have HY2 := Lib.hid (And.intro (H1.out.x.moved hbt) (And.intro hbx hbt))
   clear hbx hbt
   go_wp2_with fail
   refine (pskipT p (k + 2) 0 U wv tv rv ti ri 1 ⟨#[99, 97, 108, 108]⟩ b12 b22 q2 _ (by decide) HY2.out.1 HQ2.out HY2.out.2.1 ?_ ?_).mono ?_
   · intro e; have h1 := HY2.out.1.hh; rw [← e, HY2.out.2.1.h1] at h1; cases h1
   · intro e; have h1 := HY2.out.1.hh; rw [← e, HY2.out.2.1.h2] at h1; cases h1
   rintro x w2 ⟨rfl, hc2, hx2⟩
   replace hc2 := (Ch.of (p := p) HY2.out.2.2).trans hc2
   rw [HT2.out] at hx2 ⊢
   rw [if_neg (by decide)] at hx2
   have hi2 := H1.out.to hc2 hx2 htp
   clear hx2 hc2
   have H2 := Lib.hid hi2
   clear hi2
   go_wp2_with fail
   obtain ⟨q3, hq3⟩ := hV.at H2.out.x.le
   have hsg3 := tst_v hV hq3 (kk := 1) (by decide) ⟨#[114, 101, 116]⟩
   rw [decide_eq_false (fun e => by rw [HK.out.1] at e; revert e; decide)] at hsg3
   have HQ3 := Lib.hid hq3
   have HT3 := Lib.hid hsg3
   clear hq3 hsg3
   refine (text_any 1 ⟨#[114, 101, 116]⟩ _).mono ?_
   rintro x wt3 ⟨b13, b23, rfl, hbx, hbt⟩
   have HY3 := Lib.hid (And.intro (H2.out.x.moved hbt) (And.intro hbx hbt))
   clear hbx hbt
   go_wp2_with fail
   refine (pskipT p (k + 2) 0 U wv tv rv ti ri 1 ⟨#[114, 101, 116]⟩ b13 b23 q3 _ (by decide) HY3.out.1 HQ3.out HY3.out.2.1 ?_ ?_).mono ?_
   · intro e; have h1 := HY3.out.1.hh; rw [← e, HY3.out.2.1.h1] at h1; cases h1
   · intro e; have h1 := HY3.out.1.hh; rw [← e, HY3.out.2.1.h2] at h1; cases h1
   rintro x w3 ⟨rfl, hc3, hx3⟩
   replace hc3 := (Ch.of (p := p) HY3.out.2.2).trans hc3
   rw [HT3.out] at hx3 ⊢
   rw [if_neg (by decide)] at hx3
   have hi3 := H2.out.to hc3 hx3 htp
   clear hx3 hc3
   have H3 := Lib.hid hi3
   obtain ⟨q4, hq4⟩ := hV.at hi3.x.le
   have ht4 : tst 1 ⟨#[105, 110, 116]⟩ q4 = true := by rw [tst_v hV hq4 (by decide)]; exact decide_eq_true HK.out.1
   have HQ4 := Lib.hid hq4
   have HS4 := Lib.hid ht4
   clear hi3 hq4 ht4
   go_wp2_with fail
   refine (text_any 1 ⟨#[105, 110, 116]⟩ _).mono ?_
   rintro x wt4 ⟨b14, b24, rfl, hbx, hbt⟩
   have HT4 := Lib.hid (And.intro (H3.out.x.moved hbt) (And.intro hbx hbt))
   clear hbx hbt
   go_wp2_with fail
   refine (ptakeT p (k + 2) 0 U wv tv rv ti ri 1 ⟨#[105, 110, 116]⟩ b14 b24 q4 _ (by decide) HT4.out.1 HQ4.out HT4.out.2.1 ?_ ?_ HS4.out).mono ?_
   · intro e; have h1 := HT4.out.1.hh; rw [← e, HT4.out.2.1.h1] at h1; cases h1
   · intro e; have h1 := HT4.out.1.hh; rw [← e, HT4.out.2.1.h2] at h1; cases h1
   rintro x w4 ⟨rfl, hc4, hx4⟩
   replace hc4 := (Ch.of (p := p) HT4.out.2.2).trans hc4
   have H4 := Lib.hid (H3.out.to hc4 hx4 htp)
   clear hc4 hx4
   go_wp2_with fail
   refine (pclass_any p (k + 3) 0 U V hV wv tv rv ti ri t.cls _ H4.out.x HTA.out.w3 HTA.out.cl).mono ?_
   rintro x w5 ⟨rfl, hc5, hx5⟩
   have hi5 := H4.out.to hc5 hx5 htp
   obtain ⟨⟨d0, d1, d2, d3, d4, d5⟩, g0, g1, g2, g3, g4, g5⟩ := cells6_of' hi5.ht
   obtain ⟨W5, hW5⟩ : ∃ W5, W5 = w5.setCell ⟨tb, 2, none⟩ (.int .i64 t.cls) := ⟨_, rfl⟩
   have hi5' := hi5.set2 HX.out (.int .i64 t.cls) hwt
   rw [← hW5] at hi5'
   have H5 := Lib.hid hi5'
   have HW5 := Lib.hid hW5
   obtain ⟨q6, hq6⟩ := hV.at hi5'.x.le
   have ht6 : tst 3 ⟨#[61]⟩ q6 = true := by rw [sg_v hV hq6 61]; exact decide_eq_true HTA.out.w4
   have HQ6 := Lib.hid hq6
   have HS6 := Lib.hid ht6
   clear hi5 hi5' hc5 hx5 hW5 hq6 ht6
   go_wp2_with (with_reducible rw [← HW5.out])
   clear d0 d1 d2 d3 d4 d5 g0 g1 g2 g3 g4 g5
   refine (text_any 3 ⟨#[61]⟩ _).mono ?_
   rintro x wt6 ⟨b16, b26, rfl, hbx, hbt⟩
   have HT6 := Lib.hid (And.intro (H5.out.x.moved hbt) (And.intro hbx hbt))
   clear hbx hbt
   go_wp2_with fail
   refine (ptakeT p (k + 4) 0 U wv tv rv ti ri 3 ⟨#[61]⟩ b16 b26 q6 _ (by decide) HT6.out.1 HQ6.out HT6.out.2.1 ?_ ?_ HS6.out).mono ?_
   · intro e; have h1 := HT6.out.1.hh; rw [← e, HT6.out.2.1.h1] at h1; cases h1
   · intro e; have h1 := HT6.out.1.hh; rw [← e, HT6.out.2.1.h2] at h1; cases h1
   rintro x w6 ⟨rfl, hc6, hx6⟩
   replace hc6 := (Ch.of (p := p) HT6.out.2.2).trans hc6
   have hi6 := H5.out.to hc6 hx6 htp
   obtain ⟨⟨ek, eb, en⟩, hq7⟩ := hV.at hi6.x.le
   obtain ⟨e1, e2⟩ := v_name hV hq7 HTA.out.w5
   dsimp only at e1 e2
   obtain rfl : (4 : Int) = ek := e1.symm
   have HEB := Lib.hid e2
   have H6 := Lib.hid hi6
   have HQ7 := Lib.hid hq7
   have HS7 := Lib.hid (show tsk 4 ((4 : Int), eb, en) = true from rfl)
   clear hi6 hc6 hx6 hq7 e1 e2
   go_wp2_with fail
   refine (kind_any 4 _).mono ?_
   rintro x wt7 ⟨b17, rfl, hbx, hbt⟩
   have HT7 := Lib.hid (And.intro (H6.out.x.moved hbt) (And.intro hbx hbt))
   clear hbx hbt
   go_wp2_with fail
   refine (ptakeK p (k + 5) 0 U wv tv rv ti ri 4 b17 ((4 : Int), eb, en) _ (by decide) HT7.out.1 HQ7.out HT7.out.2.1 HS7.out).mono ?_
   rintro x w7 ⟨rfl, hc7, hx7⟩
   replace hc7 := (Ch.of (p := p) HT7.out.2.2).trans hc7
   have hbel := bel_new (Below.refl w7.heap.size w7) (.cells #[.int .i64 4, .string eb, .int .i64 en] 72)
   have hi7 := (H6.out.to hc7 hx7 htp).to (Ch.of hbel) ((H6.out.to hc7 hx7 htp).x.moved hbel) htp
   have hge := heap_alloc_new w7 (.cells #[.int .i64 4, .string eb, .int .i64 en] 72)
   obtain ⟨W7, hW7⟩ : ∃ W7, W7 = w7.alloc (.cells #[.int .i64 4, .string eb, .int .i64 en] 72) := ⟨_, rfl⟩
   rw [← hW7] at hi7 hge
   obtain ⟨⟨u0, u1, u2⟩, m0, m1, m2⟩ := cells3_of' hge
   have htW7 : tb < W7.heap.size := lt_of_some hi7.ht
   have H7 := Lib.hid hi7
   have HW7 := Lib.hid hW7
   clear hbel hi7 hge hc7 hx7 hW7
   go_wp2_with (with_reducible rw [← HW7.out])
   rw [HEB.out]
   refine (HRE.out _).mono ?_
   rintro x w8 ⟨sv8, lv8, rfl, hk8, hb8⟩
   obtain ⟨⟨o8, q8, rfl⟩, ⟨o9, q9, rfl⟩⟩ := hk8.here.form
   have hi8 := H7.out.to (Ch.of hb8) (H7.out.x.moved hb8) htp
   have hbr := bel_new (Below.refl w8.heap.size w8) (.cells #[.int .i64 t.re.kind, .slice o8 t.re.set.length q8, .slice o9 t.re.parts.length q9] 35)
   have hi9 := hi8.to (Ch.of hbr) (hi8.x.moved hbr) htp
   have hgr := heap_alloc_new w8 (.cells #[.int .i64 t.re.kind, .slice o8 t.re.set.length q8, .slice o9 t.re.parts.length q9] 35)
   obtain ⟨W8, hW8⟩ : ∃ W8, W8 = w8.alloc (.cells #[.int .i64 t.re.kind, .slice o8 t.re.set.length q8, .slice o9 t.re.parts.length q9] 35) := ⟨_, rfl⟩
   have hk9 := hk8.to (Ag.of hbr)
   rw [← hW8] at hi9 hgr hk9
   obtain ⟨rb, hrb⟩ : ∃ rb, rb = w8.heap.size := ⟨_, rfl⟩
   have hs8 : W7.heap.size ≤ w8.heap.size := hb8.size
   have htr : ¬ tb = rb := by omega
   have htr' : ¬ rb = tb := by omega
   rw [← hrb] at hgr
   obtain ⟨⟨a0, a1, a2⟩, b0, b1, b2⟩ := cells3_of' hgr
   obtain ⟨⟨d0, d1, d2, d3, d4, d5⟩, g0, g1, g2, g3, g4, g5⟩ := cells6_of' hi9.ht
   obtain ⟨W9, hW9⟩ : ∃ W9, W9 = ((W8.setCell ⟨tb, 3, none⟩ (.int .i64 t.re.kind)).setCell ⟨tb, 4, none⟩ (.slice o8 t.re.set.length q8)).setCell ⟨tb, 5, none⟩ (.slice o9 t.re.parts.length q9) := ⟨_, rfl⟩
   have hi9' := hi9.set345 HX.out (.int .i64 t.re.kind) (.slice o8 t.re.set.length q8) (.slice o9 t.re.parts.length q9) hwt
   rw [← hW9] at hi9'
   have hw7s : w.heap.size ≤ W7.heap.size := H7.out.c.size
   have hk9' : KP (fun j => w.heap.size ≤ j ∧ j ≠ tb) W9 (fun w' => ReIs w' t.re (.slice o8 t.re.set.length q8) (.slice o9 t.re.parts.length q9)) := by
    rw [hW9]
    exact (hk9.sub (fun j _ hj => (⟨by have h2 : W7.heap.size ≤ j := hj; omega, by have h2 : W7.heap.size ≤ j := hj; omega⟩ : w.heap.size ≤ j ∧ j ≠ tb))).to ((((Ag.refl _ _).setCell (fun h => h.2 rfl) _).setCell (fun h => h.2 rfl) _).setCell (fun h => h.2 rfl) _)
   have HW8 := Lib.hid hW8
   have HW9 := Lib.hid hW9
   have HRB := Lib.hid hrb
   have HI := Lib.hid (And.intro hi9' hk9')
   clear hi8 hi9 hi9' hbr hgr hk8 hk9 hk9' hb8 hW8 hW9 hrb u0 u1 u2 m0 m1 m2
   obtain ⟨otv, ctv, htv⟩ := HTV.out
   subst htv
   have hli := HLI.out.ch hp0 HI.out.1.c HI.out.1.x (by omega)
   obtain ⟨⟨c0, c1, c2, c3, c4', c5, c6⟩, f0, f1, f2, f3, f4, f5, f6⟩ := cells7_of HI.out.1.x.hh
   obtain ⟨⟨v0, v1, v2, v3, v4, v5⟩, l0, l1, l2, l3, l4, l5⟩ := cells6_of' HI.out.1.ht
   have HL9 := Lib.hid hli
   have hw09 : w0.heap.size ≤ W9.heap.size := hli.c.size
   have hpst := HLI.out.n1
   have hsm := hli.x.small
   have hpk := hli.x.le
   have hpz : p < W9.heap.size := lt_of_some HI.out.1.x.hh
   have hrz : tb < W9.heap.size := lt_of_some HI.out.1.ht
   have hpn : ¬ p = W9.heap.size := by omega
   have hrn : ¬ tb = W9.heap.size := by omega
   have hpn' : ¬ W9.heap.size = p := by omega
   have hrn' : ¬ W9.heap.size = tb := by omega
   clear hli
   go_wp2_with (first | (with_reducible rw [← HW8.out]; simp only [← HRB.out]) | (with_reducible rw [← HW9.out]))
   clear a0 a1 a2 b0 b1 b2 d0 d1 d2 d3 d4 d5 g0 g1 g2 g3 g4 g5
   go_region_law
    (refine step_append_far _ rfl _ _ 23 rfl w0.heap.size 54 ir _ 6 88 Tryz.underlying23 hr0' hr1 hr2 hr3 rfl (by decide) (.slice otv pst.length ctv) pst.length (pst.flatMap six) rfl (by repeat (first | exact HL9.out.tk.row | refine World.ownsRow.alloc ?_ _ | refine owns_drew ?_)) _ 1 _ rfl (by first | exact afrow_new rfl (by simp) | exact row_drew (afrow_new rfl (by simp))) rfl (by simp [Value.oneCell']) (by unfold maxLen; omega) (by omega) (by simp; omega) ?_; intro v8 w9 hown9 hg9 hf9 hb9; obtain ⟨o7, c7, rfl⟩ := owns_slice hown9
     have hp9 := (hb9.block p hp0).trans (bel_get (by repeat (first | exact Below.refl _ _ | refine Below.drew ?_ | refine bel_new ?_ _)) HI.out.1.x.hh)
     obtain ⟨⟨z0, z1, z2, z3, z4, z5, z6⟩, y0, y1, y2, y3, y4, y5, y6⟩ := cells7_of hp9)
   all_goals (
    have hq : KP (fun j => XB p rv ti ri j ∧ (Value.slice otv pst.length ctv).ownBlock ≠ some j) W9 (fun w' => ReIs w' t.re (.slice o8 t.re.set.length q8) (.slice o9 t.re.parts.length q9)) :=
     HI.out.2.sub (fun j _ hj => ⟨⟨by omega, fun e => by have := (HLI.out.ru.row.lt j e).2; omega, fun e => by have := (HLI.out.it.lt j e).2; omega, fun e => by have := (HLI.out.ir.lt j e).2; omega⟩, fun e => by have := (HLI.out.tk.row.lt j e).2; omega⟩)
    have hpu := LI.pushT HX0.out HL9.out (q := (t, .slice o8 t.re.set.length q8, .slice o9 t.re.parts.length q9)) (by repeat (first | exact Below.refl _ _ | refine Below.drew ?_ | refine bel_new ?_ _)) (by simpa only [six, HK.out.2] using hown9) hg9 hf9 hb9 hq (by omega)
    clear z0 z1 z2 z3 z4 z5 z6 y0 y1 y2 y3 y4 y5 y6
    go_end0
    exact ⟨rfl, _, _, _, hpu⟩)
 · skip
   have HK := Lib.hid (show V[k + 2]? = some (1, sb ⟨#[99, 97, 108, 108]⟩) ∧ t.kind = 1 from ⟨by have h9 := HTA.out.w2; rw [hkd] at h9; exact h9, hkd⟩)
   clear hkd
   obtain ⟨q2, hq2⟩ := hV.at H1.out.x.le
   have hsg2 := tst_v hV hq2 (kk := 1) (by decide) ⟨#[99, 97, 108, 108]⟩
   rw [decide_eq_true HK.out.1] at hsg2
   have HQ2 := Lib.hid hq2
   have HT2 := Lib.hid hsg2
   clear hq2 hsg2
   refine (text_any 1 ⟨#[99, 97, 108, 108]⟩ _).mono ?_
   rintro x wt2 ⟨b12, b22, rfl, hbx, hbt⟩
   have HY2 := Lib.hid (And.intro (H1.out.x.moved hbt) (And.intro hbx hbt))
   clear hbx hbt
   go_wp2_with fail
   refine (pskipT p (k + 2) 0 U wv tv rv ti ri 1 ⟨#[99, 97, 108, 108]⟩ b12 b22 q2 _ (by decide) HY2.out.1 HQ2.out HY2.out.2.1 ?_ ?_).mono ?_
   · intro e; have h1 := HY2.out.1.hh; rw [← e, HY2.out.2.1.h1] at h1; cases h1
   · intro e; have h1 := HY2.out.1.hh; rw [← e, HY2.out.2.1.h2] at h1; cases h1
   rintro x w2 ⟨rfl, hc2, hx2⟩
   replace hc2 := (Ch.of (p := p) HY2.out.2.2).trans hc2
   rw [HT2.out] at hx2 ⊢
   rw [if_pos rfl] at hx2
   have hi2 := H1.out.to hc2 hx2 htp
   clear hx2 hc2
   obtain ⟨⟨d0, d1, d2, d3, d4, d5⟩, g0, g1, g2, g3, g4, g5⟩ := cells6_of' hi2.ht
   obtain ⟨W4, hW4⟩ : ∃ W4, W4 = w2.setCell ⟨tb, 1, none⟩ (.int .i64 1) := ⟨_, rfl⟩
   have hi4 := hi2.set1 HX.out (.int .i64 1) hwt
   rw [← hW4] at hi4
   have H4 := Lib.hid hi4
   have HW4 := Lib.hid hW4
   clear hi2 hi4 hW4
   go_wp2_with (with_reducible rw [← HW4.out])
   clear d0 d1 d2 d3 d4 d5 g0 g1 g2 g3 g4 g5
   refine (pclass_any p (k + 3) 0 U V hV wv tv rv ti ri t.cls _ H4.out.x HTA.out.w3 HTA.out.cl).mono ?_
   rintro x w5 ⟨rfl, hc5, hx5⟩
   have hi5 := H4.out.to hc5 hx5 htp
   obtain ⟨⟨d0, d1, d2, d3, d4, d5⟩, g0, g1, g2, g3, g4, g5⟩ := cells6_of' hi5.ht
   obtain ⟨W5, hW5⟩ : ∃ W5, W5 = w5.setCell ⟨tb, 2, none⟩ (.int .i64 t.cls) := ⟨_, rfl⟩
   have hi5' := hi5.set2 HX.out (.int .i64 t.cls) hwt
   rw [← hW5] at hi5'
   have H5 := Lib.hid hi5'
   have HW5 := Lib.hid hW5
   obtain ⟨q6, hq6⟩ := hV.at hi5'.x.le
   have ht6 : tst 3 ⟨#[61]⟩ q6 = true := by rw [sg_v hV hq6 61]; exact decide_eq_true HTA.out.w4
   have HQ6 := Lib.hid hq6
   have HS6 := Lib.hid ht6
   clear hi5 hi5' hc5 hx5 hW5 hq6 ht6
   go_wp2_with (with_reducible rw [← HW5.out])
   clear d0 d1 d2 d3 d4 d5 g0 g1 g2 g3 g4 g5
   refine (text_any 3 ⟨#[61]⟩ _).mono ?_
   rintro x wt6 ⟨b16, b26, rfl, hbx, hbt⟩
   have HT6 := Lib.hid (And.intro (H5.out.x.moved hbt) (And.intro hbx hbt))
   clear hbx hbt
   go_wp2_with fail
   refine (ptakeT p (k + 4) 0 U wv tv rv ti ri 3 ⟨#[61]⟩ b16 b26 q6 _ (by decide) HT6.out.1 HQ6.out HT6.out.2.1 ?_ ?_ HS6.out).mono ?_
   · intro e; have h1 := HT6.out.1.hh; rw [← e, HT6.out.2.1.h1] at h1; cases h1
   · intro e; have h1 := HT6.out.1.hh; rw [← e, HT6.out.2.1.h2] at h1; cases h1
   rintro x w6 ⟨rfl, hc6, hx6⟩
   replace hc6 := (Ch.of (p := p) HT6.out.2.2).trans hc6
   have hi6 := H5.out.to hc6 hx6 htp
   obtain ⟨⟨ek, eb, en⟩, hq7⟩ := hV.at hi6.x.le
   obtain ⟨e1, e2⟩ := v_name hV hq7 HTA.out.w5
   dsimp only at e1 e2
   obtain rfl : (4 : Int) = ek := e1.symm
   have HEB := Lib.hid e2
   have H6 := Lib.hid hi6
   have HQ7 := Lib.hid hq7
   have HS7 := Lib.hid (show tsk 4 ((4 : Int), eb, en) = true from rfl)
   clear hi6 hc6 hx6 hq7 e1 e2
   go_wp2_with fail
   refine (kind_any 4 _).mono ?_
   rintro x wt7 ⟨b17, rfl, hbx, hbt⟩
   have HT7 := Lib.hid (And.intro (H6.out.x.moved hbt) (And.intro hbx hbt))
   clear hbx hbt
   go_wp2_with fail
   refine (ptakeK p (k + 5) 0 U wv tv rv ti ri 4 b17 ((4 : Int), eb, en) _ (by decide) HT7.out.1 HQ7.out HT7.out.2.1 HS7.out).mono ?_
   rintro x w7 ⟨rfl, hc7, hx7⟩
   replace hc7 := (Ch.of (p := p) HT7.out.2.2).trans hc7
   have hbel := bel_new (Below.refl w7.heap.size w7) (.cells #[.int .i64 4, .string eb, .int .i64 en] 72)
   have hi7 := (H6.out.to hc7 hx7 htp).to (Ch.of hbel) ((H6.out.to hc7 hx7 htp).x.moved hbel) htp
   have hge := heap_alloc_new w7 (.cells #[.int .i64 4, .string eb, .int .i64 en] 72)
   obtain ⟨W7, hW7⟩ : ∃ W7, W7 = w7.alloc (.cells #[.int .i64 4, .string eb, .int .i64 en] 72) := ⟨_, rfl⟩
   rw [← hW7] at hi7 hge
   obtain ⟨⟨u0, u1, u2⟩, m0, m1, m2⟩ := cells3_of' hge
   have htW7 : tb < W7.heap.size := lt_of_some hi7.ht
   have H7 := Lib.hid hi7
   have HW7 := Lib.hid hW7
   clear hbel hi7 hge hc7 hx7 hW7
   go_wp2_with (with_reducible rw [← HW7.out])
   rw [HEB.out]
   refine (HRE.out _).mono ?_
   rintro x w8 ⟨sv8, lv8, rfl, hk8, hb8⟩
   obtain ⟨⟨o8, q8, rfl⟩, ⟨o9, q9, rfl⟩⟩ := hk8.here.form
   have hi8 := H7.out.to (Ch.of hb8) (H7.out.x.moved hb8) htp
   have hbr := bel_new (Below.refl w8.heap.size w8) (.cells #[.int .i64 t.re.kind, .slice o8 t.re.set.length q8, .slice o9 t.re.parts.length q9] 35)
   have hi9 := hi8.to (Ch.of hbr) (hi8.x.moved hbr) htp
   have hgr := heap_alloc_new w8 (.cells #[.int .i64 t.re.kind, .slice o8 t.re.set.length q8, .slice o9 t.re.parts.length q9] 35)
   obtain ⟨W8, hW8⟩ : ∃ W8, W8 = w8.alloc (.cells #[.int .i64 t.re.kind, .slice o8 t.re.set.length q8, .slice o9 t.re.parts.length q9] 35) := ⟨_, rfl⟩
   have hk9 := hk8.to (Ag.of hbr)
   rw [← hW8] at hi9 hgr hk9
   obtain ⟨rb, hrb⟩ : ∃ rb, rb = w8.heap.size := ⟨_, rfl⟩
   have hs8 : W7.heap.size ≤ w8.heap.size := hb8.size
   have htr : ¬ tb = rb := by omega
   have htr' : ¬ rb = tb := by omega
   rw [← hrb] at hgr
   obtain ⟨⟨a0, a1, a2⟩, b0, b1, b2⟩ := cells3_of' hgr
   obtain ⟨⟨d0, d1, d2, d3, d4, d5⟩, g0, g1, g2, g3, g4, g5⟩ := cells6_of' hi9.ht
   obtain ⟨W9, hW9⟩ : ∃ W9, W9 = ((W8.setCell ⟨tb, 3, none⟩ (.int .i64 t.re.kind)).setCell ⟨tb, 4, none⟩ (.slice o8 t.re.set.length q8)).setCell ⟨tb, 5, none⟩ (.slice o9 t.re.parts.length q9) := ⟨_, rfl⟩
   have hi9' := hi9.set345 HX.out (.int .i64 t.re.kind) (.slice o8 t.re.set.length q8) (.slice o9 t.re.parts.length q9) hwt
   rw [← hW9] at hi9'
   have hw7s : w.heap.size ≤ W7.heap.size := H7.out.c.size
   have hk9' : KP (fun j => w.heap.size ≤ j ∧ j ≠ tb) W9 (fun w' => ReIs w' t.re (.slice o8 t.re.set.length q8) (.slice o9 t.re.parts.length q9)) := by
    rw [hW9]
    exact (hk9.sub (fun j _ hj => (⟨by have h2 : W7.heap.size ≤ j := hj; omega, by have h2 : W7.heap.size ≤ j := hj; omega⟩ : w.heap.size ≤ j ∧ j ≠ tb))).to ((((Ag.refl _ _).setCell (fun h => h.2 rfl) _).setCell (fun h => h.2 rfl) _).setCell (fun h => h.2 rfl) _)
   have HW8 := Lib.hid hW8
   have HW9 := Lib.hid hW9
   have HRB := Lib.hid hrb
   have HI := Lib.hid (And.intro hi9' hk9')
   clear hi8 hi9 hi9' hbr hgr hk8 hk9 hk9' hb8 hW8 hW9 hrb u0 u1 u2 m0 m1 m2
   obtain ⟨otv, ctv, htv⟩ := HTV.out
   subst htv
   have hli := HLI.out.ch hp0 HI.out.1.c HI.out.1.x (by omega)
   obtain ⟨⟨c0, c1, c2, c3, c4', c5, c6⟩, f0, f1, f2, f3, f4, f5, f6⟩ := cells7_of HI.out.1.x.hh
   obtain ⟨⟨v0, v1, v2, v3, v4, v5⟩, l0, l1, l2, l3, l4, l5⟩ := cells6_of' HI.out.1.ht
   have HL9 := Lib.hid hli
   have hw09 : w0.heap.size ≤ W9.heap.size := hli.c.size
   have hpst := HLI.out.n1
   have hsm := hli.x.small
   have hpk := hli.x.le
   have hpz : p < W9.heap.size := lt_of_some HI.out.1.x.hh
   have hrz : tb < W9.heap.size := lt_of_some HI.out.1.ht
   have hpn : ¬ p = W9.heap.size := by omega
   have hrn : ¬ tb = W9.heap.size := by omega
   have hpn' : ¬ W9.heap.size = p := by omega
   have hrn' : ¬ W9.heap.size = tb := by omega
   clear hli
   go_wp2_with (first | (with_reducible rw [← HW8.out]; simp only [← HRB.out]) | (with_reducible rw [← HW9.out]))
   clear a0 a1 a2 b0 b1 b2 d0 d1 d2 d3 d4 d5 g0 g1 g2 g3 g4 g5
   go_region_law
    (refine step_append_far _ rfl _ _ 23 rfl w0.heap.size 54 ir _ 6 88 Tryz.underlying23 hr0' hr1 hr2 hr3 rfl (by decide) (.slice otv pst.length ctv) pst.length (pst.flatMap six) rfl (by repeat (first | exact HL9.out.tk.row | refine World.ownsRow.alloc ?_ _ | refine owns_drew ?_)) _ 1 _ rfl (by first | exact afrow_new rfl (by simp) | exact row_drew (afrow_new rfl (by simp))) rfl (by simp [Value.oneCell']) (by unfold maxLen; omega) (by omega) (by simp; omega) ?_; intro v8 w9 hown9 hg9 hf9 hb9; obtain ⟨o7, c7, rfl⟩ := owns_slice hown9
     have hp9 := (hb9.block p hp0).trans (bel_get (by repeat (first | exact Below.refl _ _ | refine Below.drew ?_ | refine bel_new ?_ _)) HI.out.1.x.hh)
     obtain ⟨⟨z0, z1, z2, z3, z4, z5, z6⟩, y0, y1, y2, y3, y4, y5, y6⟩ := cells7_of hp9)
   all_goals (
    have hq : KP (fun j => XB p rv ti ri j ∧ (Value.slice otv pst.length ctv).ownBlock ≠ some j) W9 (fun w' => ReIs w' t.re (.slice o8 t.re.set.length q8) (.slice o9 t.re.parts.length q9)) :=
     HI.out.2.sub (fun j _ hj => ⟨⟨by omega, fun e => by have := (HLI.out.ru.row.lt j e).2; omega, fun e => by have := (HLI.out.it.lt j e).2; omega, fun e => by have := (HLI.out.ir.lt j e).2; omega⟩, fun e => by have := (HLI.out.tk.row.lt j e).2; omega⟩)
    have hpu := LI.pushT HX0.out HL9.out (q := (t, .slice o8 t.re.set.length q8, .slice o9 t.re.parts.length q9)) (by repeat (first | exact Below.refl _ _ | refine Below.drew ?_ | refine bel_new ?_ _)) (by simpa only [six, HK.out.2] using hown9) hg9 hf9 hb9 hq (by omega)
    clear z0 z1 z2 z3 z4 z5 z6 y0 y1 y2 y3 y4 y5 y6
    go_end0
    exact ⟨rfl, _, _, _, hpu⟩)
 · skip
   have HK := Lib.hid (show V[k + 2]? = some (1, sb ⟨#[114, 101, 116]⟩) ∧ t.kind = 2 from ⟨by have h9 := HTA.out.w2; rw [hkd] at h9; exact h9, hkd⟩)
   clear hkd
   obtain ⟨q2, hq2⟩ := hV.at H1.out.x.le
   have hsg2 := tst_v hV hq2 (kk := 1) (by decide) ⟨#[99, 97, 108, 108]⟩
   rw [decide_eq_false (fun e => by rw [HK.out.1] at e; revert e; decide)] at hsg2
   have HQ2 := Lib.hid hq2
   have HT2 := Lib.hid hsg2
   clear hq2 hsg2
   refine (text_any 1 ⟨#[99, 97, 108, 108]⟩ _).mono ?_
   rintro x wt2 ⟨b12, b22, rfl, hbx, hbt⟩
   have HY2 := Lib.hid (And.intro (H1.out.x.moved hbt) (And.intro hbx hbt))
   clear hbx hbt
   go_wp2_with fail
   refine (pskipT p (k + 2) 0 U wv tv rv ti ri 1 ⟨#[99, 97, 108, 108]⟩ b12 b22 q2 _ (by decide) HY2.out.1 HQ2.out HY2.out.2.1 ?_ ?_).mono ?_
   · intro e; have h1 := HY2.out.1.hh; rw [← e, HY2.out.2.1.h1] at h1; cases h1
   · intro e; have h1 := HY2.out.1.hh; rw [← e, HY2.out.2.1.h2] at h1; cases h1
   rintro x w2 ⟨rfl, hc2, hx2⟩
   replace hc2 := (Ch.of (p := p) HY2.out.2.2).trans hc2
   rw [HT2.out] at hx2 ⊢
   rw [if_neg (by decide)] at hx2
   have hi2 := H1.out.to hc2 hx2 htp
   clear hx2 hc2
   have H2 := Lib.hid hi2
   clear hi2
   go_wp2_with fail
   obtain ⟨q3, hq3⟩ := hV.at H2.out.x.le
   have hsg3 := tst_v hV hq3 (kk := 1) (by decide) ⟨#[114, 101, 116]⟩
   rw [decide_eq_true HK.out.1] at hsg3
   have HQ3 := Lib.hid hq3
   have HT3 := Lib.hid hsg3
   clear hq3 hsg3
   refine (text_any 1 ⟨#[114, 101, 116]⟩ _).mono ?_
   rintro x wt3 ⟨b13, b23, rfl, hbx, hbt⟩
   have HY3 := Lib.hid (And.intro (H2.out.x.moved hbt) (And.intro hbx hbt))
   clear hbx hbt
   go_wp2_with fail
   refine (pskipT p (k + 2) 0 U wv tv rv ti ri 1 ⟨#[114, 101, 116]⟩ b13 b23 q3 _ (by decide) HY3.out.1 HQ3.out HY3.out.2.1 ?_ ?_).mono ?_
   · intro e; have h1 := HY3.out.1.hh; rw [← e, HY3.out.2.1.h1] at h1; cases h1
   · intro e; have h1 := HY3.out.1.hh; rw [← e, HY3.out.2.1.h2] at h1; cases h1
   rintro x w3 ⟨rfl, hc3, hx3⟩
   replace hc3 := (Ch.of (p := p) HY3.out.2.2).trans hc3
   rw [HT3.out] at hx3 ⊢
   rw [if_pos rfl] at hx3
   have hi3 := H2.out.to hc3 hx3 htp
   clear hx3 hc3
   obtain ⟨⟨d0, d1, d2, d3, d4, d5⟩, g0, g1, g2, g3, g4, g5⟩ := cells6_of' hi3.ht
   obtain ⟨W4, hW4⟩ : ∃ W4, W4 = w3.setCell ⟨tb, 1, none⟩ (.int .i64 2) := ⟨_, rfl⟩
   have hi4 := hi3.set1 HX.out (.int .i64 2) hwt
   rw [← hW4] at hi4
   have H4 := Lib.hid hi4
   have HW4 := Lib.hid hW4
   clear hi3 hi4 hW4
   go_wp2_with (with_reducible rw [← HW4.out])
   clear d0 d1 d2 d3 d4 d5 g0 g1 g2 g3 g4 g5
   refine (pclass_any p (k + 3) 0 U V hV wv tv rv ti ri t.cls _ H4.out.x HTA.out.w3 HTA.out.cl).mono ?_
   rintro x w5 ⟨rfl, hc5, hx5⟩
   have hi5 := H4.out.to hc5 hx5 htp
   obtain ⟨⟨d0, d1, d2, d3, d4, d5⟩, g0, g1, g2, g3, g4, g5⟩ := cells6_of' hi5.ht
   obtain ⟨W5, hW5⟩ : ∃ W5, W5 = w5.setCell ⟨tb, 2, none⟩ (.int .i64 t.cls) := ⟨_, rfl⟩
   have hi5' := hi5.set2 HX.out (.int .i64 t.cls) hwt
   rw [← hW5] at hi5'
   have H5 := Lib.hid hi5'
   have HW5 := Lib.hid hW5
   obtain ⟨q6, hq6⟩ := hV.at hi5'.x.le
   have ht6 : tst 3 ⟨#[61]⟩ q6 = true := by rw [sg_v hV hq6 61]; exact decide_eq_true HTA.out.w4
   have HQ6 := Lib.hid hq6
   have HS6 := Lib.hid ht6
   clear hi5 hi5' hc5 hx5 hW5 hq6 ht6
   go_wp2_with (with_reducible rw [← HW5.out])
   clear d0 d1 d2 d3 d4 d5 g0 g1 g2 g3 g4 g5
   refine (text_any 3 ⟨#[61]⟩ _).mono ?_
   rintro x wt6 ⟨b16, b26, rfl, hbx, hbt⟩
   have HT6 := Lib.hid (And.intro (H5.out.x.moved hbt) (And.intro hbx hbt))
   clear hbx hbt
   go_wp2_with fail
   refine (ptakeT p (k + 4) 0 U wv tv rv ti ri 3 ⟨#[61]⟩ b16 b26 q6 _ (by decide) HT6.out.1 HQ6.out HT6.out.2.1 ?_ ?_ HS6.out).mono ?_
   · intro e; have h1 := HT6.out.1.hh; rw [← e, HT6.out.2.1.h1] at h1; cases h1
   · intro e; have h1 := HT6.out.1.hh; rw [← e, HT6.out.2.1.h2] at h1; cases h1
   rintro x w6 ⟨rfl, hc6, hx6⟩
   replace hc6 := (Ch.of (p := p) HT6.out.2.2).trans hc6
   have hi6 := H5.out.to hc6 hx6 htp
   obtain ⟨⟨ek, eb, en⟩, hq7⟩ := hV.at hi6.x.le
   obtain ⟨e1, e2⟩ := v_name hV hq7 HTA.out.w5
   dsimp only at e1 e2
   obtain rfl : (4 : Int) = ek := e1.symm
   have HEB := Lib.hid e2
   have H6 := Lib.hid hi6
   have HQ7 := Lib.hid hq7
   have HS7 := Lib.hid (show tsk 4 ((4 : Int), eb, en) = true from rfl)
   clear hi6 hc6 hx6 hq7 e1 e2
   go_wp2_with fail
   refine (kind_any 4 _).mono ?_
   rintro x wt7 ⟨b17, rfl, hbx, hbt⟩
   have HT7 := Lib.hid (And.intro (H6.out.x.moved hbt) (And.intro hbx hbt))
   clear hbx hbt
   go_wp2_with fail
   refine (ptakeK p (k + 5) 0 U wv tv rv ti ri 4 b17 ((4 : Int), eb, en) _ (by decide) HT7.out.1 HQ7.out HT7.out.2.1 HS7.out).mono ?_
   rintro x w7 ⟨rfl, hc7, hx7⟩
   replace hc7 := (Ch.of (p := p) HT7.out.2.2).trans hc7
   have hbel := bel_new (Below.refl w7.heap.size w7) (.cells #[.int .i64 4, .string eb, .int .i64 en] 72)
   have hi7 := (H6.out.to hc7 hx7 htp).to (Ch.of hbel) ((H6.out.to hc7 hx7 htp).x.moved hbel) htp
   have hge := heap_alloc_new w7 (.cells #[.int .i64 4, .string eb, .int .i64 en] 72)
   obtain ⟨W7, hW7⟩ : ∃ W7, W7 = w7.alloc (.cells #[.int .i64 4, .string eb, .int .i64 en] 72) := ⟨_, rfl⟩
   rw [← hW7] at hi7 hge
   obtain ⟨⟨u0, u1, u2⟩, m0, m1, m2⟩ := cells3_of' hge
   have htW7 : tb < W7.heap.size := lt_of_some hi7.ht
   have H7 := Lib.hid hi7
   have HW7 := Lib.hid hW7
   clear hbel hi7 hge hc7 hx7 hW7
   go_wp2_with (with_reducible rw [← HW7.out])
   rw [HEB.out]
   refine (HRE.out _).mono ?_
   rintro x w8 ⟨sv8, lv8, rfl, hk8, hb8⟩
   obtain ⟨⟨o8, q8, rfl⟩, ⟨o9, q9, rfl⟩⟩ := hk8.here.form
   have hi8 := H7.out.to (Ch.of hb8) (H7.out.x.moved hb8) htp
   have hbr := bel_new (Below.refl w8.heap.size w8) (.cells #[.int .i64 t.re.kind, .slice o8 t.re.set.length q8, .slice o9 t.re.parts.length q9] 35)
   have hi9 := hi8.to (Ch.of hbr) (hi8.x.moved hbr) htp
   have hgr := heap_alloc_new w8 (.cells #[.int .i64 t.re.kind, .slice o8 t.re.set.length q8, .slice o9 t.re.parts.length q9] 35)
   obtain ⟨W8, hW8⟩ : ∃ W8, W8 = w8.alloc (.cells #[.int .i64 t.re.kind, .slice o8 t.re.set.length q8, .slice o9 t.re.parts.length q9] 35) := ⟨_, rfl⟩
   have hk9 := hk8.to (Ag.of hbr)
   rw [← hW8] at hi9 hgr hk9
   obtain ⟨rb, hrb⟩ : ∃ rb, rb = w8.heap.size := ⟨_, rfl⟩
   have hs8 : W7.heap.size ≤ w8.heap.size := hb8.size
   have htr : ¬ tb = rb := by omega
   have htr' : ¬ rb = tb := by omega
   rw [← hrb] at hgr
   obtain ⟨⟨a0, a1, a2⟩, b0, b1, b2⟩ := cells3_of' hgr
   obtain ⟨⟨d0, d1, d2, d3, d4, d5⟩, g0, g1, g2, g3, g4, g5⟩ := cells6_of' hi9.ht
   obtain ⟨W9, hW9⟩ : ∃ W9, W9 = ((W8.setCell ⟨tb, 3, none⟩ (.int .i64 t.re.kind)).setCell ⟨tb, 4, none⟩ (.slice o8 t.re.set.length q8)).setCell ⟨tb, 5, none⟩ (.slice o9 t.re.parts.length q9) := ⟨_, rfl⟩
   have hi9' := hi9.set345 HX.out (.int .i64 t.re.kind) (.slice o8 t.re.set.length q8) (.slice o9 t.re.parts.length q9) hwt
   rw [← hW9] at hi9'
   have hw7s : w.heap.size ≤ W7.heap.size := H7.out.c.size
   have hk9' : KP (fun j => w.heap.size ≤ j ∧ j ≠ tb) W9 (fun w' => ReIs w' t.re (.slice o8 t.re.set.length q8) (.slice o9 t.re.parts.length q9)) := by
    rw [hW9]
    exact (hk9.sub (fun j _ hj => (⟨by have h2 : W7.heap.size ≤ j := hj; omega, by have h2 : W7.heap.size ≤ j := hj; omega⟩ : w.heap.size ≤ j ∧ j ≠ tb))).to ((((Ag.refl _ _).setCell (fun h => h.2 rfl) _).setCell (fun h => h.2 rfl) _).setCell (fun h => h.2 rfl) _)
   have HW8 := Lib.hid hW8
   have HW9 := Lib.hid hW9
   have HRB := Lib.hid hrb
   have HI := Lib.hid (And.intro hi9' hk9')
   clear hi8 hi9 hi9' hbr hgr hk8 hk9 hk9' hb8 hW8 hW9 hrb u0 u1 u2 m0 m1 m2
   obtain ⟨otv, ctv, htv⟩ := HTV.out
   subst htv
   have hli := HLI.out.ch hp0 HI.out.1.c HI.out.1.x (by omega)
   obtain ⟨⟨c0, c1, c2, c3, c4', c5, c6⟩, f0, f1, f2, f3, f4, f5, f6⟩ := cells7_of HI.out.1.x.hh
   obtain ⟨⟨v0, v1, v2, v3, v4, v5⟩, l0, l1, l2, l3, l4, l5⟩ := cells6_of' HI.out.1.ht
   have HL9 := Lib.hid hli
   have hw09 : w0.heap.size ≤ W9.heap.size := hli.c.size
   have hpst := HLI.out.n1
   have hsm := hli.x.small
   have hpk := hli.x.le
   have hpz : p < W9.heap.size := lt_of_some HI.out.1.x.hh
   have hrz : tb < W9.heap.size := lt_of_some HI.out.1.ht
   have hpn : ¬ p = W9.heap.size := by omega
   have hrn : ¬ tb = W9.heap.size := by omega
   have hpn' : ¬ W9.heap.size = p := by omega
   have hrn' : ¬ W9.heap.size = tb := by omega
   clear hli
   go_wp2_with (first | (with_reducible rw [← HW8.out]; simp only [← HRB.out]) | (with_reducible rw [← HW9.out]))
   clear a0 a1 a2 b0 b1 b2 d0 d1 d2 d3 d4 d5 g0 g1 g2 g3 g4 g5
   go_region_law
    (refine step_append_far _ rfl _ _ 23 rfl w0.heap.size 54 ir _ 6 88 Tryz.underlying23 hr0' hr1 hr2 hr3 rfl (by decide) (.slice otv pst.length ctv) pst.length (pst.flatMap six) rfl (by repeat (first | exact HL9.out.tk.row | refine World.ownsRow.alloc ?_ _ | refine owns_drew ?_)) _ 1 _ rfl (by first | exact afrow_new rfl (by simp) | exact row_drew (afrow_new rfl (by simp))) rfl (by simp [Value.oneCell']) (by unfold maxLen; omega) (by omega) (by simp; omega) ?_; intro v8 w9 hown9 hg9 hf9 hb9; obtain ⟨o7, c7, rfl⟩ := owns_slice hown9
     have hp9 := (hb9.block p hp0).trans (bel_get (by repeat (first | exact Below.refl _ _ | refine Below.drew ?_ | refine bel_new ?_ _)) HI.out.1.x.hh)
     obtain ⟨⟨z0, z1, z2, z3, z4, z5, z6⟩, y0, y1, y2, y3, y4, y5, y6⟩ := cells7_of hp9)
   all_goals (
    have hq : KP (fun j => XB p rv ti ri j ∧ (Value.slice otv pst.length ctv).ownBlock ≠ some j) W9 (fun w' => ReIs w' t.re (.slice o8 t.re.set.length q8) (.slice o9 t.re.parts.length q9)) :=
     HI.out.2.sub (fun j _ hj => ⟨⟨by omega, fun e => by have := (HLI.out.ru.row.lt j e).2; omega, fun e => by have := (HLI.out.it.lt j e).2; omega, fun e => by have := (HLI.out.ir.lt j e).2; omega⟩, fun e => by have := (HLI.out.tk.row.lt j e).2; omega⟩)
    have hpu := LI.pushT HX0.out HL9.out (q := (t, .slice o8 t.re.set.length q8, .slice o9 t.re.parts.length q9)) (by repeat (first | exact Below.refl _ _ | refine Below.drew ?_ | refine bel_new ?_ _)) (by simpa only [six, HK.out.2] using hown9) hg9 hf9 hb9 hq (by omega)
    clear z0 z1 z2 z3 z4 z5 z6 y0 y1 y2 y3 y4 y5 y6
    go_end0
    exact ⟨rfl, _, _, _, hpu⟩)
end Go.Proofs.YtfkmajjgkdjncaaGreatDoor
