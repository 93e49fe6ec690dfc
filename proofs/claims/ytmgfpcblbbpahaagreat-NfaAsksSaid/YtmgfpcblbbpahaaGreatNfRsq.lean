/- goboref6.node: a row. -/
import Derived.Test.YtmgfpcblbbpahaaGreatNfRset
import Derived.Deep.Cut
import Derived.Deep.CutRange
import Derived.RegionTactic
set_option linter.unusedVariables false
set_option linter.unusedSimpArgs false
namespace Go.Proofs.YtmgfpcblbbpahaaGreat
open Go.RowKit Ru Rn Rn.Ru

set_option maxRecDepth 100000 in
set_option maxHeartbeats 8000000 in
theorem node_seq (w0 : World) (pb : Nat) (v2 v5 : Value) (N : Nat) (ih : NIh w0 pb v2 v5 N) (s : List Pc) (a b : RE) (sv lv : Value) (hsa : a.size ≤ N) (hsb : b.size ≤ N) (hpa : a.prt = true) (hpb : b.prt = true) (hre : ReIs w0 (.mk 3 s [a, b]) sv lv)
    (w : World) (T : Nat → Prop) (vS vO vL vF : Value) (ss fs : List Value) (S : List (List Pc)) (O : List Int) (L : List Bool) (F : List (List Int)) (q : Int)
    (h : RN w0 w pb T vS vO v2 vL vF v5 ss fs S O L F) (hF : ∀ r ∈ F, DnOk F.length r) (h0 : 0 < F.length) (hS : S.length + (a.size + b.size + 1) ≤ 1000) :
    Calls Tryz.prog 45 #[.pointer (some ⟨pb, 0, none⟩), .agg #[.int .i64 3, sv, lv], .int .i64 q] w fun x w' => ∃ fv lv', x = .returned (.agg #[.bool (Nf.nd (.mk 3 s [a, b]) F).1.1, fv, lv']) ∧ NPost w0 pb v2 v5 (.mk 3 s [a, b]) S O L F q T w fv lv' w' := by
  have hform : ∃ o c, sv = .slice o s.length c := hre.form.1
  obtain ⟨o1, q1, rfl⟩ := hform
  have hpart : ∃ bb off cap s' l', lv = .slice (some ⟨bb, off, none⟩) 2 cap ∧ bb < w0.heap.size ∧ w0.cell? ⟨bb, off + 0 * 3, none⟩ = some (.int .i64 a.kind) ∧ w0.cell? ⟨bb, off + 0 * 3 + 1, none⟩ = some s' ∧ w0.cell? ⟨bb, off + 0 * 3 + 2, none⟩ = some l' ∧ ReIs w0 a s' l' := hre.part (i := 0) (p := a) rfl
  have hpart2 : ∃ bb off cap s' l', lv = .slice (some ⟨bb, off, none⟩) 2 cap ∧ bb < w0.heap.size ∧ w0.cell? ⟨bb, off + 1 * 3, none⟩ = some (.int .i64 b.kind) ∧ w0.cell? ⟨bb, off + 1 * 3 + 1, none⟩ = some s' ∧ w0.cell? ⟨bb, off + 1 * 3 + 2, none⟩ = some l' ∧ ReIs w0 b s' l' := hre.part (i := 1) (p := b) rfl
  obtain ⟨bb, off, cap, s', l', rfl, hbb, k0, k1, k2, hra⟩ := hpart
  obtain ⟨bb2, off2, cap2, s2', l2', e2, hbb2, k3, k4, k5, hrb⟩ := hpart2
  simp only [Value.slice.injEq, Option.some.injEq, Addr.mk.injEq] at e2
  obtain ⟨⟨rfl, rfl, _⟩, _, rfl⟩ := e2
  obtain ⟨⟨o3, q3, rfl⟩, ⟨o4, q4, rfl⟩⟩ := hra.form
  obtain ⟨⟨o5, q5, rfl⟩, ⟨o6, q6, rfl⟩⟩ := hrb.form
  have es : Nf.sts (.mk 3 s [a, b]) = Nf.sts a ++ Nf.sts b := by simp [Nf.sts_mk, Nf.stsL_cons, Nf.stsL_nil]
  obtain ⟨x, hx⟩ : ∃ x, Nf.nd a F = x := ⟨_, rfl⟩
  obtain ⟨y, hy⟩ : ∃ y, Nf.nd b x.2 = y := ⟨_, rfl⟩
  have hnd := Nf.nd_seq s a b F x y hx hy
  rw [show (Nf.nd (.mk 3 s [a, b]) F).1.1 = (x.1.1 && y.1.1) by rw [hnd]]
  have hsx := Nf.nd_self a hpa F hF
  rw [hx] at hsx
  obtain ⟨x1, x2, x3, x4⟩ := hsx
  have hsy := Nf.nd_self b hpb x.2 x4
  rw [hy] at hsy
  obtain ⟨y1, y2, y3, y4⟩ := hsy
  have hca := Nf.sts_size a.size a (Nat.le_refl _) hpa
  have hcb := Nf.sts_size b.size b (Nat.le_refl _) hpb
  obtain ⟨W, hW⟩ : ∃ W, W = (w.alloc (.cells #[.int .i64 3, .slice o1 s.length q1, .slice (some ⟨bb, off, none⟩) 2 cap] 41)).alloc (.cells #[.bool false, .slice none 0 0, .slice none 0 0] 80) := ⟨_, rfl⟩
  have hbW : Below w.heap.size w W := by rw [hW]; exact bel_new (bel_new (Below.refl _ _) _) _
  have hsW : W.heap.size = w.heap.size + 2 := by rw [hW]; simp
  have hia := ih a _ _ hsa hpa hra W T vS vO vL vF ss fs S O L F q (h.moved hbW) hF h0 (by omega)
  rw [hx] at hia
  have hib := fun (w1 : World) (T1 : Nat → Prop) (a1 a2 a3 a4 : Value) (ss1 fs1 : List Value) (hr : RN w0 w1 pb T1 a1 a2 v2 a3 a4 v5 ss1 fs1 (S ++ Nf.sts a) (O ++ List.replicate (Nf.sts a).length q) (L ++ List.replicate (Nf.sts a).length false) x.2) =>
    ih b _ _ hsb hpb hrb w1 T1 a1 a2 a3 a4 ss1 fs1 _ _ _ x.2 q hr x4 (by omega) (by rw [List.length_append]; omega)
  rw [hy] at hib
  have hbw := Nat.lt_of_lt_of_le hbb h.bel.size
  have hsl : ([a, b] : List RE).length = 2 := rfl
  have c0 := (h.bel.cell (p := ⟨bb, off, none⟩) hbb).trans (by simpa using k0)
  have c1 := (h.bel.cell (p := ⟨bb, off + 1, none⟩) hbb).trans (by simpa using k1)
  have c2 := (h.bel.cell (p := ⟨bb, off + 2, none⟩) hbb).trans (by simpa using k2)
  have d3 : ∀ X : World, Below w0.heap.size w0 X → X.cell? ⟨bb, off + 3, none⟩ = some (.int .i64 b.kind) := fun X hX => (hX.cell (p := ⟨bb, off + 3, none⟩) hbb).trans (by simpa using k3)
  have d4 : ∀ X : World, Below w0.heap.size w0 X → X.cell? ⟨bb, off + 4, none⟩ = some (.slice o5 b.set.length q5) := fun X hX => (hX.cell (p := ⟨bb, off + 4, none⟩) hbb).trans (by simpa using k4)
  have d5 : ∀ X : World, Below w0.heap.size w0 X → X.cell? ⟨bb, off + 5, none⟩ = some (.slice o6 b.parts.length q6) := fun X hX => (hX.cell (p := ⟨bb, off + 5, none⟩) hbb).trans (by simpa using k5)
  have g6 : W.heap[w.heap.size + 1]? = some (.cells #[.bool false, .slice none 0 0, .slice none 0 0] 80 (0, 0)) := by
    rw [hW]
    have := World.alloc_heap_new (w.alloc (.cells #[.int .i64 3, .slice o1 s.length q1, .slice (some ⟨bb, off, none⟩) 2 cap] 41)) (.cells #[.bool false, .slice none 0 0, .slice none 0 0] 80)
    rwa [World.size_alloc] at this
  have g4 : W.heap[w.heap.size]? = some (.cells #[.int .i64 3, .slice o1 s.length q1, .slice (some ⟨bb, off, none⟩) 2 cap] 41 (0, 0)) := by
    rw [hW]; exact bel_get (bel_new (Below.refl _ _) _) (World.alloc_heap_new w _)
  have hn6 : ¬ T (w.heap.size + 1) := fun hT => by have := (h.tlt _ hT).2; omega
  have hn4 : ¬ T w.heap.size := fun hT => by have := (h.tlt _ hT).2; omega
  have HB := Lib.hid h.bel.size
  rw [hW] at hia
  have HW := Lib.hid hW
  have HBW := Lib.hid hbW
  have HA := Lib.hid hia
  have HIB := Lib.hid hib
  have HND := Lib.hid hnd
  have HES := Lib.hid es
  have HX := Lib.hid hx
  have HY := Lib.hid hy
  have HG := Lib.hid (And.intro g6 (And.intro g4 (And.intro hn6 hn4)))
  have HD := Lib.hid (And.intro d3 (And.intro d4 d5))
  clear h hW hbW hia hib hx hy hre hra hrb k0 k1 k2 k3 k4 k5 hF es hnd g6 g4 hn6 hn4 d3 d4 d5
  go_enter Tryz.func45, Tryz.ntmps45
  go_wp2_with fail
  refine HA.out.mono ?_
  rintro e w1 ⟨fv1, lv1, rfl, hpost⟩
  obtain ⟨T1, vS1, vO1, vL1, vF1, ss1, fs1, hrn1, htr1, hfa, hla⟩ := hpost.st
  rw [← HW.out] at htr1
  rw [HX.out] at hrn1 hfa hla
  obtain ⟨of1, cf1, rfl⟩ := hfa.form
  obtain ⟨ol1, cl1, rfl⟩ := hla.form
  obtain ⟨f0, f1, f2⟩ := part_cells (htr1.get HG.out.2.2.2 HG.out.2.1)
  have f3 := HD.out.1 w1 hrn1.bel
  have f4 := HD.out.2.1 w1 hrn1.bel
  have f5 := HD.out.2.2 w1 hrn1.bel
  have f6 : bb < w1.heap.size := Nat.lt_of_lt_of_le hbb hrn1.bel.size
  have hs1 : W.heap.size ≤ w1.heap.size := htr1.ag.size
  have f7 : w.heap.size < w1.heap.size := by omega
  have H1 := Lib.hid (And.intro hrn1 (And.intro htr1 (And.intro hfa hla)))
  clear hrn1 htr1 hfa hla hpost
  go_wp2_with fail
  obtain ⟨hrn1, htr1, hfa, hla⟩ := H1.out
  obtain ⟨W2, hW2⟩ : ∃ W2, W2 = w1.alloc (.cells #[.bool x.1.1, .slice of1 x.1.2.1.length cf1, .slice ol1 x.1.2.2.length cl1] 80) := ⟨_, rfl⟩
  have hb2 : Below w1.heap.size w1 W2 := by rw [hW2]; exact bel_new (Below.refl _ _) _
  have hrn2 := hrn1.moved hb2
  have htr2 : RTr T W T1 W2 := htr1.trans (RTr.old hb2)
  have hs2 : W2.heap.size = w1.heap.size + 1 := by rw [hW2]; simp
  have h8 : W2.heap[w1.heap.size]? = some (.cells #[.bool x.1.1, .slice of1 x.1.2.1.length cf1, .slice ol1 x.1.2.2.length cl1] 80 (0, 0)) := by rw [hW2]; exact World.alloc_heap_new w1 _
  have hn8 : ¬ T1 w1.heap.size := fun hT => by have := (hrn1.tlt _ hT).2; omega
  have H2 := Lib.hid (And.intro hrn2 (And.intro htr2 (And.intro (hfa.moved hb2) (And.intro (hla.moved hb2) (And.intro h8 hn8)))))
  have HIB2 := Lib.hid (HIB.out W2 T1 vS1 vO1 vL1 vF1 ss1 fs1 hrn2)
  rw [← hW2]
  clear hrn1 htr1 hfa hla hrn2 htr2 h8 hn8 hW2 hb2 f0 f1 f2 f3 f4 f5 f6 f7 H1
  refine HIB2.out.mono ?_
  rintro e w3 ⟨fv2, lv2, rfl, hpost⟩
  obtain ⟨T2, vS2, vO2, vL2, vF2, ss2, fs2, hrn3, htr3, hfb, hlb⟩ := hpost.st
  rw [HY.out] at hrn3 hfb hlb
  obtain ⟨of2, cf2, rfl⟩ := hfb.form
  obtain ⟨ol2, cl2, rfl⟩ := hlb.form
  have HAF := Lib.hid (And.intro hrn3 (And.intro htr3 (And.intro hfb hlb)))
  obtain ⟨u0, u1', u2'⟩ := part_cells (htr3.get H2.out.2.2.2.2.2 H2.out.2.2.2.2.1)
  have hs3 : W2.heap.size ≤ w3.heap.size := htr3.ag.size
  have u3 : w1.heap.size < w3.heap.size := by omega
  clear hrn3 htr3 hfb hlb hpost HIB2
  go_wp2_with fail
  obtain ⟨hrn3, htr3, hfb, hlb⟩ := HAF.out
  obtain ⟨W4, hW4⟩ : ∃ W4, W4 = w3.alloc (.cells #[.bool y.1.1, .slice of2 y.1.2.1.length cf2, .slice ol2 y.1.2.2.length cl2] 80) := ⟨_, rfl⟩
  have hb4 : Below w3.heap.size w3 W4 := by rw [hW4]; exact bel_new (Below.refl _ _) _
  have hrn4 := hrn3.moved hb4
  have htr4 : RTr T1 W2 T2 W4 := htr3.trans (RTr.old hb4)
  have htr : RTr T W T2 W4 := H2.out.2.1.trans htr4
  have hfa4 := H2.out.2.2.1.tr htr4
  have hla4 := H2.out.2.2.2.1.tr htr4
  have hfb4 := hfb.moved hb4
  have hlb4 := hlb.moved hb4
  have h84 := htr4.get H2.out.2.2.2.2.2 H2.out.2.2.2.2.1
  have hn84 := htr4.no H2.out.2.2.2.2.2 (by omega)
  have h94 : W4.heap[w3.heap.size]? = some (.cells #[.bool y.1.1, .slice of2 y.1.2.1.length cf2, .slice ol2 y.1.2.2.length cl2] 80 (0, 0)) := by rw [hW4]; exact World.alloc_heap_new w3 _
  have hn94 : ¬ T2 w3.heap.size := fun hT => by have := (hrn3.tlt _ hT).2; omega
  have h64 := htr.get HG.out.2.2.1 HG.out.1
  have hn64 := htr.no HG.out.2.2.1 (by omega)
  have hs4 : W4.heap.size = w3.heap.size + 1 := by rw [hW4]; simp
  rw [← hW4]
  clear hW4 hrn3 htr3 hfb hlb hb4 htr4 HIB HA c0 c1 c2 u0 u1' u2' u3 HAF
  obtain ⟨p8, hp8⟩ : ∃ p8, p8 = w1.heap.size := ⟨_, rfl⟩
  obtain ⟨p9, hp9⟩ : ∃ p9, p9 = w3.heap.size := ⟨_, rfl⟩
  obtain ⟨p6, hp6⟩ : ∃ p6, p6 = w.heap.size + 1 := ⟨_, rfl⟩
  have hsz := HB.out
  rw [← hp8] at h84 hn84 hs1 hs2 ⊢
  rw [← hp9] at h94 hn94 hs3 hs4 ⊢
  rw [← hp6] at h64 hn64 ⊢
  have hp6a : w.heap.size ≤ p6 := by omega
  have hp6b : w0.heap.size ≤ p6 := by omega
  have hp68 : p6 < p8 := by omega
  have hp89 : p8 < p9 := by omega
  have hp94 : p9 < W4.heap.size := by omega
  have HP := Lib.hid (And.intro hp8 (And.intro hp9 hp6))
  clear hp8 hp9 hp6 hsW hs1 hs2 hs3 hs4
  obtain ⟨xe, hxe⟩ : ∃ xe, xe = x.1.1 := ⟨_, rfl⟩
  obtain ⟨ye, hye⟩ : ∃ ye, ye = y.1.1 := ⟨_, rfl⟩
  rw [← hxe] at h84 ⊢
  rw [← hye] at h94 ⊢
  have hX2 : DnOk y.2.length x.1.2.1 := x2.mono (by omega)
  have hX3 : DnOk y.2.length x.1.2.2 := x3.mono (by omega)
  have hyl : y.2.length ≤ 1000 := by have := hrn4.lenF; rw [List.length_append, List.length_append] at this; omega
  have hlk := node_link hrn4 y4 (by omega) (by rw [List.length_append, List.length_append]; omega) hla4 hfb4 hX3 y2
  have H4 := Lib.hid (And.intro hrn4 (And.intro htr (And.intro hn64 (And.intro hxe (And.intro hye (And.intro hfa4 (And.intro hla4 (And.intro hfb4 (And.intro hlb4 (And.intro h84 (And.intro hn84 (And.intro h94 (And.intro hn94 h64)))))))))))))
  clear hrn4 htr hn64 hxe hye hfa4 hla4 hfb4 hlb4 h84 hn84 h94 hn94 h64 H2
  refine hlk.mono ?_
  rintro e w5 ⟨⟨xx, rfl⟩, fs5, hrn5, htr5⟩
  clear hlk
  have hs5 : W4.heap.size ≤ w5.heap.size := htr5.ag.size
  obtain ⟨hrn4, htr, hn64, hxe, hye, hfa4, hla4, hfb4, hlb4, h84, hn84, h94, hn94, h64⟩ := H4.out
  have h85 := htr5.get hn84 h84
  have h95 := htr5.get hn94 h94
  have h65 := htr5.get hn64 h64
  have hfa := hfa4.tr htr5
  have hla := hla4.tr htr5
  have hfb := hfb4.tr htr5
  have hlb := hlb4.tr htr5
  have htr6 := (RTr.old HBW.out).trans (htr.trans htr5)
  have hb0 := hrn5.bel.size
  have hT5 : ∀ j, T2 j → j < w5.heap.size := fun j hj => (hrn5.tlt j hj).2
  have l1 := hX2.len
  have l2 := hX3.len
  have l3 := y2.len
  have l4 := y3.len
  have H5 := Lib.hid (And.intro hrn5 (And.intro htr6 (And.intro hfa (And.intro hla (And.intro hfb (And.intro hlb (And.intro h85 (And.intro h95 h65))))))))
  obtain ⟨e0, e1, e2⟩ := part_cells h85
  obtain ⟨e3, e4, e5⟩ := part_cells h95
  have HXE := Lib.hid (And.intro hxe hye)
  clear hxe hye hrn4 htr hn84 hfa4 hla4 hfb4 hlb4 h84 h94 hn94 h64 hrn5 htr5 htr6 hfa hla hfb hlb h85 h95 h65 H4
  obtain ⟨p10, hp10⟩ : ∃ p10, p10 = w5.heap.size := ⟨_, rfl⟩
  go_upto_region 12 with (fail)
  go_cut [10] from 102 (fun s10 wx => s10 = .pointer (some ⟨p10, 0, none⟩) ∧ wx = w5.alloc (.cells #[.bool (xe && ye), .slice of1 x.1.2.1.length cf1, .slice ol2 y.1.2.2.length cl2] 80))
  case first =>
    have HP10 := Lib.hid hp10
    clear hp10
    cases xe with
    | false => go_wp2_with fail; go_meet; exact ⟨by rw [HP10.out], rfl⟩
    | true =>
      cases ye with
      | false => go_wp2_with fail; go_meet; exact ⟨by rw [HP10.out], rfl⟩
      | true => go_wp2_with fail; go_meet; exact ⟨by rw [HP10.out], rfl⟩
  case rest =>
    obtain ⟨rfl, hwc⟩ := hcut
    have hb6 : Below w5.heap.size w5 wc := by rw [hwc]; exact bel_new (Below.refl _ _) _
    have h10 : wc.heap[p10]? = some (.cells #[.bool (xe && ye), .slice of1 x.1.2.1.length cf1, .slice ol2 y.1.2.2.length cl2] 80 (0, 0)) := by rw [hwc, hp10]; exact World.alloc_heap_new w5 _
    have hs6 : wc.heap.size = w5.heap.size + 1 := by rw [hwc]; simp
    have hp10a : w5.heap.size ≤ p10 := by omega
    have hp10b : p9 < p10 := by omega
    clear hp10 hwc e0 e1 e2 e3 e4 e5
    obtain ⟨e0, e1, e2⟩ := part_cells (bel_get hb6 H5.out.2.2.2.2.2.2.1)
    obtain ⟨e3, e4, e5⟩ := part_cells (bel_get hb6 H5.out.2.2.2.2.2.2.2.1)
    obtain ⟨d0, d1, d2⟩ := part_cells h10
    obtain ⟨z0, z1, z2⟩ := part_froz h10
    have hadd1 := radd_any x.1.2.1 y.1.2.1 _ _ wc ((H5.out.2.2.1.moved hb6).row) ((H5.out.2.2.2.2.1.moved hb6).row) (by omega) (by omega)
    have H6 := Lib.hid (And.intro hb6 (And.intro h10 hadd1))
    clear hb6 h10 hadd1
    obtain ⟨X1, hX1⟩ : ∃ X1, X1 = if xe = true then addF x.1.2.1 y.1.2.1 else x.1.2.1 := ⟨_, rfl⟩
    have hX1l : X1.length ≤ 2000 := by rw [hX1]; split; (have := addF_len x.1.2.1 y.1.2.1; omega); omega
    go_upto_if 103 with (fail)
    go_cut [] from 104 (fun wx => ∃ u1, Below w5.heap.size w5 wx ∧ wx.heap[p10]? = some (.cells #[.bool (xe && ye), u1, .slice ol2 y.1.2.2.length cl2] 80 (0, 0)) ∧ PRd wx w0.heap.size T2 u1 X1)
    case first =>
      cases xe with
      | false =>
        go_wp2_with fail
        go_meet
        exact ⟨_, H6.out.1, H6.out.2.1, by rw [hX1]; exact H5.out.2.2.1.moved H6.out.1⟩
      | true =>
        go_wp2_with fail
        refine H6.out.2.2.mono ?_
        rintro e w7 ⟨u1, rfl, hu1, hb7⟩
        obtain ⟨oo, cc, rfl⟩ := nf_slice hu1
        have h107 := bel_get hb7 H6.out.2.1
        obtain ⟨y0, y1', y2'⟩ := part_cells h107
        obtain ⟨z0', z1', z2'⟩ := part_froz h107
        have H7 := Lib.hid (And.intro hu1 (And.intro hb7 h107))
        clear hu1 hb7 h107
        go_wp2_with fail
        go_meet
        obtain ⟨hu1, hb7, h107⟩ := H7.out
        refine ⟨_, (bel_then H6.out.1 hb7).setCell (p := ⟨p10, 1, none⟩) (by show w5.heap.size ≤ p10; omega) _, pset1 h107 _, ?_⟩
        have hpr : PRd w7 w0.heap.size T2 (.slice oo (addF x.1.2.1 y.1.2.1).length cc) (addF x.1.2.1 y.1.2.1) := PRd.add hu1 (fun j hj => by have := hT5 j hj; omega) (by omega)
        rw [hX1]
        exact hpr.set (p := ⟨p10, 1, none⟩) h107 (by decide) _
    case rest =>
      obtain ⟨u1, hb8, h108, hu1⟩ := hcut
      obtain ⟨oo1, cc1, rfl⟩ := hu1.form
      rename World => w8
      clear e0 e1 e2 e3 e4 e5 d0 d1 d2 z0 z1 z2 H6
      obtain ⟨e0, e1, e2⟩ := part_cells (bel_get hb8 H5.out.2.2.2.2.2.2.1)
      obtain ⟨e3, e4, e5⟩ := part_cells (bel_get hb8 H5.out.2.2.2.2.2.2.2.1)
      obtain ⟨d0, d1, d2⟩ := part_cells h108
      obtain ⟨z0, z1, z2⟩ := part_froz h108
      have hs8 : w5.heap.size ≤ w8.heap.size := hb8.size
      have hadd2 := radd_any y.1.2.2 x.1.2.2 _ _ w8 ((H5.out.2.2.2.2.2.1.moved hb8).row) ((H5.out.2.2.2.1.moved hb8).row) (by omega) (by omega)
      have H8 := Lib.hid (And.intro hb8 (And.intro h108 (And.intro hu1 hadd2)))
      have HX1 := Lib.hid hX1
      clear hb8 h108 hu1 hadd2 hX1
      obtain ⟨X2, hX2⟩ : ∃ X2, X2 = if ye = true then addF y.1.2.2 x.1.2.2 else y.1.2.2 := ⟨_, rfl⟩
      have HX2 := Lib.hid hX2
      have hX2l : X2.length ≤ 2000 := by rw [hX2]; split; (have := addF_len y.1.2.2 x.1.2.2; omega); omega
      clear hX2
      go_upto_if 111 with (fail)
      go_cut [] from 112 (fun wx => ∃ u2, Below w5.heap.size w5 wx ∧ wx.heap[p10]? = some (.cells #[.bool (xe && ye), .slice oo1 X1.length cc1, u2] 80 (0, 0)) ∧ PRd wx w0.heap.size T2 (.slice oo1 X1.length cc1) X1 ∧ PRd wx w0.heap.size T2 u2 X2)
      case first =>
        cases ye with
        | false =>
          go_wp2_with fail
          go_meet
          exact ⟨_, H8.out.1, H8.out.2.1, H8.out.2.2.1, by rw [HX2.out]; exact H5.out.2.2.2.2.2.1.moved H8.out.1⟩
        | true =>
          go_wp2_with fail
          refine H8.out.2.2.2.mono ?_
          rintro e w9 ⟨u2, rfl, hu2, hb9⟩
          obtain ⟨oo, cc, rfl⟩ := nf_slice hu2
          have h109 := bel_get hb9 H8.out.2.1
          obtain ⟨y0, y1', y2'⟩ := part_cells h109
          obtain ⟨z0', z1', z2'⟩ := part_froz h109
          have H9 := Lib.hid (And.intro hu2 (And.intro hb9 h109))
          clear hu2 hb9 h109
          go_wp2_with fail
          go_meet
          obtain ⟨hu2, hb9, h109⟩ := H9.out
          have hpr : PRd w9 w0.heap.size T2 (.slice oo (addF y.1.2.2 x.1.2.2).length cc) (addF y.1.2.2 x.1.2.2) := PRd.add hu2 (fun j hj => by have := hT5 j hj; omega) (by omega)
          refine ⟨_, (bel_then H8.out.1 hb9).setCell (p := ⟨p10, 2, none⟩) (by show w5.heap.size ≤ p10; omega) _, pset2 h109 _, (H8.out.2.2.1.moved hb9).set (p := ⟨p10, 2, none⟩) h109 (by decide) _, ?_⟩
          rw [HX2.out]
          exact hpr.set (p := ⟨p10, 2, none⟩) h109 (by decide) _
      case rest =>
        obtain ⟨u2, hb10, h110, hu1, hu2⟩ := hcut
        obtain ⟨oo2, cc2, rfl⟩ := hu2.form
        rename World => w10
        clear e0 e1 e2 e3 e4 e5 d0 d1 d2 z0 z1 z2 H8
        obtain ⟨d0, d1, d2⟩ := part_cells h110
        have g6 := bel_get hb10 H5.out.2.2.2.2.2.2.2.2
        obtain ⟨e0, e1, e2⟩ := part_cells g6
        obtain ⟨z0, z1, z2⟩ := part_froz g6
        have HF := Lib.hid (And.intro hb10 (And.intro hu1 (And.intro hu2 g6)))
        clear hb10 h110 hu1 hu2 g6
        go_wp2_with fail
        have hfin := set3_at HF.out.2.2.2 (.bool (xe && ye)) (.slice oo1 X1.length cc1) (.slice oo2 X2.length cc2)
        obtain ⟨f0, f1, f2⟩ := part_cells hfin
        simp [bodyPost, results, Tryz.results45, go_sem, f0, f1, f2]
        obtain ⟨hb10, hu1, hu2, g6⟩ := HF.out
        obtain ⟨hrn5, htr6, _⟩ := H5.out
        have g7 := pset0 g6 (.bool (xe && ye))
        have g8 := pset1 g7 (.slice oo1 X1.length cc1)
        have hq := HXE.out
        refine ⟨_, _, ⟨by rw [hq.1, hq.2], rfl, rfl⟩, T2, vS2, vO2, vL2, vF2, ss2, fs5, ?_, ?_, ?_, ?_⟩
        · rw [HES.out, HND.out, List.length_append, ← List.append_assoc, ← List.replicate_append_replicate, ← List.replicate_append_replicate, ← List.append_assoc, ← List.append_assoc]
          exact (((hrn5.moved hb10).set (p := ⟨p6, 0, none⟩) g6 (by decide) (by decide) (by decide) (by decide) (by decide) hp6b _).set (p := ⟨p6, 1, none⟩) g7 (by decide) (by decide) (by decide) (by decide) (by decide) hp6b _).set (p := ⟨p6, 2, none⟩) g8 (by decide) (by decide) (by decide) (by decide) (by decide) hp6b _
        · exact (((htr6.trans (RTr.old hb10)).set hp6a _).set hp6a _).set hp6a _
        · rw [HND.out]
          have := ((hu1.set (p := ⟨p6, 0, none⟩) g6 (by decide) (.bool (xe && ye))).set (p := ⟨p6, 1, none⟩) g7 (by decide) (.slice oo1 X1.length cc1)).set (p := ⟨p6, 2, none⟩) g8 (by decide) (.slice oo2 X2.length cc2)
          rw [HX1.out] at this ⊢
          rw [hq.1] at this ⊢
          exact this
        · rw [HND.out]
          have := ((hu2.set (p := ⟨p6, 0, none⟩) g6 (by decide) (.bool (xe && ye))).set (p := ⟨p6, 1, none⟩) g7 (by decide) (.slice oo1 X1.length cc1)).set (p := ⟨p6, 2, none⟩) g8 (by decide) (.slice oo2 X2.length cc2)
          rw [HX2.out] at this ⊢
          rw [hq.2] at this ⊢
          exact this
end Go.Proofs.YtmgfpcblbbpahaaGreat
