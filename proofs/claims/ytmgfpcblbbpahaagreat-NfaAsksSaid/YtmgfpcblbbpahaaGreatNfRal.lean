/- goboref6.node: an alternative. -/
import Derived.Test.YtmgfpcblbbpahaaGreatNfRset
import Derived.Deep.Cut
import Derived.Deep.CutRange
import Derived.RegionTactic
set_option linter.unusedVariables false
set_option linter.unusedSimpArgs false
namespace Go.Proofs.YtmgfpcblbbpahaaGreat
open Go.RowKit Ru Rn Rn.Ru

set_option maxRecDepth 100000 in
set_option maxHeartbeats 8000000 in
theorem node_alt (w0 : World) (pb : Nat) (v2 v5 : Value) (N : Nat) (ih : NIh w0 pb v2 v5 N) (s : List Pc) (a b : RE) (sv lv : Value) (hsa : a.size ≤ N) (hsb : b.size ≤ N) (hpa : a.prt = true) (hpb : b.prt = true) (hre : ReIs w0 (.mk 4 s [a, b]) sv lv)
    (w : World) (T : Nat → Prop) (vS vO vL vF : Value) (ss fs : List Value) (S : List (List Pc)) (O : List Int) (L : List Bool) (F : List (List Int)) (q : Int)
    (h : RN w0 w pb T vS vO v2 vL vF v5 ss fs S O L F) (hF : ∀ r ∈ F, DnOk F.length r) (h0 : 0 < F.length) (hS : S.length + (a.size + b.size + 1) ≤ 1000) :
    Calls Tryz.prog 45 #[.pointer (some ⟨pb, 0, none⟩), .agg #[.int .i64 4, sv, lv], .int .i64 q] w fun x w' => ∃ fv lv', x = .returned (.agg #[.bool (Nf.nd (.mk 4 s [a, b]) F).1.1, fv, lv']) ∧ NPost w0 pb v2 v5 (.mk 4 s [a, b]) S O L F q T w fv lv' w' := by
  have hform : ∃ o c, sv = .slice o s.length c := hre.form.1
  obtain ⟨o1, q1, rfl⟩ := hform
  have hpart : ∃ bb off cap s' l', lv = .slice (some ⟨bb, off, none⟩) 2 cap ∧ bb < w0.heap.size ∧ w0.cell? ⟨bb, off + 0 * 3, none⟩ = some (.int .i64 a.kind) ∧ w0.cell? ⟨bb, off + 0 * 3 + 1, none⟩ = some s' ∧ w0.cell? ⟨bb, off + 0 * 3 + 2, none⟩ = some l' ∧ ReIs w0 a s' l' := hre.part (i := 0) (p := a) rfl
  have hpart2 : ∃ bb off cap s' l', lv = .slice (some ⟨bb, off, none⟩) 2 cap ∧ bb < w0.heap.size ∧ w0.cell? ⟨bb, off + 1 * 3, none⟩ = some (.int .i64 b.kind) ∧ w0.cell? ⟨bb, off + 1 * 3 + 1, none⟩ = some s' ∧ w0.cell? ⟨bb, off + 1 * 3 + 2, none⟩ = some l' ∧ ReIs w0 b s' l' := hre.part (i := 1) (p := b) rfl
  obtain ⟨bb, off, cap, s', l', rfl, hbb, k0, k1, k2, hra⟩ := hpart
  obtain ⟨bb2, off2, cap2, s2', l2', e2, hbb2, k3, k4, k5, hrb⟩ := hpart2
  simp only [Value.slice.injEq, Option.some.injEq, Addr.mk.injEq] at e2
  obtain ⟨⟨rfl, rfl, _⟩, _, rfl⟩ := e2
  obtain ⟨⟨o3, q3, rfl⟩, ⟨o4, q4, rfl⟩⟩ := hra.form
  obtain ⟨⟨o5, q5, rfl⟩, ⟨o6, q6, rfl⟩⟩ := hrb.form
  have es : Nf.sts (.mk 4 s [a, b]) = Nf.sts a ++ Nf.sts b := by simp [Nf.sts_mk, Nf.stsL_cons, Nf.stsL_nil]
  obtain ⟨x, hx⟩ : ∃ x, Nf.nd a F = x := ⟨_, rfl⟩
  obtain ⟨y, hy⟩ : ∃ y, Nf.nd b x.2 = y := ⟨_, rfl⟩
  have hnd := Nf.nd_alt s a b F x y hx hy
  rw [show (Nf.nd (.mk 4 s [a, b]) F).1.1 = (x.1.1 || y.1.1) by rw [hnd]]
  have hsx := Nf.nd_self a hpa F hF
  rw [hx] at hsx
  obtain ⟨x1, x2, x3, x4⟩ := hsx
  have hsy := Nf.nd_self b hpb x.2 x4
  rw [hy] at hsy
  obtain ⟨y1, y2, y3, y4⟩ := hsy
  have hca := Nf.sts_size a.size a (Nat.le_refl _) hpa
  have hcb := Nf.sts_size b.size b (Nat.le_refl _) hpb
  obtain ⟨W, hW⟩ : ∃ W, W = (w.alloc (.cells #[.int .i64 4, .slice o1 s.length q1, .slice (some ⟨bb, off, none⟩) 2 cap] 41)).alloc (.cells #[.bool false, .slice none 0 0, .slice none 0 0] 80) := ⟨_, rfl⟩
  have hbW : Below w.heap.size w W := by rw [hW]; exact bel_new (bel_new (Below.refl _ _) _) _
  have hsW : W.heap.size = w.heap.size + 2 := by rw [hW]; simp
  have hia := ih a _ _ hsa hpa hra W T vS vO vL vF ss fs S O L F q (h.moved hbW) hF h0 (by omega)
  rw [hx] at hia
  have hib := fun (w1 : World) (T1 : Nat → Prop) (a1 a2 a3 a4 : Value) (ss1 fs1 : List Value) (hr : RN w0 w1 pb T1 a1 a2 v2 a3 a4 v5 ss1 fs1 (S ++ Nf.sts a) (O ++ List.replicate (Nf.sts a).length q) (L ++ List.replicate (Nf.sts a).length false) x.2) =>
    ih b _ _ hsb hpb hrb w1 T1 a1 a2 a3 a4 ss1 fs1 _ _ _ x.2 q hr x4 (by omega) (by rw [List.length_append]; omega)
  rw [hy] at hib
  have hbw := Nat.lt_of_lt_of_le hbb h.bel.size
  have hsl : ([a, b] : List RE).length = 2 := rfl
  have c0 := (h.bel.cell (p := ⟨bb, off, none⟩) hbb).trans (by simpa using k0)
  have c1 := (h.bel.cell (p := ⟨bb, off + 1, none⟩) hbb).trans (by simpa using k1)
  have c2 := (h.bel.cell (p := ⟨bb, off + 2, none⟩) hbb).trans (by simpa using k2)
  have d3 : ∀ X : World, Below w0.heap.size w0 X → X.cell? ⟨bb, off + 3, none⟩ = some (.int .i64 b.kind) := fun X hX => (hX.cell (p := ⟨bb, off + 3, none⟩) hbb).trans (by simpa using k3)
  have d4 : ∀ X : World, Below w0.heap.size w0 X → X.cell? ⟨bb, off + 4, none⟩ = some (.slice o5 b.set.length q5) := fun X hX => (hX.cell (p := ⟨bb, off + 4, none⟩) hbb).trans (by simpa using k4)
  have d5 : ∀ X : World, Below w0.heap.size w0 X → X.cell? ⟨bb, off + 5, none⟩ = some (.slice o6 b.parts.length q6) := fun X hX => (hX.cell (p := ⟨bb, off + 5, none⟩) hbb).trans (by simpa using k5)
  have g6 : W.heap[w.heap.size + 1]? = some (.cells #[.bool false, .slice none 0 0, .slice none 0 0] 80 (0, 0)) := by
    rw [hW]
    have := World.alloc_heap_new (w.alloc (.cells #[.int .i64 4, .slice o1 s.length q1, .slice (some ⟨bb, off, none⟩) 2 cap] 41)) (.cells #[.bool false, .slice none 0 0, .slice none 0 0] 80)
    rwa [World.size_alloc] at this
  have g4 : W.heap[w.heap.size]? = some (.cells #[.int .i64 4, .slice o1 s.length q1, .slice (some ⟨bb, off, none⟩) 2 cap] 41 (0, 0)) := by
    rw [hW]; exact bel_get (bel_new (Below.refl _ _) _) (World.alloc_heap_new w _)
  have hn6 : ¬ T (w.heap.size + 1) := fun hT => by have := (h.tlt _ hT).2; omega
  have hn4 : ¬ T w.heap.size := fun hT => by have := (h.tlt _ hT).2; omega
  have HB := Lib.hid h.bel.size
  rw [hW] at hia
  have HW := Lib.hid hW
  have HBW := Lib.hid hbW
  have HA := Lib.hid hia
  have HIB := Lib.hid hib
  have HND := Lib.hid hnd
  have HES := Lib.hid es
  have HX := Lib.hid hx
  have HY := Lib.hid hy
  have HG := Lib.hid (And.intro g6 (And.intro g4 (And.intro hn6 hn4)))
  have HD := Lib.hid (And.intro d3 (And.intro d4 d5))
  clear h hW hbW hia hib hx hy hre hra hrb k0 k1 k2 k3 k4 k5 hF es hnd g6 g4 hn6 hn4 d3 d4 d5
  go_enter Tryz.func45, Tryz.ntmps45
  go_wp2_with fail
  refine HA.out.mono ?_
  rintro e w1 ⟨fv1, lv1, rfl, hpost⟩
  obtain ⟨T1, vS1, vO1, vL1, vF1, ss1, fs1, hrn1, htr1, hfa, hla⟩ := hpost.st
  rw [← HW.out] at htr1
  rw [HX.out] at hrn1 hfa hla
  obtain ⟨of1, cf1, rfl⟩ := hfa.form
  obtain ⟨ol1, cl1, rfl⟩ := hla.form
  obtain ⟨f0, f1, f2⟩ := part_cells (htr1.get HG.out.2.2.2 HG.out.2.1)
  have f3 := HD.out.1 w1 hrn1.bel
  have f4 := HD.out.2.1 w1 hrn1.bel
  have f5 := HD.out.2.2 w1 hrn1.bel
  have f6 : bb < w1.heap.size := Nat.lt_of_lt_of_le hbb hrn1.bel.size
  have hs1 : W.heap.size ≤ w1.heap.size := htr1.ag.size
  have f7 : w.heap.size < w1.heap.size := by omega
  have H1 := Lib.hid (And.intro hrn1 (And.intro htr1 (And.intro hfa hla)))
  clear hrn1 htr1 hfa hla hpost
  go_wp2_with fail
  obtain ⟨hrn1, htr1, hfa, hla⟩ := H1.out
  obtain ⟨W2, hW2⟩ : ∃ W2, W2 = w1.alloc (.cells #[.bool x.1.1, .slice of1 x.1.2.1.length cf1, .slice ol1 x.1.2.2.length cl1] 80) := ⟨_, rfl⟩
  have hb2 : Below w1.heap.size w1 W2 := by rw [hW2]; exact bel_new (Below.refl _ _) _
  have hrn2 := hrn1.moved hb2
  have htr2 : RTr T W T1 W2 := htr1.trans (RTr.old hb2)
  have hs2 : W2.heap.size = w1.heap.size + 1 := by rw [hW2]; simp
  have h8 : W2.heap[w1.heap.size]? = some (.cells #[.bool x.1.1, .slice of1 x.1.2.1.length cf1, .slice ol1 x.1.2.2.length cl1] 80 (0, 0)) := by rw [hW2]; exact World.alloc_heap_new w1 _
  have hn8 : ¬ T1 w1.heap.size := fun hT => by have := (hrn1.tlt _ hT).2; omega
  have H2 := Lib.hid (And.intro hrn2 (And.intro htr2 (And.intro (hfa.moved hb2) (And.intro (hla.moved hb2) (And.intro h8 hn8)))))
  have HIB2 := Lib.hid (HIB.out W2 T1 vS1 vO1 vL1 vF1 ss1 fs1 hrn2)
  rw [← hW2]
  clear hrn1 htr1 hfa hla hrn2 htr2 h8 hn8 hW2 hb2 f0 f1 f2 f3 f4 f5 f6 f7 H1
  refine HIB2.out.mono ?_
  rintro e w3 ⟨fv2, lv2, rfl, hpost⟩
  obtain ⟨T2, vS2, vO2, vL2, vF2, ss2, fs2, hrn3, htr3, hfb, hlb⟩ := hpost.st
  rw [HY.out] at hrn3 hfb hlb
  obtain ⟨of2, cf2, rfl⟩ := hfb.form
  obtain ⟨ol2, cl2, rfl⟩ := hlb.form
  have HAF := Lib.hid (And.intro hrn3 (And.intro htr3 (And.intro hfb hlb)))
  obtain ⟨u0, u1', u2'⟩ := part_cells (htr3.get H2.out.2.2.2.2.2 H2.out.2.2.2.2.1)
  have hs3 : W2.heap.size ≤ w3.heap.size := htr3.ag.size
  have u3 : w1.heap.size < w3.heap.size := by omega
  clear hrn3 htr3 hfb hlb hpost HIB2
  go_upto_region 21 with (fail)
  obtain ⟨hrn3, htr3, hfb, hlb⟩ := HAF.out
  obtain ⟨W4, hW4⟩ : ∃ W4, W4 = w3.alloc (.cells #[.bool y.1.1, .slice of2 y.1.2.1.length cf2, .slice ol2 y.1.2.2.length cl2] 80) := ⟨_, rfl⟩
  have hb4 : Below w3.heap.size w3 W4 := by rw [hW4]; exact bel_new (Below.refl _ _) _
  have hrn4 := hrn3.moved hb4
  have htr4 : RTr T1 W2 T2 W4 := htr3.trans (RTr.old hb4)
  have htr : RTr T W T2 W4 := H2.out.2.1.trans htr4
  have hfa4 := H2.out.2.2.1.tr htr4
  have hla4 := H2.out.2.2.2.1.tr htr4
  have hfb4 := hfb.moved hb4
  have hlb4 := hlb.moved hb4
  have h84 := htr4.get H2.out.2.2.2.2.2 H2.out.2.2.2.2.1
  have hn84 := htr4.no H2.out.2.2.2.2.2 (by omega)
  have h94 : W4.heap[w3.heap.size]? = some (.cells #[.bool y.1.1, .slice of2 y.1.2.1.length cf2, .slice ol2 y.1.2.2.length cl2] 80 (0, 0)) := by rw [hW4]; exact World.alloc_heap_new w3 _
  have hn94 : ¬ T2 w3.heap.size := fun hT => by have := (hrn3.tlt _ hT).2; omega
  have h64 := htr.get HG.out.2.2.1 HG.out.1
  have hn64 := htr.no HG.out.2.2.1 (by omega)
  have hs4 : W4.heap.size = w3.heap.size + 1 := by rw [hW4]; simp
  rw [← hW4]
  clear hW4 hrn3 htr3 hfb hlb hb4 htr4 HIB HA c0 c1 c2 u0 u1' u2' u3 HAF
  obtain ⟨p8, hp8⟩ : ∃ p8, p8 = w1.heap.size := ⟨_, rfl⟩
  obtain ⟨p9, hp9⟩ : ∃ p9, p9 = w3.heap.size := ⟨_, rfl⟩
  obtain ⟨p6, hp6⟩ : ∃ p6, p6 = w.heap.size + 1 := ⟨_, rfl⟩
  have hsz := HB.out
  rw [← hp8] at h84 hn84 hs1 hs2 ⊢
  rw [← hp9] at h94 hn94 hs3 hs4 ⊢
  rw [← hp6] at h64 hn64 ⊢
  have hp6a : w.heap.size ≤ p6 := by omega
  have hp6b : w0.heap.size ≤ p6 := by omega
  have hp68 : p6 < p8 := by omega
  have hp89 : p8 < p9 := by omega
  have hp94 : p9 < W4.heap.size := by omega
  have HP := Lib.hid (And.intro hp8 (And.intro hp9 hp6))
  clear hp8 hp9 hp6 hsW hs1 hs2 hs3 hs4
  obtain ⟨xe, hxe⟩ : ∃ xe, xe = x.1.1 := ⟨_, rfl⟩
  obtain ⟨ye, hye⟩ : ∃ ye, ye = y.1.1 := ⟨_, rfl⟩
  rw [← hxe] at h84 ⊢
  rw [← hye] at h94 ⊢
  have hX2 : DnOk y.2.length x.1.2.1 := x2.mono (by omega)
  have hX3 : DnOk y.2.length x.1.2.2 := x3.mono (by omega)
  have hyl : y.2.length ≤ 1000 := by have := hrn4.lenF; rw [List.length_append, List.length_append] at this; omega
  have hadd1 := fun (Y : World) (hY : Below W4.heap.size W4 Y) => radd_any x.1.2.1 y.1.2.1 _ _ Y ((hfa4.moved hY).row) ((hfb4.moved hY).row) (by have := hX2.len; omega) (by have := y2.len; omega)
  have hadd2 := fun (Y : World) (hY : Below W4.heap.size W4 Y) => radd_any x.1.2.2 y.1.2.2 _ _ Y ((hla4.moved hY).row) ((hlb4.moved hY).row) (by have := hX3.len; omega) (by have := y3.len; omega)
  have hS6 : ∀ X : World, Below W4.heap.size W4 X → X.heap[p8]? = some (.cells #[.bool xe, .slice of1 x.1.2.1.length cf1, .slice ol1 x.1.2.2.length cl1] 80 (0, 0)) ∧ X.heap[p9]? = some (.cells #[.bool ye, .slice of2 y.1.2.1.length cf2, .slice ol2 y.1.2.2.length cl2] 80 (0, 0)) ∧ X.heap[p6]? = some (.cells #[.bool false, .slice none 0 0, .slice none 0 0] 80 (0, 0)) := fun X hX => ⟨bel_get hX h84, bel_get hX h94, bel_get hX h64⟩
  have HS6 := Lib.hid hS6
  have HA1 := Lib.hid hadd1
  have HA2 := Lib.hid hadd2
  have H4 := Lib.hid (And.intro hrn4 (And.intro htr (And.intro hn64 (And.intro hxe hye))))
  have hd68 : p6 ≠ p8 := by omega
  have hd69 : p6 ≠ p9 := by omega
  have hres : ∀ (w6 w7 : World) (u1 u2 : Value) (B5 : Nat), W4.heap.size ≤ B5 → Below W4.heap.size W4 w6 → w6.heap[p6]? = some (.cells #[.bool false, .slice none 0 0, .slice none 0 0] 80 (0, 0)) → w6.ownsRow B5 3 1 u1 (addF x.1.2.1 y.1.2.1).length (ints1 (addF x.1.2.1 y.1.2.1)) → w6.ownsRow B5 3 1 u2 (addF x.1.2.2 y.1.2.2).length (ints1 (addF x.1.2.2 y.1.2.2)) →
      NPost w0 pb v2 v5 (.mk 4 s [a, b]) S O L F q T w u1 u2 (((w6.setCell ⟨p6, 0, none⟩ (.bool (xe || ye))).setCell ⟨p6, 1, none⟩ u1).setCell ⟨p6, 2, none⟩ u2) := by
    intro w6 w7 u1 u2 B5 hB5 hb6 g6 hu1 hu2
    obtain ⟨hrn4, htr, hn64, _, _⟩ := H4.out
    have hT4 : ∀ j, T2 j → j < W4.heap.size := fun j hj => (hrn4.tlt j hj).2
    have hb0 := hrn4.bel.size
    have hp1 : ∀ (u : Value) (l : List Int), w6.ownsRow B5 3 1 u l.length (ints1 l) → PRd w6 w0.heap.size T2 u l := fun u l hu => ⟨owns_base hu (by omega), fun j hj hj2 => by have := hT4 j hj2; have := (hu.lt j hj).1; omega⟩
    have g7 : (w6.setCell ⟨p6, 0, none⟩ (.bool (xe || ye))).heap[p6]? = some (.cells #[.bool (xe || ye), .slice none 0 0, .slice none 0 0] 80 (0, 0)) := pset0 g6 _
    have g8 : ((w6.setCell ⟨p6, 0, none⟩ (.bool (xe || ye))).setCell ⟨p6, 1, none⟩ u1).heap[p6]? = some (.cells #[.bool (xe || ye), u1, .slice none 0 0] 80 (0, 0)) := pset1 g7 _
    have hlo : w0.heap.size ≤ p6 := by omega
    refine ⟨T2, vS2, vO2, vL2, vF2, ss2, fs2, ?_, ?_, ?_, ?_⟩
    · rw [HES.out, HND.out, List.length_append, ← List.append_assoc, ← List.replicate_append_replicate, ← List.replicate_append_replicate, ← List.append_assoc, ← List.append_assoc]
      exact (((hrn4.moved hb6).set (p := ⟨p6, 0, none⟩) g6 (by decide) (by decide) (by decide) (by decide) (by decide) hlo _).set (p := ⟨p6, 1, none⟩) g7 (by decide) (by decide) (by decide) (by decide) (by decide) hlo _).set (p := ⟨p6, 2, none⟩) g8 (by decide) (by decide) (by decide) (by decide) (by decide) hlo _
    · have hT : w.heap.size ≤ p6 := by omega
      exact (((((RTr.old HBW.out).trans htr).trans (RTr.old hb6)).set hT _).set hT _).set hT _
    · rw [HND.out]
      exact (((hp1 _ _ hu1).set (p := ⟨p6, 0, none⟩) g6 (by decide) _).set (p := ⟨p6, 1, none⟩) g7 (by decide) _).set (p := ⟨p6, 2, none⟩) g8 (by decide) _
    · rw [HND.out]
      exact (((hp1 _ _ hu2).set (p := ⟨p6, 0, none⟩) g6 (by decide) _).set (p := ⟨p6, 1, none⟩) g7 (by decide) _).set (p := ⟨p6, 2, none⟩) g8 (by decide) _
  have HR := Lib.hid hres
  have q4 : ((W4.drew.cell? ⟨p8, 0, none⟩ = some (.bool xe) ∧ W4.drew.cell? ⟨p8, 1, none⟩ = some (.slice of1 x.1.2.1.length cf1) ∧ W4.drew.cell? ⟨p8, 2, none⟩ = some (.slice ol1 x.1.2.2.length cl1)) ∧ W4.drew.cell? ⟨p9, 0, none⟩ = some (.bool ye) ∧ W4.drew.cell? ⟨p9, 1, none⟩ = some (.slice of2 y.1.2.1.length cf2) ∧ W4.drew.cell? ⟨p9, 2, none⟩ = some (.slice ol2 y.1.2.2.length cl2)) := ⟨part_cells (hS6 _ (Below.refl _ _).drew).1, part_cells (hS6 _ (Below.refl _ _).drew).2.1⟩
  clear hadd1 hadd2 hS6 hrn4 htr hfa4 hla4 hfb4 hlb4 h84 h94 h64 hn84 hn94 hn64 hres hxe hye H2
  cases xe with
  | false =>
    refine wp_region_held_drew (S := fun w' => (w'.cell? ⟨p8, 0, none⟩ = some (.bool false) ∧ w'.cell? ⟨p8, 1, none⟩ = some (.slice of1 x.1.2.1.length cf1) ∧ w'.cell? ⟨p8, 2, none⟩ = some (.slice ol1 x.1.2.2.length cl1)) ∧ w'.cell? ⟨p9, 0, none⟩ = some (.bool ye) ∧ w'.cell? ⟨p9, 1, none⟩ = some (.slice of2 y.1.2.1.length cf2) ∧ w'.cell? ⟨p9, 2, none⟩ = some (.slice ol2 y.1.2.2.length cl2)) (by kernel_rfl) q4 (fun hS => ?_)
    refine wpAnyH_take (i := 0) (v := ?_) rfl (by kernel_rfl) (by kernel_rfl) (by kernel_rfl) (fun _ _ _ h => h) (Or.inl ⟨by rfl, ?_⟩) hS ?_
    rotate_left
    · intro w' hSw
      obtain ⟨⟨j0, j1, j2⟩, j3, j4, j5⟩ := hSw
      go_simp
      try with_reducible rfl
    try simp only [Act.put, List.setIfInBounds_toArray, List.set_cons_zero, List.set_cons_succ, List.getElem_toArray, List.getElem_cons_succ, List.getElem_cons_zero]
    refine wpAnyH_take (i := 1) (v := ?_) rfl (by kernel_rfl) (by kernel_rfl) (by kernel_rfl) (fun _ _ _ h => h) (Or.inl ⟨by rfl, ?_⟩) hS ?_
    rotate_left
    · intro w' hSw
      obtain ⟨⟨j0, j1, j2⟩, j3, j4, j5⟩ := hSw
      go_simp
      try with_reducible rfl
    try simp only [Act.put, List.setIfInBounds_toArray, List.set_cons_zero, List.set_cons_succ, List.getElem_toArray, List.getElem_cons_succ, List.getElem_cons_zero]
    refine wpAnyH_take (i := 2) (v := ?_) rfl (by kernel_rfl) (by kernel_rfl) (by kernel_rfl) (fun _ _ _ h => h) (Or.inl ⟨by rfl, ?_⟩) hS ?_
    rotate_left
    · intro w' hSw
      obtain ⟨⟨j0, j1, j2⟩, j3, j4, j5⟩ := hSw
      go_simp
      try with_reducible rfl
    try simp only [Act.put, List.setIfInBounds_toArray, List.set_cons_zero, List.set_cons_succ, List.getElem_toArray, List.getElem_cons_succ, List.getElem_cons_zero]
    refine wpAnyH_take (i := 3) (v := ?_) rfl (by kernel_rfl) (by kernel_rfl) (by kernel_rfl) (fun _ _ _ h => h) (Or.inl ⟨by rfl, ?_⟩) hS ?_
    rotate_left
    · intro w' hSw
      obtain ⟨⟨j0, j1, j2⟩, j3, j4, j5⟩ := hSw
      go_simp
      try with_reducible rfl
    try simp only [Act.put, List.setIfInBounds_toArray, List.set_cons_zero, List.set_cons_succ, List.getElem_toArray, List.getElem_cons_succ, List.getElem_cons_zero]
    refine wpAnyH_take (i := 4) (v := ?_) rfl (by kernel_rfl) (by kernel_rfl) (by kernel_rfl) (fun _ _ _ h => h) (Or.inl ⟨by rfl, ?_⟩) hS ?_
    rotate_left
    · intro w' hSw
      obtain ⟨⟨j0, j1, j2⟩, j3, j4, j5⟩ := hSw
      go_simp
      try with_reducible rfl
    try simp only [Act.put, List.setIfInBounds_toArray, List.set_cons_zero, List.set_cons_succ, List.getElem_toArray, List.getElem_cons_succ, List.getElem_cons_zero]
    refine wpAnyH_take (i := 5) (v := ?_) rfl (by kernel_rfl) (by kernel_rfl) (by kernel_rfl) (fun _ _ _ h => h) (Or.inl ⟨by rfl, ?_⟩) hS ?_
    rotate_left
    · intro w' hSw
      obtain ⟨⟨j0, j1, j2⟩, j3, j4, j5⟩ := hSw
      go_simp
      try with_reducible rfl
    try simp only [Act.put, List.setIfInBounds_toArray, List.set_cons_zero, List.set_cons_succ, List.getElem_toArray, List.getElem_cons_succ, List.getElem_cons_zero]
    refine wpAnyH_take (i := 6) (v := ?_) rfl (by kernel_rfl) (by kernel_rfl) (by kernel_rfl) (fun _ _ _ h => h) (Or.inl ⟨by rfl, ?_⟩) hS ?_
    rotate_left
    · intro w' hSw
      obtain ⟨⟨j0, j1, j2⟩, j3, j4, j5⟩ := hSw
      go_simp
      try with_reducible rfl
    try simp only [Act.put, List.setIfInBounds_toArray, List.set_cons_zero, List.set_cons_succ, List.getElem_toArray, List.getElem_cons_succ, List.getElem_cons_zero]
    refine wpAnyH_take (i := 7) (v := ?_) rfl (by kernel_rfl) (by kernel_rfl) (by kernel_rfl) (fun _ _ _ h => h) (Or.inl ⟨by rfl, ?_⟩) hS ?_
    rotate_left
    · intro w' hSw
      obtain ⟨⟨j0, j1, j2⟩, j3, j4, j5⟩ := hSw
      go_simp
      try with_reducible rfl
    try simp only [Act.put, List.setIfInBounds_toArray, List.set_cons_zero, List.set_cons_succ, List.getElem_toArray, List.getElem_cons_succ, List.getElem_cons_zero]
    refine wpAnyH_take (i := 8) (v := ?_) rfl (by kernel_rfl) (by kernel_rfl) (by kernel_rfl) (fun _ _ _ h => h) (Or.inl ⟨by rfl, ?_⟩) hS ?_
    rotate_left
    · intro w' hSw
      obtain ⟨⟨j0, j1, j2⟩, j3, j4, j5⟩ := hSw
      go_simp
      try with_reducible rfl
    try simp only [Act.put, List.setIfInBounds_toArray, List.set_cons_zero, List.set_cons_succ, List.getElem_toArray, List.getElem_cons_succ, List.getElem_cons_zero]
    refine wpAnyH_take (i := 9) (v := ?_) rfl (by kernel_rfl) (by kernel_rfl) (by kernel_rfl) (fun _ _ _ h => h) (Or.inl ⟨by rfl, ?_⟩) hS ?_
    rotate_left
    · intro w' hSw
      obtain ⟨⟨j0, j1, j2⟩, j3, j4, j5⟩ := hSw
      go_simp
      try with_reducible rfl
    try simp only [Act.put, List.setIfInBounds_toArray, List.set_cons_zero, List.set_cons_succ, List.getElem_toArray, List.getElem_cons_succ, List.getElem_cons_zero]
    refine wpAnyH_take (i := 11) (v := ?_) rfl (by kernel_rfl) (by kernel_rfl) (by kernel_rfl) (fun _ _ _ h => h) (Or.inl ⟨by rfl, ?_⟩) hS ?_
    rotate_left
    · intro w' hSw
      obtain ⟨⟨j0, j1, j2⟩, j3, j4, j5⟩ := hSw
      go_simp
      try with_reducible rfl
    try simp only [Act.put, List.setIfInBounds_toArray, List.set_cons_zero, List.set_cons_succ, List.getElem_toArray, List.getElem_cons_succ, List.getElem_cons_zero]
    refine wpAnyH_take (i := 12) (v := ?_) rfl (by kernel_rfl) (by kernel_rfl) (by kernel_rfl) (fun _ _ _ h => h) (Or.inl ⟨by rfl, ?_⟩) hS ?_
    rotate_left
    · intro w' hSw
      obtain ⟨⟨j0, j1, j2⟩, j3, j4, j5⟩ := hSw
      go_simp
      try with_reducible rfl
    try simp only [Act.put, List.setIfInBounds_toArray, List.set_cons_zero, List.set_cons_succ, List.getElem_toArray, List.getElem_cons_succ, List.getElem_cons_zero]
    refine wpAnyH_take (i := 13) (v := ?_) rfl (by kernel_rfl) (by kernel_rfl) (by kernel_rfl) (fun _ _ _ h => h) (Or.inl ⟨by rfl, ?_⟩) hS ?_
    rotate_left
    · intro w' hSw
      obtain ⟨⟨j0, j1, j2⟩, j3, j4, j5⟩ := hSw
      go_simp
      try with_reducible rfl
    try simp only [Act.put, List.setIfInBounds_toArray, List.set_cons_zero, List.set_cons_succ, List.getElem_toArray, List.getElem_cons_succ, List.getElem_cons_zero]
    refine wpAnyH_take (i := 14) (v := ?_) rfl (by kernel_rfl) (by kernel_rfl) (by kernel_rfl) (fun _ _ _ h => h) (Or.inl ⟨by rfl, ?_⟩) hS ?_
    rotate_left
    · intro w' hSw
      obtain ⟨⟨j0, j1, j2⟩, j3, j4, j5⟩ := hSw
      go_simp
      try with_reducible rfl
    try simp only [Act.put, List.setIfInBounds_toArray, List.set_cons_zero, List.set_cons_succ, List.getElem_toArray, List.getElem_cons_succ, List.getElem_cons_zero]
    refine wpAnyH_ready (rs := [10]) (by kernel_rfl) (by simp) ?_
    refine AllReadyH.cons rfl (fun K hK => ?_) AllReadyH.nil
    replace hK := Lib.hid hK
    go_simp
    go_at_call 46
    refine (HA1.out _ (Below.refl _ _).drew).mono ?_
    rintro e w5 ⟨u1, rfl, hu1, hb5⟩
    obtain ⟨o5', c5', rfl⟩ := nf_slice hu1
    have hB5 : Below W4.heap.size W4 w5 := bel_then (Below.refl _ _).drew hb5
    have hq5 := And.intro (part_cells (HS6.out _ hB5).1) (part_cells (HS6.out _ hB5).2.1)
    refine hK.out _ _ hq5 (fun hS5 => ?_)
    clear hK K
    try simp only [Act.put, List.setIfInBounds_toArray, List.set_cons_zero, List.set_cons_succ, List.getElem_toArray, List.getElem_cons_succ, List.getElem_cons_zero]
    refine wpAnyH_ready (rs := [15]) (by kernel_rfl) (by simp) ?_
    refine AllReadyH.cons rfl (fun K hK => ?_) AllReadyH.nil
    replace hK := Lib.hid hK
    go_simp
    go_at_call 46
    refine (HA2.out _ hB5).mono ?_
    rintro e w6 ⟨u2, rfl, hu2, hb6⟩
    obtain ⟨o6', c6', rfl⟩ := nf_slice hu2
    have hB6 : Below W4.heap.size W4 w6 := bel_then hB5 hb6
    have hq6 := And.intro (part_cells (HS6.out _ hB6).1) (part_cells (HS6.out _ hB6).2.1)
    refine hK.out _ _ hq6 (fun hS6 => ?_)
    clear hK K
    try simp only [Act.put, List.setIfInBounds_toArray, List.set_cons_zero, List.set_cons_succ, List.getElem_toArray, List.getElem_cons_succ, List.getElem_cons_zero]
    refine wpAnyH_take (i := 16) (v := ?_) rfl (by kernel_rfl) (by kernel_rfl) (by kernel_rfl) (fun _ _ _ h => h) (Or.inl ⟨by rfl, ?_⟩) hS6 ?_
    rotate_left
    · intro w' hSw
      obtain ⟨⟨j0, j1, j2⟩, j3, j4, j5⟩ := hSw
      go_simp
      try with_reducible rfl
    try simp only [Act.put, List.setIfInBounds_toArray, List.set_cons_zero, List.set_cons_succ, List.getElem_toArray, List.getElem_cons_succ, List.getElem_cons_zero]
    have p64 := (HS6.out _ hB6).2.2
    obtain ⟨z0, z1, z2⟩ := part_froz p64
    obtain ⟨y0, y1', y2'⟩ := part_cells p64
    have hU := Lib.hid (And.intro hB6 (And.intro p64 (And.intro (owns_below hu1 hb6) hu2)))
    have hsz5 : W4.heap.size ≤ w5.heap.size := hB5.size
    clear hq5 hq6 hS5 hS hu1 hu2 hb5 hb6 hB5 hB6 p64 q4 hS6
    refine wpAnyH_ready (rs := [17]) (by kernel_rfl) (by simp) ?_
    refine AllReadyH.cons rfl (fun K hK => ?_) AllReadyH.nil
    replace hK := Lib.hid hK
    go_simp
    refine hK.out _ _ (And.intro (part_cells ((set3_else (w := w6) (Ne.symm hd68) _ _ _).trans (HS6.out _ hU.out.1).1)) (part_cells ((set3_else (w := w6) (Ne.symm hd69) _ _ _).trans (HS6.out _ hU.out.1).2.1))) (fun _ => ?_)
    clear hK K
    try simp only [Act.put, List.setIfInBounds_toArray, List.set_cons_zero, List.set_cons_succ, List.getElem_toArray, List.getElem_cons_succ, List.getElem_cons_zero]
    refine wpAnyH_done (by kernel_rfl) ?_ _
    go_wp2_with fail
    have hfin := set3_at hU.out.2.1 (.bool ye) (.slice o5' (addF x.1.2.1 y.1.2.1).length c5') (.slice o6' (addF x.1.2.2 y.1.2.2).length c6')
    obtain ⟨f0, f1, f2⟩ := part_cells hfin
    have hq1 := H4.out.2.2.2.1
    have hq2 := H4.out.2.2.2.2
    have hres := HR.out w6 w6 (.slice o5' (addF x.1.2.1 y.1.2.1).length c5') (.slice o6' (addF x.1.2.2 y.1.2.2).length c6') W4.heap.size (Nat.le_refl _) hU.out.1 hU.out.2.1 (owns_base hU.out.2.2.1 (by simp)) (owns_base hU.out.2.2.2 (by omega))
    simp [bodyPost, results, Tryz.results45, go_sem, f0, f1, f2]
    refine ⟨_, _, ⟨?_, rfl, rfl⟩, hres⟩
    first | (rw [← hq1, ← hq2]; rfl) | exact .inl hq1.symm | simp [← hq1, ← hq2]
  | true =>
    refine wp_region_held_drew (S := fun w' => (w'.cell? ⟨p8, 0, none⟩ = some (.bool true) ∧ w'.cell? ⟨p8, 1, none⟩ = some (.slice of1 x.1.2.1.length cf1) ∧ w'.cell? ⟨p8, 2, none⟩ = some (.slice ol1 x.1.2.2.length cl1)) ∧ w'.cell? ⟨p9, 0, none⟩ = some (.bool ye) ∧ w'.cell? ⟨p9, 1, none⟩ = some (.slice of2 y.1.2.1.length cf2) ∧ w'.cell? ⟨p9, 2, none⟩ = some (.slice ol2 y.1.2.2.length cl2)) (by kernel_rfl) q4 (fun hS => ?_)
    refine wpAnyH_take (i := 0) (v := ?_) rfl (by kernel_rfl) (by kernel_rfl) (by kernel_rfl) (fun _ _ _ h => h) (Or.inl ⟨by rfl, ?_⟩) hS ?_
    rotate_left
    · intro w' hSw
      obtain ⟨⟨j0, j1, j2⟩, j3, j4, j5⟩ := hSw
      go_simp
      try with_reducible rfl
    try simp only [Act.put, List.setIfInBounds_toArray, List.set_cons_zero, List.set_cons_succ, List.getElem_toArray, List.getElem_cons_succ, List.getElem_cons_zero]
    refine wpAnyH_take (i := 1) (v := ?_) rfl (by kernel_rfl) (by kernel_rfl) (by kernel_rfl) (fun _ _ _ h => h) (Or.inl ⟨by rfl, ?_⟩) hS ?_
    rotate_left
    · intro w' hSw
      obtain ⟨⟨j0, j1, j2⟩, j3, j4, j5⟩ := hSw
      go_simp
      try with_reducible rfl
    try simp only [Act.put, List.setIfInBounds_toArray, List.set_cons_zero, List.set_cons_succ, List.getElem_toArray, List.getElem_cons_succ, List.getElem_cons_zero]
    refine wpAnyH_take (i := 2) (v := ?_) rfl (by kernel_rfl) (by kernel_rfl) (by kernel_rfl) (fun _ _ _ h => h) (Or.inl ⟨by rfl, ?_⟩) hS ?_
    rotate_left
    · intro w' hSw
      obtain ⟨⟨j0, j1, j2⟩, j3, j4, j5⟩ := hSw
      go_simp
      try with_reducible rfl
    try simp only [Act.put, List.setIfInBounds_toArray, List.set_cons_zero, List.set_cons_succ, List.getElem_toArray, List.getElem_cons_succ, List.getElem_cons_zero]
    refine wpAnyH_take (i := 3) (v := undef) rfl (by kernel_rfl) (by kernel_rfl) (by kernel_rfl) (fun _ _ _ h => h) (Or.inr ⟨by rfl, rfl⟩) hS ?_
    try simp only [Act.put, List.setIfInBounds_toArray, List.set_cons_zero, List.set_cons_succ, List.getElem_toArray, List.getElem_cons_succ, List.getElem_cons_zero]
    refine wpAnyH_take (i := 4) (v := undef) rfl (by kernel_rfl) (by kernel_rfl) (by kernel_rfl) (fun _ _ _ h => h) (Or.inr ⟨by rfl, rfl⟩) hS ?_
    try simp only [Act.put, List.setIfInBounds_toArray, List.set_cons_zero, List.set_cons_succ, List.getElem_toArray, List.getElem_cons_succ, List.getElem_cons_zero]
    refine wpAnyH_take (i := 5) (v := ?_) rfl (by kernel_rfl) (by kernel_rfl) (by kernel_rfl) (fun _ _ _ h => h) (Or.inl ⟨by rfl, ?_⟩) hS ?_
    rotate_left
    · intro w' hSw
      obtain ⟨⟨j0, j1, j2⟩, j3, j4, j5⟩ := hSw
      go_simp
      try with_reducible rfl
    try simp only [Act.put, List.setIfInBounds_toArray, List.set_cons_zero, List.set_cons_succ, List.getElem_toArray, List.getElem_cons_succ, List.getElem_cons_zero]
    refine wpAnyH_take (i := 6) (v := ?_) rfl (by kernel_rfl) (by kernel_rfl) (by kernel_rfl) (fun _ _ _ h => h) (Or.inl ⟨by rfl, ?_⟩) hS ?_
    rotate_left
    · intro w' hSw
      obtain ⟨⟨j0, j1, j2⟩, j3, j4, j5⟩ := hSw
      go_simp
      try with_reducible rfl
    try simp only [Act.put, List.setIfInBounds_toArray, List.set_cons_zero, List.set_cons_succ, List.getElem_toArray, List.getElem_cons_succ, List.getElem_cons_zero]
    refine wpAnyH_take (i := 7) (v := ?_) rfl (by kernel_rfl) (by kernel_rfl) (by kernel_rfl) (fun _ _ _ h => h) (Or.inl ⟨by rfl, ?_⟩) hS ?_
    rotate_left
    · intro w' hSw
      obtain ⟨⟨j0, j1, j2⟩, j3, j4, j5⟩ := hSw
      go_simp
      try with_reducible rfl
    try simp only [Act.put, List.setIfInBounds_toArray, List.set_cons_zero, List.set_cons_succ, List.getElem_toArray, List.getElem_cons_succ, List.getElem_cons_zero]
    refine wpAnyH_take (i := 8) (v := ?_) rfl (by kernel_rfl) (by kernel_rfl) (by kernel_rfl) (fun _ _ _ h => h) (Or.inl ⟨by rfl, ?_⟩) hS ?_
    rotate_left
    · intro w' hSw
      obtain ⟨⟨j0, j1, j2⟩, j3, j4, j5⟩ := hSw
      go_simp
      try with_reducible rfl
    try simp only [Act.put, List.setIfInBounds_toArray, List.set_cons_zero, List.set_cons_succ, List.getElem_toArray, List.getElem_cons_succ, List.getElem_cons_zero]
    refine wpAnyH_take (i := 9) (v := ?_) rfl (by kernel_rfl) (by kernel_rfl) (by kernel_rfl) (fun _ _ _ h => h) (Or.inl ⟨by rfl, ?_⟩) hS ?_
    rotate_left
    · intro w' hSw
      obtain ⟨⟨j0, j1, j2⟩, j3, j4, j5⟩ := hSw
      go_simp
      try with_reducible rfl
    try simp only [Act.put, List.setIfInBounds_toArray, List.set_cons_zero, List.set_cons_succ, List.getElem_toArray, List.getElem_cons_succ, List.getElem_cons_zero]
    refine wpAnyH_take (i := 11) (v := ?_) rfl (by kernel_rfl) (by kernel_rfl) (by kernel_rfl) (fun _ _ _ h => h) (Or.inl ⟨by rfl, ?_⟩) hS ?_
    rotate_left
    · intro w' hSw
      obtain ⟨⟨j0, j1, j2⟩, j3, j4, j5⟩ := hSw
      go_simp
      try with_reducible rfl
    try simp only [Act.put, List.setIfInBounds_toArray, List.set_cons_zero, List.set_cons_succ, List.getElem_toArray, List.getElem_cons_succ, List.getElem_cons_zero]
    refine wpAnyH_take (i := 12) (v := ?_) rfl (by kernel_rfl) (by kernel_rfl) (by kernel_rfl) (fun _ _ _ h => h) (Or.inl ⟨by rfl, ?_⟩) hS ?_
    rotate_left
    · intro w' hSw
      obtain ⟨⟨j0, j1, j2⟩, j3, j4, j5⟩ := hSw
      go_simp
      try with_reducible rfl
    try simp only [Act.put, List.setIfInBounds_toArray, List.set_cons_zero, List.set_cons_succ, List.getElem_toArray, List.getElem_cons_succ, List.getElem_cons_zero]
    refine wpAnyH_take (i := 13) (v := ?_) rfl (by kernel_rfl) (by kernel_rfl) (by kernel_rfl) (fun _ _ _ h => h) (Or.inl ⟨by rfl, ?_⟩) hS ?_
    rotate_left
    · intro w' hSw
      obtain ⟨⟨j0, j1, j2⟩, j3, j4, j5⟩ := hSw
      go_simp
      try with_reducible rfl
    try simp only [Act.put, List.setIfInBounds_toArray, List.set_cons_zero, List.set_cons_succ, List.getElem_toArray, List.getElem_cons_succ, List.getElem_cons_zero]
    refine wpAnyH_take (i := 14) (v := ?_) rfl (by kernel_rfl) (by kernel_rfl) (by kernel_rfl) (fun _ _ _ h => h) (Or.inl ⟨by rfl, ?_⟩) hS ?_
    rotate_left
    · intro w' hSw
      obtain ⟨⟨j0, j1, j2⟩, j3, j4, j5⟩ := hSw
      go_simp
      try with_reducible rfl
    try simp only [Act.put, List.setIfInBounds_toArray, List.set_cons_zero, List.set_cons_succ, List.getElem_toArray, List.getElem_cons_succ, List.getElem_cons_zero]
    refine wpAnyH_ready (rs := [10]) (by kernel_rfl) (by simp) ?_
    refine AllReadyH.cons rfl (fun K hK => ?_) AllReadyH.nil
    replace hK := Lib.hid hK
    go_simp
    go_at_call 46
    refine (HA1.out _ (Below.refl _ _).drew).mono ?_
    rintro e w5 ⟨u1, rfl, hu1, hb5⟩
    obtain ⟨o5', c5', rfl⟩ := nf_slice hu1
    have hB5 : Below W4.heap.size W4 w5 := bel_then (Below.refl _ _).drew hb5
    have hq5 := And.intro (part_cells (HS6.out _ hB5).1) (part_cells (HS6.out _ hB5).2.1)
    refine hK.out _ _ hq5 (fun hS5 => ?_)
    clear hK K
    try simp only [Act.put, List.setIfInBounds_toArray, List.set_cons_zero, List.set_cons_succ, List.getElem_toArray, List.getElem_cons_succ, List.getElem_cons_zero]
    refine wpAnyH_ready (rs := [15]) (by kernel_rfl) (by simp) ?_
    refine AllReadyH.cons rfl (fun K hK => ?_) AllReadyH.nil
    replace hK := Lib.hid hK
    go_simp
    go_at_call 46
    refine (HA2.out _ hB5).mono ?_
    rintro e w6 ⟨u2, rfl, hu2, hb6⟩
    obtain ⟨o6', c6', rfl⟩ := nf_slice hu2
    have hB6 : Below W4.heap.size W4 w6 := bel_then hB5 hb6
    have hq6 := And.intro (part_cells (HS6.out _ hB6).1) (part_cells (HS6.out _ hB6).2.1)
    refine hK.out _ _ hq6 (fun hS6 => ?_)
    clear hK K
    try simp only [Act.put, List.setIfInBounds_toArray, List.set_cons_zero, List.set_cons_succ, List.getElem_toArray, List.getElem_cons_succ, List.getElem_cons_zero]
    refine wpAnyH_take (i := 16) (v := ?_) rfl (by kernel_rfl) (by kernel_rfl) (by kernel_rfl) (fun _ _ _ h => h) (Or.inl ⟨by rfl, ?_⟩) hS6 ?_
    rotate_left
    · intro w' hSw
      obtain ⟨⟨j0, j1, j2⟩, j3, j4, j5⟩ := hSw
      go_simp
      try with_reducible rfl
    try simp only [Act.put, List.setIfInBounds_toArray, List.set_cons_zero, List.set_cons_succ, List.getElem_toArray, List.getElem_cons_succ, List.getElem_cons_zero]
    have p64 := (HS6.out _ hB6).2.2
    obtain ⟨z0, z1, z2⟩ := part_froz p64
    obtain ⟨y0, y1', y2'⟩ := part_cells p64
    have hU := Lib.hid (And.intro hB6 (And.intro p64 (And.intro (owns_below hu1 hb6) hu2)))
    have hsz5 : W4.heap.size ≤ w5.heap.size := hB5.size
    clear hq5 hq6 hS5 hS hu1 hu2 hb5 hb6 hB5 hB6 p64 q4 hS6
    refine wpAnyH_ready (rs := [17]) (by kernel_rfl) (by simp) ?_
    refine AllReadyH.cons rfl (fun K hK => ?_) AllReadyH.nil
    replace hK := Lib.hid hK
    go_simp
    refine hK.out _ _ (And.intro (part_cells ((set3_else (w := w6) (Ne.symm hd68) _ _ _).trans (HS6.out _ hU.out.1).1)) (part_cells ((set3_else (w := w6) (Ne.symm hd69) _ _ _).trans (HS6.out _ hU.out.1).2.1))) (fun _ => ?_)
    clear hK K
    try simp only [Act.put, List.setIfInBounds_toArray, List.set_cons_zero, List.set_cons_succ, List.getElem_toArray, List.getElem_cons_succ, List.getElem_cons_zero]
    refine wpAnyH_done (by kernel_rfl) ?_ _
    go_wp2_with fail
    have hfin := set3_at hU.out.2.1 (.bool true) (.slice o5' (addF x.1.2.1 y.1.2.1).length c5') (.slice o6' (addF x.1.2.2 y.1.2.2).length c6')
    obtain ⟨f0, f1, f2⟩ := part_cells hfin
    have hq1 := H4.out.2.2.2.1
    have hq2 := H4.out.2.2.2.2
    have hres := HR.out w6 w6 (.slice o5' (addF x.1.2.1 y.1.2.1).length c5') (.slice o6' (addF x.1.2.2 y.1.2.2).length c6') W4.heap.size (Nat.le_refl _) hU.out.1 hU.out.2.1 (owns_base hU.out.2.2.1 (by simp)) (owns_base hU.out.2.2.2 (by omega))
    simp [bodyPost, results, Tryz.results45, go_sem, f0, f1, f2]
    refine ⟨_, _, ⟨?_, rfl, rfl⟩, hres⟩
    first | (rw [← hq1, ← hq2]; rfl) | exact .inl hq1.symm | simp [← hq1, ← hq2]
end Go.Proofs.YtmgfpcblbbpahaaGreat
