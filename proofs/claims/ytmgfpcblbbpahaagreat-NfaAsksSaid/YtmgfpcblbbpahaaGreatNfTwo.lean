/- nfa.part: an alternative, a row. -/
import Derived.Test.YtmgfpcblbbpahaaGreatNfCc
set_option linter.unusedVariables false
set_option linter.unusedSimpArgs false
namespace Go.Proofs.YtmgfpcblbbpahaaGreat
open Go.RowKit Ru

def S6 (p9 p10 : Nat) (q1 q2 : Bool) (f1 l1 f2 l2 : Value) (w' : World) : Prop := (w'.cell? ⟨p9, 0, none⟩ = some (.bool q1) ∧ w'.cell? ⟨p9, 1, none⟩ = some f1 ∧ w'.cell? ⟨p9, 2, none⟩ = some l1) ∧ w'.cell? ⟨p10, 0, none⟩ = some (.bool q2) ∧ w'.cell? ⟨p10, 1, none⟩ = some f2 ∧ w'.cell? ⟨p10, 2, none⟩ = some l2
set_option maxRecDepth 100000 in
set_option maxHeartbeats 8000000 in
theorem part_alt (w0 : World) (fb qn pb N : Nat) (ih : PIh w0 fb qn pb N) (s : List Pc) (a b : RE) (sv lv : Value) (hsa : a.size ≤ N) (hsb : b.size ≤ N) (hpa : a.prt = true) (hpb : b.prt = true) (h60 : a.size + b.size + 1 ≤ 60) (hre : ReIs w0 (.mk 4 s [a, b]) sv lv)
    (w : World) (vs : List Value) (F : List (List Int)) (n : Int) (L : Nat) (h : PS w0 w fb qn pb vs F n) (hn : 0 ≤ n) (hnF : n + ((Nf.sts a).length + (Nf.sts b).length : Nat) ≤ (F.length : Int)) (hL : ∀ r ∈ F, r.length ≤ L) (hLs : L + (a.size + b.size + 1) * 3600 ≤ 3999999) :
    Calls Tryz.prog 30 #[.pointer (some ⟨pb, 0, none⟩), .agg #[.int .i64 4, sv, lv], posV qn] w fun x w' => ∃ fv lv', x = .returned (.agg #[.bool (Nf.pt (.mk 4 s [a, b]) n F).1.1, fv, lv']) ∧ PPost w0 w fb qn pb vs (Nf.pt (.mk 4 s [a, b]) n F) fv lv' w' := by
  have hform : ∃ o c, sv = .slice o s.length c := hre.form.1
  obtain ⟨o1, q1, rfl⟩ := hform
  have hpart : ∃ b' off cap s' l', lv = .slice (some ⟨b', off, none⟩) 2 cap ∧ b' < w0.heap.size ∧ w0.cell? ⟨b', off + 0 * 3, none⟩ = some (.int .i64 a.kind) ∧ w0.cell? ⟨b', off + 0 * 3 + 1, none⟩ = some s' ∧ w0.cell? ⟨b', off + 0 * 3 + 2, none⟩ = some l' ∧ ReIs w0 a s' l' := hre.part (i := 0) (p := a) rfl
  have hpart2 : ∃ b' off cap s' l', lv = .slice (some ⟨b', off, none⟩) 2 cap ∧ b' < w0.heap.size ∧ w0.cell? ⟨b', off + 1 * 3, none⟩ = some (.int .i64 b.kind) ∧ w0.cell? ⟨b', off + 1 * 3 + 1, none⟩ = some s' ∧ w0.cell? ⟨b', off + 1 * 3 + 2, none⟩ = some l' ∧ ReIs w0 b s' l' := hre.part (i := 1) (p := b) rfl
  obtain ⟨bb, off, cap, s', l', rfl, hb, k0, k1, k2, hra⟩ := hpart
  obtain ⟨bb2, off2, cap2, s2, l2, e2, _, k3, k4, k5, hrb⟩ := hpart2
  simp only [Value.slice.injEq, Option.some.injEq, Addr.mk.injEq, true_and, and_true] at e2
  obtain ⟨⟨rfl, rfl⟩, rfl⟩ := e2
  obtain ⟨⟨o3, q3, rfl⟩, ⟨o4, q4, rfl⟩⟩ := hra.form
  obtain ⟨⟨o5, q5, rfl⟩, ⟨o6, q6, rfl⟩⟩ := hrb.form
  obtain ⟨x, hx⟩ : ∃ x, Nf.pt a n F = x := ⟨_, rfl⟩
  obtain ⟨y, hy⟩ : ∃ y, Nf.pt b x.2.1 x.2.2 = y := ⟨_, rfl⟩
  have hok := Nf.pt_ok a.size a (Nat.le_refl _) hpa n F hn
  rw [hx] at hok
  have hok2 := Nf.pt_ok b.size b (Nat.le_refl _) hpb x.2.1 x.2.2 (by rw [hok.nxt]; omega)
  rw [hy] at hok2
  rw [Nf.pt_alt s a b n F x y hx hy]
  have hca := Nat.le_trans (Nf.sts_size a.size a (Nat.le_refl _) hpa) (show a.size ≤ 60 by omega)
  have hrowx := hok.row L hL
  have hsq := Nat.mul_le_mul_left a.size (sq60 hca)
  have hcb := Nat.le_trans (Nf.sts_size b.size b (Nat.le_refl _) hpb) (show b.size ≤ 60 by omega)
  have hn1 := hok.nxt
  have hlen1 := hok.len
  have hia := fun (W : World) (hW : Below w.heap.size w W) (w' : World) (hw : Below W.heap.size W w') => aft_a ih hsa hpa (by omega) hra (h.moved hW) hn (by omega) hL (by rw [Nat.add_mul, Nat.add_mul] at hLs; omega) w' hw
  rw [hx] at hia
  have hib := fun (W w1 : World) (vs1 : List Value) (hps : PS w0 w1 fb qn pb vs1 x.2.2 x.2.1) (w' : World) (hw : Below w1.heap.size w1 w') => aft_a (L := L + a.size * 3600) ih hsb hpb (by omega) hrb hps (by rw [hn1]; omega) (by rw [hn1, hlen1]; omega) (fun r hr => Nat.le_trans (hrowx r hr) (by omega)) (by rw [Nat.add_mul, Nat.add_mul] at hLs; omega) w' hw
  rw [hy] at hib
  have c0 := fun (w' : World) (hw : Below w0.heap.size w0 w') => (hw.cell (p := ⟨bb, off, none⟩) hb).trans (by simpa using k0)
  have c1 := fun (w' : World) (hw : Below w0.heap.size w0 w') => (hw.cell (p := ⟨bb, off + 1, none⟩) hb).trans (by simpa using k1)
  have c2 := fun (w' : World) (hw : Below w0.heap.size w0 w') => (hw.cell (p := ⟨bb, off + 2, none⟩) hb).trans (by simpa using k2)
  have c3 := fun (w' : World) (hw : Below w0.heap.size w0 w') => (hw.cell (p := ⟨bb, off + 3, none⟩) hb).trans (by simpa using k3)
  have c4 := fun (w' : World) (hw : Below w0.heap.size w0 w') => (hw.cell (p := ⟨bb, off + 4, none⟩) hb).trans (by simpa using k4)
  have c5 := fun (w' : World) (hw : Below w0.heap.size w0 w') => (hw.cell (p := ⟨bb, off + 5, none⟩) hb).trans (by simpa using k5)
  have HS : Hid (∀ w' : World, Below w0.heap.size w0 w' → w'.cell? ⟨w.heap.size, 2, none⟩ = some (.slice (some ⟨bb, off, none⟩) 2 cap) → S7 w.heap.size bb off cap a.kind b.kind (.slice o3 a.set.length q3) (.slice o4 a.parts.length q4) (.slice o5 b.set.length q5) (.slice o6 b.parts.length q6) w') := Lib.hid fun w' hw h2 => ⟨h2, c0 w' hw, c1 w' hw, c2 w' hw, c3 w' hw, c4 w' hw, c5 w' hw⟩
  have H := Lib.hid h
  have HOK := Lib.hid hok
  have HOK2 := Lib.hid hok2
  have HIA := Lib.hid hia
  have HIB := Lib.hid hib
  clear h hok hok2 hrowx hia hib hx hy hre hra hrb k0 k1 k2 k3 k4 k5 hL c0 c1 c2 c3 c4 c5
  go_enter Tryz.func30, Tryz.ntmps30
  go_wp2_with fail
  obtain ⟨W, hW⟩ : ∃ W, (w.alloc (.cells #[.int .i64 4, .slice o1 s.length q1, .slice (some ⟨bb, off, none⟩) 2 cap] 41)).alloc (.cells #[.bool false, .slice none 0 0, .slice none 0 0] 62) = W := ⟨_, rfl⟩
  have hbW : Below w.heap.size w W := by rw [← hW]; exact bel_new (bel_new (Below.refl _ _) _) _
  have hsW : W.heap.size = w.heap.size + 2 := by rw [← hW]; simp
  have h6 : W.heap[w.heap.size + 1]? = some (.cells #[.bool false, .slice none 0 0, .slice none 0 0] 62 (0, 0)) := by
    rw [← hW]
    have := World.alloc_heap_new (w.alloc (.cells #[.int .i64 4, .slice o1 s.length q1, .slice (some ⟨bb, off, none⟩) 2 cap] 41)) (.cells #[.bool false, .slice none 0 0, .slice none 0 0] 62)
    rwa [World.size_alloc] at this
  have h5 : W.heap[w.heap.size]? = some (.cells #[.int .i64 4, .slice o1 s.length q1, .slice (some ⟨bb, off, none⟩) 2 cap] 41 (0, 0)) := by
    rw [← hW]; exact bel_get (bel_new (Below.refl _ _) _) (World.alloc_heap_new w _)
  rw [hW]
  clear hW
  have hql : qn < w.heap.size := (Array.getElem?_eq_some_iff.1 H.out.box).1
  have HSW := Lib.hid fun (w' : World) (hw : Below W.heap.size W w') => HS.out w' (H.out.bel.trans ((hbW.trans (hw.mono (by omega))).mono H.out.bel.size)) (part_cells (bel_get hw h5)).2.2
  have HSA := Lib.hid fun (w1 : World) (vs1 : List Value) (F1 : List (List Int)) (n1 : Int) (hps : PS w0 w1 fb qn pb vs1 F1 n1) (htr : Tr fb qn W vs w1 vs1) (w' : World) (hw : Below w1.heap.size w1 w') => HS.out w' (hps.bel.trans (hw.mono hps.bel.size))
    (part_cells (bel_get hw (show w1.heap[w.heap.size]? = _ by rw [htr.ag.block _ (by omega) ⟨fun hin => by have := (inF_lt H.out.fol hin).1; omega, by omega⟩]; exact h5))).2.2
  have HBW := Lib.hid (And.intro hbW (And.intro h6 h5))
  clear hbW h6 h5
  have HSJ : Hid (∀ (c : Nat) (q1 q2 : Bool) (s9 s10 r1 r2 : Value) (p9 p10 : Nat) (w' : World), c ≤ 2 → G22 (C22 w0 W fb qn pb vs x y) W fb c q1 q2 s9 s10 r1 r2 p9 p10 w' → S7 w.heap.size bb off cap a.kind b.kind (.slice o3 a.set.length q3) (.slice o4 a.parts.length q4) (.slice o5 b.set.length q5) (.slice o6 b.parts.length q6) w') := Lib.hid (by
    intro c q1 q2 s9 s10 r1 r2 p9 p10 w' hc hG
    obtain ⟨wc, vc, D, hC, hb, _⟩ := hG.st
    obtain rfl | rfl | rfl : c = 0 ∨ c = 1 ∨ c = 2 := by omega
    · exact HSW.out w' hG.zero
    · obtain ⟨_, _, _, _, _, _, hA, _⟩ := hC.2.1 rfl
      exact HSA.out wc vc _ _ hA.ps hA.tr w' hb
    · obtain ⟨_, _, _, _, _, _, _, _, _, _, _, _, _, _, hT⟩ := hC.2.2 rfl
      exact HSA.out wc vc _ _ hT.ps hT.tr w' hb)
  go_cut [9, 10] from 48 (fun s9 s10 wx => ∃ (p9 p10 : Nat) (vc : List Value) (D : Nat → Prop) (f1 l1 f2 l2 : Value) (lo1 hi1 lo2 hi2 : Nat), s9 = .pointer (some ⟨p9, 0, none⟩) ∧ s10 = .pointer (some ⟨p10, 0, none⟩) ∧ W.heap.size ≤ p9 ∧ W.heap.size ≤ p10 ∧ ¬ (inF vc fb p9 ∨ D p9) ∧ ¬ (inF vc fb p10 ∨ D p10) ∧ wx.heap[p9]? = some (.cells #[.bool x.1.1, f1, l1] 62 (0, 0)) ∧ wx.heap[p10]? = some (.cells #[.bool y.1.1, f2, l2] 62 (0, 0)) ∧ Two w0 W fb qn pb vs x y wx vc D f1 l1 f2 l2 lo1 hi1 lo2 hi2)
  case first =>
    refine wp_region_held_drew (S := fun w' => S7 w.heap.size bb off cap a.kind b.kind (.slice o3 a.set.length q3) (.slice o4 a.parts.length q4) (.slice o5 b.set.length q5) (.slice o6 b.parts.length q6) w') (by kernel_rfl) (HSW.out _ (Below.refl _ _).drew) (fun hS => ?_)
    refine wpAnyH_take (i := 0) (v := ?_) rfl (by kernel_rfl) (by kernel_rfl) (by kernel_rfl) (fun _ _ _ h => h) (Or.inl ⟨by rfl, ?_⟩) hS ?_
    rotate_left
    · intro w' hSw
      obtain ⟨k0, k1, k2, k3, k4, k5, k6⟩ := hSw
      go_simp
      try with_reducible rfl
    try simp only [Act.put, T22, List.setIfInBounds_toArray, List.set_cons_zero, List.set_cons_succ, List.getElem_toArray, List.getElem_cons_succ, List.getElem_cons_zero]
    refine wpAnyH_take (i := 1) (v := ?_) rfl (by kernel_rfl) (by kernel_rfl) (by kernel_rfl) (fun _ _ _ h => h) (Or.inl ⟨by rfl, ?_⟩) hS ?_
    rotate_left
    · intro w' hSw
      obtain ⟨k0, k1, k2, k3, k4, k5, k6⟩ := hSw
      go_simp
      try with_reducible rfl
    try simp only [Act.put, T22, List.setIfInBounds_toArray, List.set_cons_zero, List.set_cons_succ, List.getElem_toArray, List.getElem_cons_succ, List.getElem_cons_zero]
    refine wpAnyH_take (i := 2) (v := ?_) rfl (by kernel_rfl) (by kernel_rfl) (by kernel_rfl) (fun _ _ _ h => h) (Or.inl ⟨by rfl, ?_⟩) hS ?_
    rotate_left
    · intro w' hSw
      obtain ⟨k0, k1, k2, k3, k4, k5, k6⟩ := hSw
      go_simp
      try with_reducible rfl
    try simp only [Act.put, T22, List.setIfInBounds_toArray, List.set_cons_zero, List.set_cons_succ, List.getElem_toArray, List.getElem_cons_succ, List.getElem_cons_zero]
    refine wpAnyH_take (i := 3) (v := ?_) rfl (by kernel_rfl) (by kernel_rfl) (by kernel_rfl) (fun _ _ _ h => h) (Or.inl ⟨by rfl, ?_⟩) hS ?_
    rotate_left
    · intro w' hSw
      obtain ⟨k0, k1, k2, k3, k4, k5, k6⟩ := hSw
      go_simp
      try with_reducible rfl
    try simp only [Act.put, T22, List.setIfInBounds_toArray, List.set_cons_zero, List.set_cons_succ, List.getElem_toArray, List.getElem_cons_succ, List.getElem_cons_zero]
    refine wpAnyH_take (i := 4) (v := ?_) rfl (by kernel_rfl) (by kernel_rfl) (by kernel_rfl) (fun _ _ _ h => h) (Or.inl ⟨by rfl, ?_⟩) hS ?_
    rotate_left
    · intro w' hSw
      obtain ⟨k0, k1, k2, k3, k4, k5, k6⟩ := hSw
      go_simp
      try with_reducible rfl
    try simp only [Act.put, T22, List.setIfInBounds_toArray, List.set_cons_zero, List.set_cons_succ, List.getElem_toArray, List.getElem_cons_succ, List.getElem_cons_zero]
    refine wpAnyH_take (i := 5) (v := ?_) rfl (by kernel_rfl) (by kernel_rfl) (by kernel_rfl) (fun _ _ _ h => h) (Or.inl ⟨by rfl, ?_⟩) hS ?_
    rotate_left
    · intro w' hSw
      obtain ⟨k0, k1, k2, k3, k4, k5, k6⟩ := hSw
      go_simp
      try with_reducible rfl
    try simp only [Act.put, T22, List.setIfInBounds_toArray, List.set_cons_zero, List.set_cons_succ, List.getElem_toArray, List.getElem_cons_succ, List.getElem_cons_zero]
    refine wpAnyH_take (i := 7) (v := ?_) rfl (by kernel_rfl) (by kernel_rfl) (by kernel_rfl) (fun _ _ _ h => h) (Or.inl ⟨by rfl, ?_⟩) hS ?_
    rotate_left
    · intro w' hSw
      obtain ⟨k0, k1, k2, k3, k4, k5, k6⟩ := hSw
      go_simp
      try with_reducible rfl
    try simp only [Act.put, T22, List.setIfInBounds_toArray, List.set_cons_zero, List.set_cons_succ, List.getElem_toArray, List.getElem_cons_succ, List.getElem_cons_zero]
    refine wpAnyH_take (i := 8) (v := ?_) rfl (by kernel_rfl) (by kernel_rfl) (by kernel_rfl) (fun _ _ _ h => h) (Or.inl ⟨by rfl, ?_⟩) hS ?_
    rotate_left
    · intro w' hSw
      obtain ⟨k0, k1, k2, k3, k4, k5, k6⟩ := hSw
      go_simp
      try with_reducible rfl
    try simp only [Act.put, T22, List.setIfInBounds_toArray, List.set_cons_zero, List.set_cons_succ, List.getElem_toArray, List.getElem_cons_succ, List.getElem_cons_zero]
    refine wpAnyH_take (i := 9) (v := ?_) rfl (by kernel_rfl) (by kernel_rfl) (by kernel_rfl) (fun _ _ _ h => h) (Or.inl ⟨by rfl, ?_⟩) hS ?_
    rotate_left
    · intro w' hSw
      obtain ⟨k0, k1, k2, k3, k4, k5, k6⟩ := hSw
      go_simp
      try with_reducible rfl
    try simp only [Act.put, T22, List.setIfInBounds_toArray, List.set_cons_zero, List.set_cons_succ, List.getElem_toArray, List.getElem_cons_succ, List.getElem_cons_zero]
    refine wpAnyH_take (i := 10) (v := ?_) rfl (by kernel_rfl) (by kernel_rfl) (by kernel_rfl) (fun _ _ _ h => h) (Or.inl ⟨by rfl, ?_⟩) hS ?_
    rotate_left
    · intro w' hSw
      obtain ⟨k0, k1, k2, k3, k4, k5, k6⟩ := hSw
      go_simp
      try with_reducible rfl
    try simp only [Act.put, T22, List.setIfInBounds_toArray, List.set_cons_zero, List.set_cons_succ, List.getElem_toArray, List.getElem_cons_succ, List.getElem_cons_zero]
    refine wpAnyH_take (i := 11) (v := ?_) rfl (by kernel_rfl) (by kernel_rfl) (by kernel_rfl) (fun _ _ _ h => h) (Or.inl ⟨by rfl, ?_⟩) hS ?_
    rotate_left
    · intro w' hSw
      obtain ⟨k0, k1, k2, k3, k4, k5, k6⟩ := hSw
      go_simp
      try with_reducible rfl
    try simp only [Act.put, T22, List.setIfInBounds_toArray, List.set_cons_zero, List.set_cons_succ, List.getElem_toArray, List.getElem_cons_succ, List.getElem_cons_zero]
    refine wpAnyH_take (i := 12) (v := ?_) rfl (by kernel_rfl) (by kernel_rfl) (by kernel_rfl) (fun _ _ _ h => h) (Or.inl ⟨by rfl, ?_⟩) hS ?_
    rotate_left
    · intro w' hSw
      obtain ⟨k0, k1, k2, k3, k4, k5, k6⟩ := hSw
      go_simp
      try with_reducible rfl
    try simp only [Act.put, T22, List.setIfInBounds_toArray, List.set_cons_zero, List.set_cons_succ, List.getElem_toArray, List.getElem_cons_succ, List.getElem_cons_zero]
    refine reg22 9 10 54 61 w0 W fb qn pb vs x y (by kernel_rfl) rfl ?hb (Below.refl _ _).drew ?hi ?hr ?h0 ?h1 ?hx ?hy ?hend
    case hb => simp only [T22, List.setIfInBounds_toArray, List.set_cons_zero, List.set_cons_succ]
    case hi => intro j hj; have := (inF_lt H.out.fol hj).1; omega
    case hr =>
      intro c hc q1 q2 h
      obtain rfl | rfl | rfl : c = 0 ∨ c = 1 ∨ c = 2 := by omega
      all_goals (cases q1 <;> cases q2 <;> (first | (exfalso; simp at h; done) | kernel_rfl))
    case h0 =>
      rintro q1 q2 a wq ⟨s9, s10, r1, r2, p9, p10, rfl, hG⟩
      simp only [Act.put, T22, List.setIfInBounds_toArray, List.set_cons_zero, List.set_cons_succ, List.getElem_toArray, List.getElem_cons_succ, List.getElem_cons_zero]
      refine wpOp_step rfl (fun K hK => ?_)
      replace hK := Lib.hid hK
      go_simp
      go_at_call 30
      refine (HIA.out W HBW.out.1 wq hG.zero).mono ?_
      rintro e w2 ⟨of, cf, ol, cl, vs1, rfl, hA, htr⟩
      refine hK.out _ _ ⟨HSA.out w2 vs1 _ _ hA.ps hA.tr w2 (Below.refl _ _), ?_⟩
      exact ⟨s9, s10, _, r2, p9, p10, by simp only [Act.put, T22, List.setIfInBounds_toArray, List.set_cons_zero, List.set_cons_succ, List.getElem_toArray, List.getElem_cons_succ, List.getElem_cons_zero], hG.first (by omega) hA htr⟩
    case h1 =>
      rintro q1 q2 a wq ⟨s9, s10, r1, r2, p9, p10, rfl, hG⟩
      obtain ⟨wc, vc, D, hC, g2, g3, g4, g5, g6⟩ := hG.st
      obtain ⟨of, cf, ol, cl, lo, rfl, hA, hD⟩ := hC.2.1 rfl
      simp only [Act.put, T22, List.setIfInBounds_toArray, List.set_cons_zero, List.set_cons_succ, List.getElem_toArray, List.getElem_cons_succ, List.getElem_cons_zero]
      refine wpOp_step rfl (fun K hK => ?_)
      replace hK := Lib.hid hK
      go_simp
      go_at_call 30
      refine (HIB.out W wc vc hA.ps wq g2).mono ?_
      rintro e w2 ⟨of2, cf2, ol2, cl2, vs2, rfl, hB, htr⟩
      have hG2 := G22.second (r2 := r2) g2 g4 g5 g6 hG.x1 hG.y1 hG.xy hD (show qn < W.heap.size by omega) hA hB htr
      exact hK.out _ _ ⟨HSJ.out 2 _ _ _ _ _ _ _ _ _ (by omega) hG2, ⟨s9, s10, _, _, p9, p10, by simp only [Act.put, T22, List.setIfInBounds_toArray, List.set_cons_zero, List.set_cons_succ, List.getElem_toArray, List.getElem_cons_succ, List.getElem_cons_zero], hG2⟩⟩
    case hx =>
      rintro c q2 a wq hc ⟨s9, s10, r1, r2, p9, p10, rfl, hG⟩
      simp only [Act.put, T22, List.setIfInBounds_toArray, List.set_cons_zero, List.set_cons_succ, List.getElem_toArray, List.getElem_cons_succ, List.getElem_cons_zero]
      refine wpOp_step rfl (fun K hK => ?_)
      replace hK := Lib.hid hK
      go_simp
      exact hK.out _ _ ⟨HSJ.out c _ _ _ _ _ _ _ _ _ hc hG.newx, ⟨_, s10, r1, r2, _, p10, by simp only [Act.put, T22, List.setIfInBounds_toArray, List.set_cons_zero, List.set_cons_succ, List.getElem_toArray, List.getElem_cons_succ, List.getElem_cons_zero], hG.newx⟩⟩
    case hy =>
      rintro c q1 a wq hc ⟨s9, s10, r1, r2, p9, p10, rfl, hG⟩
      simp only [Act.put, T22, List.setIfInBounds_toArray, List.set_cons_zero, List.set_cons_succ, List.getElem_toArray, List.getElem_cons_succ, List.getElem_cons_zero]
      refine wpOp_step rfl (fun K hK => ?_)
      replace hK := Lib.hid hK
      go_simp
      exact hK.out _ _ ⟨HSJ.out c _ _ _ _ _ _ _ _ _ hc hG.newy, ⟨s9, _, r1, r2, p9, _, by simp only [Act.put, T22, List.setIfInBounds_toArray, List.set_cons_zero, List.set_cons_succ, List.getElem_toArray, List.getElem_cons_succ, List.getElem_cons_zero], hG.newy⟩⟩
    case hend =>
      rintro a wq ⟨s9, s10, r1, r2, p9, p10, rfl, hG⟩
      obtain ⟨wc, vc, D, hC, g2, g3, g4, g5, g6⟩ := hG.st
      obtain ⟨of, cf, ol, cl, of2, cf2, ol2, cl2, lo1, hi1, lo2, hi2, rfl, rfl, hT⟩ := hC.2.2 rfl
      obtain ⟨rfl, b9, n9⟩ := hG.x1 rfl
      obtain ⟨rfl, b10, n10⟩ := hG.y1 rfl
      have exy := hG.xy rfl rfl
      have hT2 := hT.moved (show qn < W.heap.size by omega) g2
      have g5' := g5 rfl
      have g6' := g6 rfl
      have HT2 := Lib.hid hT2
      have HGG := Lib.hid hG
      clear hG hC hT hT2 g3 g5 g6
      simp only [Act.put, T22, List.setIfInBounds_toArray, List.set_cons_zero, List.set_cons_succ, List.getElem_toArray, List.getElem_cons_succ, List.getElem_cons_zero]
      obtain ⟨d0, d1, d2⟩ := part_cells n9
      obtain ⟨z0, z1, z2⟩ := part_froz n9
      refine wpAnyH_ready (rs := [16]) (by kernel_rfl) (by simp) ?_
      refine AllReadyH.cons rfl (fun K hK => ?_) AllReadyH.nil
      replace hK := Lib.hid hK
      go_simp
      have hWq : qn < W.heap.size := by omega
      have hWp : pb < W.heap.size := by have := H.out.pl; omega
      have hWl : w0.heap.size ≤ W.heap.size := by have := H.out.bel.size; omega
      have hT3 := ((HT2.out.set b9 g5' hWq hWp hWl 0 (.bool x.1.1)).set b9 g5' hWq hWp hWl 1 (.slice of x.1.2.1.length cf)).set b9 g5' hWq hWp hWl 2 (.slice ol x.1.2.2.length cl)
      have m9 := set3_at n9 (.bool x.1.1) (.slice of x.1.2.1.length cf) (.slice ol x.1.2.2.length cl)
      have m10 := (set3_else (w := wq) (show p10 ≠ p9 from fun e => exy e.symm) (.bool x.1.1) (.slice of x.1.2.1.length cf) (.slice ol x.1.2.2.length cl)).trans n10
      refine hK.out _ _ (HSA.out _ vc _ _ hT3.ps hT3.tr _ (Below.refl _ _)) (fun _ => ?_)
      clear hK K d0 d1 d2 z0 z1 z2
      try simp only [Act.put, T22, List.setIfInBounds_toArray, List.set_cons_zero, List.set_cons_succ, List.getElem_toArray, List.getElem_cons_succ, List.getElem_cons_zero]
      obtain ⟨X1, hX1⟩ : ∃ X1, X1 = ((wq.setCell ⟨p9, 0, none⟩ (.bool x.1.1)).setCell ⟨p9, 1, none⟩ (.slice of x.1.2.1.length cf)).setCell ⟨p9, 2, none⟩ (.slice ol x.1.2.2.length cl) := ⟨_, rfl⟩
      rw [← hX1] at hT3 m9 m10 ⊢
      have HT3 := Lib.hid hT3
      clear hX1 hT3 n9 n10
      obtain ⟨d0, d1, d2⟩ := part_cells m10
      obtain ⟨z0, z1, z2⟩ := part_froz m10
      refine wpAnyH_ready (rs := [17]) (by kernel_rfl) (by simp) ?_
      refine AllReadyH.cons rfl (fun K hK => ?_) AllReadyH.nil
      replace hK := Lib.hid hK
      go_simp
      have hT4 := ((HT3.out.set b10 g6' hWq hWp hWl 0 (.bool y.1.1)).set b10 g6' hWq hWp hWl 1 (.slice of2 y.1.2.1.length cf2)).set b10 g6' hWq hWp hWl 2 (.slice ol2 y.1.2.2.length cl2)
      have n10 := set3_at m10 (.bool y.1.1) (.slice of2 y.1.2.1.length cf2) (.slice ol2 y.1.2.2.length cl2)
      have n9 := (set3_else (w := X1) exy (.bool y.1.1) (.slice of2 y.1.2.1.length cf2) (.slice ol2 y.1.2.2.length cl2)).trans m9
      refine hK.out _ _ (HSA.out _ vc _ _ hT4.ps hT4.tr _ (Below.refl _ _)) (fun _ => ?_)
      clear hK K d0 d1 d2 z0 z1 z2
      try simp only [Act.put, T22, List.setIfInBounds_toArray, List.set_cons_zero, List.set_cons_succ, List.getElem_toArray, List.getElem_cons_succ, List.getElem_cons_zero]
      obtain ⟨X2, hX2⟩ : ∃ X2, X2 = ((X1.setCell ⟨p10, 0, none⟩ (.bool y.1.1)).setCell ⟨p10, 1, none⟩ (.slice of2 y.1.2.1.length cf2)).setCell ⟨p10, 2, none⟩ (.slice ol2 y.1.2.2.length cl2) := ⟨_, rfl⟩
      rw [← hX2] at hT4 n9 n10 ⊢
      have HT4 := Lib.hid hT4
      clear hX2 hT4 m9 m10
      refine wpAnyH_done (by kernel_rfl) ?_ _
      go_wp2_with fail
      go_meet
      case rel => exact ⟨p9, p10, vc, D, _, _, _, _, lo1, hi1, lo2, hi2, rfl, rfl, b9, b10, g5', g6', n9, n10, HT4.out⟩
  case rest =>
    obtain ⟨p9, p10, vc, D, f1, l1, f2, l2, lo1, hi1, lo2, hi2, rfl, rfl, b9, b10, g5, g6, n9, n10, hT⟩ := hcut
    obtain ⟨q, hq⟩ : ∃ q, q = x.1.1 := ⟨_, rfl⟩
    rw [← hq] at n9
    have HQ := Lib.hid hq
    have b6 : W.heap[w.heap.size + 1]? = some (.cells #[.bool false, .slice none 0 0, .slice none 0 0] 62 (0, 0)) := HBW.out.2.1
    have hWc : W.heap.size ≤ wc.heap.size := hT.tr.ag.size
    have hnin : ¬ inF vc fb (w.heap.size + 1) := fun hin => by
      rcases hT.tr.new _ hin with h4 | h4
      · have := (inF_lt H.out.fol h4).1; omega
      · omega
    have b6c : wc.heap[w.heap.size + 1]? = some (.cells #[.bool false, .slice none 0 0, .slice none 0 0] 62 (0, 0)) := by
      rw [hT.tr.ag.block _ (by omega) ⟨fun hin => by have := (inF_lt H.out.fol hin).1; omega, by omega⟩]; exact b6
    obtain ⟨of1, cf1, e1⟩ := hT.f1.row.formI
    obtain ⟨ol1, cl1, e2⟩ := hT.l1.row.formI
    obtain ⟨of2, cf2, e3⟩ := hT.f2.row.formI
    obtain ⟨ol2, cl2, e4⟩ := hT.l2.row.formI
    subst e1 e2 e3 e4
    have HS6 := Lib.hid fun (w' : World) (hw : Below wc.heap.size wc w') => (show S6 p9 p10 q y.1.1 _ _ _ _ w' from ⟨part_cells (bel_get hw n9), part_cells (bel_get hw n10)⟩)
    have HT := Lib.hid hT
    have HN := Lib.hid (And.intro n9 n10)
    have hca1 := HOK.out.fl
    have hca2 := HOK.out.ll
    have hcb1 := HOK2.out.fl
    have hcb2 := HOK2.out.ll
    clear hT n9 n10 hq b6
    cases q
    · go_wp2_with fail
      refine wp_region_held_drew (S := fun w' => S6 p9 p10 false y.1.1 (.slice of1 x.1.2.1.length cf1) (.slice ol1 x.1.2.2.length cl1) (.slice of2 y.1.2.1.length cf2) (.slice ol2 y.1.2.2.length cl2) w') (by kernel_rfl) (HS6.out _ (Below.refl _ _).drew) (fun hS => ?_)
      refine wpAnyH_take (i := 0) (v := ?_) rfl (by kernel_rfl) (by kernel_rfl) (by kernel_rfl) (fun _ _ _ h => h) (Or.inl ⟨by rfl, ?_⟩) hS ?_
      rotate_left
      · intro w' hSw
        obtain ⟨⟨k0, k1, k2⟩, k3, k4, k5⟩ := hSw
        go_simp
        try with_reducible rfl
      try simp only [Act.put, T22, List.setIfInBounds_toArray, List.set_cons_zero, List.set_cons_succ, List.getElem_toArray, List.getElem_cons_succ, List.getElem_cons_zero]
      refine wpAnyH_take (i := 1) (v := ?_) rfl (by kernel_rfl) (by kernel_rfl) (by kernel_rfl) (fun _ _ _ h => h) (Or.inl ⟨by rfl, ?_⟩) hS ?_
      rotate_left
      · intro w' hSw
        obtain ⟨⟨k0, k1, k2⟩, k3, k4, k5⟩ := hSw
        go_simp
        try with_reducible rfl
      try simp only [Act.put, T22, List.setIfInBounds_toArray, List.set_cons_zero, List.set_cons_succ, List.getElem_toArray, List.getElem_cons_succ, List.getElem_cons_zero]
      refine wpAnyH_take (i := 2) (v := ?_) rfl (by kernel_rfl) (by kernel_rfl) (by kernel_rfl) (fun _ _ _ h => h) (Or.inl ⟨by rfl, ?_⟩) hS ?_
      rotate_left
      · intro w' hSw
        obtain ⟨⟨k0, k1, k2⟩, k3, k4, k5⟩ := hSw
        go_simp
        try with_reducible rfl
      try simp only [Act.put, T22, List.setIfInBounds_toArray, List.set_cons_zero, List.set_cons_succ, List.getElem_toArray, List.getElem_cons_succ, List.getElem_cons_zero]
      refine wpAnyH_take (i := 3) (v := ?_) rfl (by kernel_rfl) (by kernel_rfl) (by kernel_rfl) (fun _ _ _ h => h) (Or.inl ⟨by rfl, ?_⟩) hS ?_
      rotate_left
      · intro w' hSw
        obtain ⟨⟨k0, k1, k2⟩, k3, k4, k5⟩ := hSw
        go_simp
        try with_reducible rfl
      try simp only [Act.put, T22, List.setIfInBounds_toArray, List.set_cons_zero, List.set_cons_succ, List.getElem_toArray, List.getElem_cons_succ, List.getElem_cons_zero]
      refine wpAnyH_take (i := 4) (v := ?_) rfl (by kernel_rfl) (by kernel_rfl) (by kernel_rfl) (fun _ _ _ h => h) (Or.inl ⟨by rfl, ?_⟩) hS ?_
      rotate_left
      · intro w' hSw
        obtain ⟨⟨k0, k1, k2⟩, k3, k4, k5⟩ := hSw
        go_simp
        try with_reducible rfl
      try simp only [Act.put, T22, List.setIfInBounds_toArray, List.set_cons_zero, List.set_cons_succ, List.getElem_toArray, List.getElem_cons_succ, List.getElem_cons_zero]
      refine wpAnyH_take (i := 5) (v := ?_) rfl (by kernel_rfl) (by kernel_rfl) (by kernel_rfl) (fun _ _ _ h => h) (Or.inl ⟨by rfl, ?_⟩) hS ?_
      rotate_left
      · intro w' hSw
        obtain ⟨⟨k0, k1, k2⟩, k3, k4, k5⟩ := hSw
        go_simp
        try with_reducible rfl
      try simp only [Act.put, T22, List.setIfInBounds_toArray, List.set_cons_zero, List.set_cons_succ, List.getElem_toArray, List.getElem_cons_succ, List.getElem_cons_zero]
      refine wpAnyH_take (i := 6) (v := ?_) rfl (by kernel_rfl) (by kernel_rfl) (by kernel_rfl) (fun _ _ _ h => h) (Or.inl ⟨by rfl, ?_⟩) hS ?_
      rotate_left
      · intro w' hSw
        obtain ⟨⟨k0, k1, k2⟩, k3, k4, k5⟩ := hSw
        go_simp
        try with_reducible rfl
      try simp only [Act.put, T22, List.setIfInBounds_toArray, List.set_cons_zero, List.set_cons_succ, List.getElem_toArray, List.getElem_cons_succ, List.getElem_cons_zero]
      refine wpAnyH_take (i := 7) (v := ?_) rfl (by kernel_rfl) (by kernel_rfl) (by kernel_rfl) (fun _ _ _ h => h) (Or.inl ⟨by rfl, ?_⟩) hS ?_
      rotate_left
      · intro w' hSw
        obtain ⟨⟨k0, k1, k2⟩, k3, k4, k5⟩ := hSw
        go_simp
        try with_reducible rfl
      try simp only [Act.put, T22, List.setIfInBounds_toArray, List.set_cons_zero, List.set_cons_succ, List.getElem_toArray, List.getElem_cons_succ, List.getElem_cons_zero]
      refine wpAnyH_take (i := 8) (v := ?_) rfl (by kernel_rfl) (by kernel_rfl) (by kernel_rfl) (fun _ _ _ h => h) (Or.inl ⟨by rfl, ?_⟩) hS ?_
      rotate_left
      · intro w' hSw
        obtain ⟨⟨k0, k1, k2⟩, k3, k4, k5⟩ := hSw
        go_simp
        try with_reducible rfl
      try simp only [Act.put, T22, List.setIfInBounds_toArray, List.set_cons_zero, List.set_cons_succ, List.getElem_toArray, List.getElem_cons_succ, List.getElem_cons_zero]
      refine wpAnyH_take (i := 9) (v := ?_) rfl (by kernel_rfl) (by kernel_rfl) (by kernel_rfl) (fun _ _ _ h => h) (Or.inl ⟨by rfl, ?_⟩) hS ?_
      rotate_left
      · intro w' hSw
        obtain ⟨⟨k0, k1, k2⟩, k3, k4, k5⟩ := hSw
        go_simp
        try with_reducible rfl
      try simp only [Act.put, T22, List.setIfInBounds_toArray, List.set_cons_zero, List.set_cons_succ, List.getElem_toArray, List.getElem_cons_succ, List.getElem_cons_zero]
      refine wpAnyH_take (i := 12) (v := ?_) rfl (by kernel_rfl) (by kernel_rfl) (by kernel_rfl) (fun _ _ _ h => h) (Or.inl ⟨by rfl, ?_⟩) hS ?_
      rotate_left
      · intro w' hSw
        obtain ⟨⟨k0, k1, k2⟩, k3, k4, k5⟩ := hSw
        go_simp
        try with_reducible rfl
      try simp only [Act.put, T22, List.setIfInBounds_toArray, List.set_cons_zero, List.set_cons_succ, List.getElem_toArray, List.getElem_cons_succ, List.getElem_cons_zero]
      refine wpAnyH_take (i := 13) (v := ?_) rfl (by kernel_rfl) (by kernel_rfl) (by kernel_rfl) (fun _ _ _ h => h) (Or.inl ⟨by rfl, ?_⟩) hS ?_
      rotate_left
      · intro w' hSw
        obtain ⟨⟨k0, k1, k2⟩, k3, k4, k5⟩ := hSw
        go_simp
        try with_reducible rfl
      try simp only [Act.put, T22, List.setIfInBounds_toArray, List.set_cons_zero, List.set_cons_succ, List.getElem_toArray, List.getElem_cons_succ, List.getElem_cons_zero]
      refine wpAnyH_take (i := 14) (v := ?_) rfl (by kernel_rfl) (by kernel_rfl) (by kernel_rfl) (fun _ _ _ h => h) (Or.inl ⟨by rfl, ?_⟩) hS ?_
      rotate_left
      · intro w' hSw
        obtain ⟨⟨k0, k1, k2⟩, k3, k4, k5⟩ := hSw
        go_simp
        try with_reducible rfl
      try simp only [Act.put, T22, List.setIfInBounds_toArray, List.set_cons_zero, List.set_cons_succ, List.getElem_toArray, List.getElem_cons_succ, List.getElem_cons_zero]
      refine wpAnyH_take (i := 15) (v := ?_) rfl (by kernel_rfl) (by kernel_rfl) (by kernel_rfl) (fun _ _ _ h => h) (Or.inl ⟨by rfl, ?_⟩) hS ?_
      rotate_left
      · intro w' hSw
        obtain ⟨⟨k0, k1, k2⟩, k3, k4, k5⟩ := hSw
        go_simp
        try with_reducible rfl
      try simp only [Act.put, T22, List.setIfInBounds_toArray, List.set_cons_zero, List.set_cons_succ, List.getElem_toArray, List.getElem_cons_succ, List.getElem_cons_zero]
      refine reg44 wc (.slice of1 x.1.2.1.length cf1) (.slice of2 y.1.2.1.length cf2) (.slice ol1 x.1.2.2.length cl1) (.slice ol2 y.1.2.2.length cl2) (x.1.2.1 ++ y.1.2.1) (x.1.2.2 ++ y.1.2.2) (by kernel_rfl) rfl ?hb (Below.refl _ _).drew ?hr ?h0 ?h1 ?h2 ?h3 ?hend
      case hb => exact ⟨u72, u73, u78, u79, by simp only [T22, List.setIfInBounds_toArray, List.set_cons_zero, List.set_cons_succ]⟩
      case hr =>
        intro i j hi hj hij h
        obtain rfl | rfl | rfl : i = 0 ∨ i = 1 ∨ i = 2 := by omega
        all_goals (obtain rfl | rfl | rfl : j = 0 ∨ j = 1 ∨ j = 2 := by omega)
        all_goals (first | (exfalso; omega) | kernel_rfl)
      case h0 =>
        rintro j a wq hj ⟨s1, t1, s2, t2, g1, g2, rfl, hG⟩
        simp only [Act.put, T22, List.setIfInBounds_toArray, List.set_cons_zero, List.set_cons_succ, List.getElem_toArray, List.getElem_cons_succ, List.getElem_cons_zero]
        refine wpOp_step rfl (fun K hK => ?_)
        replace hK := Lib.hid hK
        go_simp
        exact hK.out _ _ ⟨HS6.out _ hG.lay1.bel, ⟨_, t1, s2, t2, _, g2, by simp only [Act.put, T22, List.setIfInBounds_toArray, List.set_cons_zero, List.set_cons_succ, List.getElem_toArray, List.getElem_cons_succ, List.getElem_cons_zero], hG.lay1⟩⟩
      case h1 =>
        rintro j a wq hj ⟨s1, t1, s2, t2, g1, g2, rfl, hG⟩
        obtain ⟨rfl, hg⟩ := hG.a1 (by omega)
        simp only [Act.put, T22, List.setIfInBounds_toArray, List.set_cons_zero, List.set_cons_succ, List.getElem_toArray, List.getElem_cons_succ, List.getElem_cons_zero]
        refine wpOp_step rfl (fun K hK => ?_)
        replace hK := Lib.hid hK
        go_simp
        go_at_call 56
        have hrx := ((HT.out.moved (show qn < W.heap.size by omega) hG.bel).f1).row
        have hry := ((HT.out.moved (show qn < W.heap.size by omega) hG.bel).f2).row
        refine (concatI_any x.1.2.1 y.1.2.1 _ _ g1 wq hrx hry (by omega) (by omega) (by simp only [World.cell?, hg]; rfl) (by simp only [World.cell?, hg]; rfl)).mono ?_
        rintro e w2 ⟨u, rfl, hu, hb⟩
        exact hK.out _ _ ⟨HS6.out _ (hG.call1 hb hu).bel, ⟨_, _, s2, t2, g1, g2, by simp only [Act.put, T22, List.setIfInBounds_toArray, List.set_cons_zero, List.set_cons_succ, List.getElem_toArray, List.getElem_cons_succ, List.getElem_cons_zero], hG.call1 hb hu⟩⟩
      case h2 =>
        rintro i a wq hi ⟨s1, t1, s2, t2, g1, g2, rfl, hG⟩
        simp only [Act.put, T22, List.setIfInBounds_toArray, List.set_cons_zero, List.set_cons_succ, List.getElem_toArray, List.getElem_cons_succ, List.getElem_cons_zero]
        refine wpOp_step rfl (fun K hK => ?_)
        replace hK := Lib.hid hK
        go_simp
        exact hK.out _ _ ⟨HS6.out _ hG.lay2.bel, ⟨s1, t1, _, t2, g1, _, by simp only [Act.put, T22, List.setIfInBounds_toArray, List.set_cons_zero, List.set_cons_succ, List.getElem_toArray, List.getElem_cons_succ, List.getElem_cons_zero], hG.lay2⟩⟩
      case h3 =>
        rintro a wq ⟨s1, t1, s2, t2, g1, g2, rfl, hG⟩
        obtain ⟨rfl, hg⟩ := hG.b1 (by omega)
        simp only [Act.put, T22, List.setIfInBounds_toArray, List.set_cons_zero, List.set_cons_succ, List.getElem_toArray, List.getElem_cons_succ, List.getElem_cons_zero]
        refine wpOp_step rfl (fun K hK => ?_)
        replace hK := Lib.hid hK
        go_simp
        go_at_call 56
        have hrx := ((HT.out.moved (show qn < W.heap.size by omega) hG.bel).l1).row
        have hry := ((HT.out.moved (show qn < W.heap.size by omega) hG.bel).l2).row
        refine (concatI_any x.1.2.2 y.1.2.2 _ _ g2 wq hrx hry (by omega) (by omega) (by simp only [World.cell?, hg]; rfl) (by simp only [World.cell?, hg]; rfl)).mono ?_
        rintro e w2 ⟨u, rfl, hu, hb⟩
        exact hK.out _ _ ⟨HS6.out _ (hG.call2 hb hu).bel, ⟨s1, t1, _, _, g1, g2, by simp only [Act.put, T22, List.setIfInBounds_toArray, List.set_cons_zero, List.set_cons_succ, List.getElem_toArray, List.getElem_cons_succ, List.getElem_cons_zero], hG.call2 hb hu⟩⟩
      case hend =>
        rintro a wq ⟨s1, t1, s2, t2, g1, g2, rfl, hG⟩
        obtain ⟨⟨o7, q7, e7⟩, hr1⟩ := hG.a2 (by omega)
        obtain ⟨⟨o8, q8, e8⟩, hr2⟩ := hG.b2 (by omega)
        obtain ⟨n7, hn7⟩ : ∃ n7, n7 = (x.1.2.1 ++ y.1.2.1).length := ⟨_, rfl⟩
        obtain ⟨n8, hn8⟩ : ∃ n8, n8 = (x.1.2.2 ++ y.1.2.2).length := ⟨_, rfl⟩
        rw [← hn7] at e7
        rw [← hn8] at e8
        subst e7 e8
        have HN78 := Lib.hid (And.intro hn7 hn8)
        clear hn7 hn8
        have hbel := hG.bel
        clear hG
        simp only [Act.put, T22, List.setIfInBounds_toArray, List.set_cons_zero, List.set_cons_succ, List.getElem_toArray, List.getElem_cons_succ, List.getElem_cons_zero]
        have b6q := bel_get hbel b6c
        obtain ⟨d0, d1, d2⟩ := part_cells b6q
        obtain ⟨z0, z1, z2⟩ := part_froz b6q
        have HR := Lib.hid (And.intro hr1 hr2)
        have HBq := Lib.hid (And.intro hbel b6q)
        clear hr1 hr2 hbel b6q
        refine wpAnyH_take (i := 18) (v := ?_) rfl (by kernel_rfl) (by kernel_rfl) (by kernel_rfl) (fun _ _ _ h => h) (Or.inl ⟨by rfl, ?_⟩) (HS6.out _ HBq.out.1) ?_
        rotate_left
        · intro w' hSw; go_simp; try with_reducible rfl
        try simp only [Act.put, T22, List.setIfInBounds_toArray, List.set_cons_zero, List.set_cons_succ, List.getElem_toArray, List.getElem_cons_succ, List.getElem_cons_zero]
        refine wpAnyH_ready (rs := [19]) (by kernel_rfl) (by simp) ?_
        refine AllReadyH.cons rfl (fun K hK => ?_) AllReadyH.nil
        replace hK := Lib.hid hK
        go_simp
        have hne9 : p9 ≠ w.heap.size + 1 := by omega
        have hne10 : p10 ≠ w.heap.size + 1 := by omega
        have hfin := set3_at HBq.out.2 (.bool y.1.1) (.slice o7 n7 q7) (.slice o8 n8 q8)
        refine hK.out _ _ ⟨part_cells ((set3_else hne9 _ _ _).trans (bel_get HBq.out.1 HN.out.1)), part_cells ((set3_else hne10 _ _ _).trans (bel_get HBq.out.1 HN.out.2))⟩ (fun _ => ?_)
        clear hK K d0 d1 d2 z0 z1 z2
        try simp only [Act.put, T22, List.setIfInBounds_toArray, List.set_cons_zero, List.set_cons_succ, List.getElem_toArray, List.getElem_cons_succ, List.getElem_cons_zero]
        obtain ⟨X3, hX3⟩ : ∃ X3, X3 = ((wq.setCell ⟨w.heap.size + 1, 0, none⟩ (.bool y.1.1)).setCell ⟨w.heap.size + 1, 1, none⟩ (.slice o7 n7 q7)).setCell ⟨w.heap.size + 1, 2, none⟩ (.slice o8 n8 q8) := ⟨_, rfl⟩
        rw [← hX3] at hfin ⊢
        have HX3 := Lib.hid hX3
        clear hX3
        obtain ⟨f0, f1, f2⟩ := part_cells hfin
        refine wpAnyH_done (by kernel_rfl) ?_ _
        go_wp2_with fail
        simp [bodyPost, results, Tryz.results30, go_sem, f0, f1, f2]
        rw [← HQ.out]
        refine ⟨_, _, ⟨by simp, rfl, rfl⟩, ?_⟩
        have hTq := HT.out.moved (show qn < W.heap.size by omega) HBq.out.1
        have hlow := H.out.low
        have hpl := H.out.pl
        have hbs := H.out.bel.size
        have hrp1 : PRw wq W.heap.size wq.heap.size fb vc (.slice o7 n7 q7) (x.1.2.1 ++ y.1.2.1) := PRw.own HR.out.1 HT.out.ps.fol (Nat.le_refl _) hWc rfl
        have hrp2 : PRw wq W.heap.size wq.heap.size fb vc (.slice o8 n8 q8) (x.1.2.2 ++ y.1.2.2) := PRw.own HR.out.2 HT.out.ps.fol (Nat.le_refl _) hWc rfl
        rw [HX3.out]
        refine PPost.of (vs1 := vc) (((hTq.ps.set (by omega) (by omega) hnin (by omega) _ _).set (by omega) (by omega) hnin (by omega) _ _).set (by omega) (by omega) hnin (by omega) _ _) ?_ ?_ ?_
        · exact (((((Tr.old HBW.out.1).trans hTq.tr).set (by omega) _ _).set (by omega) _ _).set (by omega) _ _)
        · exact (((hrp1.set (.inl (by omega)) _ _).set (.inl (by omega)) _ _).set (.inl (by omega)) _ _).wide (by omega) (by simp [World.setCell]) (Nat.le_refl _)
        · exact (((hrp2.set (.inl (by omega)) _ _).set (.inl (by omega)) _ _).set (.inl (by omega)) _ _).wide (by omega) (by simp [World.setCell]) (Nat.le_refl _)
    · go_wp2_with fail
      refine wp_region_held_drew (S := fun w' => S6 p9 p10 true y.1.1 (.slice of1 x.1.2.1.length cf1) (.slice ol1 x.1.2.2.length cl1) (.slice of2 y.1.2.1.length cf2) (.slice ol2 y.1.2.2.length cl2) w') (by kernel_rfl) (HS6.out _ (Below.refl _ _).drew) (fun hS => ?_)
      refine wpAnyH_take (i := 0) (v := ?_) rfl (by kernel_rfl) (by kernel_rfl) (by kernel_rfl) (fun _ _ _ h => h) (Or.inl ⟨by rfl, ?_⟩) hS ?_
      rotate_left
      · intro w' hSw
        obtain ⟨⟨k0, k1, k2⟩, k3, k4, k5⟩ := hSw
        go_simp
        try with_reducible rfl
      try simp only [Act.put, T22, List.setIfInBounds_toArray, List.set_cons_zero, List.set_cons_succ, List.getElem_toArray, List.getElem_cons_succ, List.getElem_cons_zero]
      refine wpAnyH_take (i := 1) (v := ?_) rfl (by kernel_rfl) (by kernel_rfl) (by kernel_rfl) (fun _ _ _ h => h) (Or.inl ⟨by rfl, ?_⟩) hS ?_
      rotate_left
      · intro w' hSw
        obtain ⟨⟨k0, k1, k2⟩, k3, k4, k5⟩ := hSw
        go_simp
        try with_reducible rfl
      try simp only [Act.put, T22, List.setIfInBounds_toArray, List.set_cons_zero, List.set_cons_succ, List.getElem_toArray, List.getElem_cons_succ, List.getElem_cons_zero]
      refine wpAnyH_take (i := 2) (v := ?_) rfl (by kernel_rfl) (by kernel_rfl) (by kernel_rfl) (fun _ _ _ h => h) (Or.inl ⟨by rfl, ?_⟩) hS ?_
      rotate_left
      · intro w' hSw
        obtain ⟨⟨k0, k1, k2⟩, k3, k4, k5⟩ := hSw
        go_simp
        try with_reducible rfl
      try simp only [Act.put, T22, List.setIfInBounds_toArray, List.set_cons_zero, List.set_cons_succ, List.getElem_toArray, List.getElem_cons_succ, List.getElem_cons_zero]
      refine wpAnyH_take (i := 3) (v := undef) rfl (by kernel_rfl) (by kernel_rfl) (by kernel_rfl) (fun _ _ _ h => h) (Or.inr ⟨by rfl, rfl⟩) hS ?_
      try simp only [Act.put, T22, List.setIfInBounds_toArray, List.set_cons_zero, List.set_cons_succ, List.getElem_toArray, List.getElem_cons_succ, List.getElem_cons_zero]
      refine wpAnyH_take (i := 4) (v := undef) rfl (by kernel_rfl) (by kernel_rfl) (by kernel_rfl) (fun _ _ _ h => h) (Or.inr ⟨by rfl, rfl⟩) hS ?_
      try simp only [Act.put, T22, List.setIfInBounds_toArray, List.set_cons_zero, List.set_cons_succ, List.getElem_toArray, List.getElem_cons_succ, List.getElem_cons_zero]
      refine wpAnyH_take (i := 5) (v := ?_) rfl (by kernel_rfl) (by kernel_rfl) (by kernel_rfl) (fun _ _ _ h => h) (Or.inl ⟨by rfl, ?_⟩) hS ?_
      rotate_left
      · intro w' hSw
        obtain ⟨⟨k0, k1, k2⟩, k3, k4, k5⟩ := hSw
        go_simp
        try with_reducible rfl
      try simp only [Act.put, T22, List.setIfInBounds_toArray, List.set_cons_zero, List.set_cons_succ, List.getElem_toArray, List.getElem_cons_succ, List.getElem_cons_zero]
      refine wpAnyH_take (i := 6) (v := ?_) rfl (by kernel_rfl) (by kernel_rfl) (by kernel_rfl) (fun _ _ _ h => h) (Or.inl ⟨by rfl, ?_⟩) hS ?_
      rotate_left
      · intro w' hSw
        obtain ⟨⟨k0, k1, k2⟩, k3, k4, k5⟩ := hSw
        go_simp
        try with_reducible rfl
      try simp only [Act.put, T22, List.setIfInBounds_toArray, List.set_cons_zero, List.set_cons_succ, List.getElem_toArray, List.getElem_cons_succ, List.getElem_cons_zero]
      refine wpAnyH_take (i := 7) (v := ?_) rfl (by kernel_rfl) (by kernel_rfl) (by kernel_rfl) (fun _ _ _ h => h) (Or.inl ⟨by rfl, ?_⟩) hS ?_
      rotate_left
      · intro w' hSw
        obtain ⟨⟨k0, k1, k2⟩, k3, k4, k5⟩ := hSw
        go_simp
        try with_reducible rfl
      try simp only [Act.put, T22, List.setIfInBounds_toArray, List.set_cons_zero, List.set_cons_succ, List.getElem_toArray, List.getElem_cons_succ, List.getElem_cons_zero]
      refine wpAnyH_take (i := 8) (v := ?_) rfl (by kernel_rfl) (by kernel_rfl) (by kernel_rfl) (fun _ _ _ h => h) (Or.inl ⟨by rfl, ?_⟩) hS ?_
      rotate_left
      · intro w' hSw
        obtain ⟨⟨k0, k1, k2⟩, k3, k4, k5⟩ := hSw
        go_simp
        try with_reducible rfl
      try simp only [Act.put, T22, List.setIfInBounds_toArray, List.set_cons_zero, List.set_cons_succ, List.getElem_toArray, List.getElem_cons_succ, List.getElem_cons_zero]
      refine wpAnyH_take (i := 9) (v := ?_) rfl (by kernel_rfl) (by kernel_rfl) (by kernel_rfl) (fun _ _ _ h => h) (Or.inl ⟨by rfl, ?_⟩) hS ?_
      rotate_left
      · intro w' hSw
        obtain ⟨⟨k0, k1, k2⟩, k3, k4, k5⟩ := hSw
        go_simp
        try with_reducible rfl
      try simp only [Act.put, T22, List.setIfInBounds_toArray, List.set_cons_zero, List.set_cons_succ, List.getElem_toArray, List.getElem_cons_succ, List.getElem_cons_zero]
      refine wpAnyH_take (i := 12) (v := ?_) rfl (by kernel_rfl) (by kernel_rfl) (by kernel_rfl) (fun _ _ _ h => h) (Or.inl ⟨by rfl, ?_⟩) hS ?_
      rotate_left
      · intro w' hSw
        obtain ⟨⟨k0, k1, k2⟩, k3, k4, k5⟩ := hSw
        go_simp
        try with_reducible rfl
      try simp only [Act.put, T22, List.setIfInBounds_toArray, List.set_cons_zero, List.set_cons_succ, List.getElem_toArray, List.getElem_cons_succ, List.getElem_cons_zero]
      refine wpAnyH_take (i := 13) (v := ?_) rfl (by kernel_rfl) (by kernel_rfl) (by kernel_rfl) (fun _ _ _ h => h) (Or.inl ⟨by rfl, ?_⟩) hS ?_
      rotate_left
      · intro w' hSw
        obtain ⟨⟨k0, k1, k2⟩, k3, k4, k5⟩ := hSw
        go_simp
        try with_reducible rfl
      try simp only [Act.put, T22, List.setIfInBounds_toArray, List.set_cons_zero, List.set_cons_succ, List.getElem_toArray, List.getElem_cons_succ, List.getElem_cons_zero]
      refine wpAnyH_take (i := 14) (v := ?_) rfl (by kernel_rfl) (by kernel_rfl) (by kernel_rfl) (fun _ _ _ h => h) (Or.inl ⟨by rfl, ?_⟩) hS ?_
      rotate_left
      · intro w' hSw
        obtain ⟨⟨k0, k1, k2⟩, k3, k4, k5⟩ := hSw
        go_simp
        try with_reducible rfl
      try simp only [Act.put, T22, List.setIfInBounds_toArray, List.set_cons_zero, List.set_cons_succ, List.getElem_toArray, List.getElem_cons_succ, List.getElem_cons_zero]
      refine wpAnyH_take (i := 15) (v := ?_) rfl (by kernel_rfl) (by kernel_rfl) (by kernel_rfl) (fun _ _ _ h => h) (Or.inl ⟨by rfl, ?_⟩) hS ?_
      rotate_left
      · intro w' hSw
        obtain ⟨⟨k0, k1, k2⟩, k3, k4, k5⟩ := hSw
        go_simp
        try with_reducible rfl
      try simp only [Act.put, T22, List.setIfInBounds_toArray, List.set_cons_zero, List.set_cons_succ, List.getElem_toArray, List.getElem_cons_succ, List.getElem_cons_zero]
      refine reg44 wc (.slice of1 x.1.2.1.length cf1) (.slice of2 y.1.2.1.length cf2) (.slice ol1 x.1.2.2.length cl1) (.slice ol2 y.1.2.2.length cl2) (x.1.2.1 ++ y.1.2.1) (x.1.2.2 ++ y.1.2.2) (by kernel_rfl) rfl ?hb (Below.refl _ _).drew ?hr ?h0 ?h1 ?h2 ?h3 ?hend
      case hb => exact ⟨u72, u73, u78, u79, by simp only [T22, List.setIfInBounds_toArray, List.set_cons_zero, List.set_cons_succ]⟩
      case hr =>
        intro i j hi hj hij h
        obtain rfl | rfl | rfl : i = 0 ∨ i = 1 ∨ i = 2 := by omega
        all_goals (obtain rfl | rfl | rfl : j = 0 ∨ j = 1 ∨ j = 2 := by omega)
        all_goals (first | (exfalso; omega) | kernel_rfl)
      case h0 =>
        rintro j a wq hj ⟨s1, t1, s2, t2, g1, g2, rfl, hG⟩
        simp only [Act.put, T22, List.setIfInBounds_toArray, List.set_cons_zero, List.set_cons_succ, List.getElem_toArray, List.getElem_cons_succ, List.getElem_cons_zero]
        refine wpOp_step rfl (fun K hK => ?_)
        replace hK := Lib.hid hK
        go_simp
        exact hK.out _ _ ⟨HS6.out _ hG.lay1.bel, ⟨_, t1, s2, t2, _, g2, by simp only [Act.put, T22, List.setIfInBounds_toArray, List.set_cons_zero, List.set_cons_succ, List.getElem_toArray, List.getElem_cons_succ, List.getElem_cons_zero], hG.lay1⟩⟩
      case h1 =>
        rintro j a wq hj ⟨s1, t1, s2, t2, g1, g2, rfl, hG⟩
        obtain ⟨rfl, hg⟩ := hG.a1 (by omega)
        simp only [Act.put, T22, List.setIfInBounds_toArray, List.set_cons_zero, List.set_cons_succ, List.getElem_toArray, List.getElem_cons_succ, List.getElem_cons_zero]
        refine wpOp_step rfl (fun K hK => ?_)
        replace hK := Lib.hid hK
        go_simp
        go_at_call 56
        have hrx := ((HT.out.moved (show qn < W.heap.size by omega) hG.bel).f1).row
        have hry := ((HT.out.moved (show qn < W.heap.size by omega) hG.bel).f2).row
        refine (concatI_any x.1.2.1 y.1.2.1 _ _ g1 wq hrx hry (by omega) (by omega) (by simp only [World.cell?, hg]; rfl) (by simp only [World.cell?, hg]; rfl)).mono ?_
        rintro e w2 ⟨u, rfl, hu, hb⟩
        exact hK.out _ _ ⟨HS6.out _ (hG.call1 hb hu).bel, ⟨_, _, s2, t2, g1, g2, by simp only [Act.put, T22, List.setIfInBounds_toArray, List.set_cons_zero, List.set_cons_succ, List.getElem_toArray, List.getElem_cons_succ, List.getElem_cons_zero], hG.call1 hb hu⟩⟩
      case h2 =>
        rintro i a wq hi ⟨s1, t1, s2, t2, g1, g2, rfl, hG⟩
        simp only [Act.put, T22, List.setIfInBounds_toArray, List.set_cons_zero, List.set_cons_succ, List.getElem_toArray, List.getElem_cons_succ, List.getElem_cons_zero]
        refine wpOp_step rfl (fun K hK => ?_)
        replace hK := Lib.hid hK
        go_simp
        exact hK.out _ _ ⟨HS6.out _ hG.lay2.bel, ⟨s1, t1, _, t2, g1, _, by simp only [Act.put, T22, List.setIfInBounds_toArray, List.set_cons_zero, List.set_cons_succ, List.getElem_toArray, List.getElem_cons_succ, List.getElem_cons_zero], hG.lay2⟩⟩
      case h3 =>
        rintro a wq ⟨s1, t1, s2, t2, g1, g2, rfl, hG⟩
        obtain ⟨rfl, hg⟩ := hG.b1 (by omega)
        simp only [Act.put, T22, List.setIfInBounds_toArray, List.set_cons_zero, List.set_cons_succ, List.getElem_toArray, List.getElem_cons_succ, List.getElem_cons_zero]
        refine wpOp_step rfl (fun K hK => ?_)
        replace hK := Lib.hid hK
        go_simp
        go_at_call 56
        have hrx := ((HT.out.moved (show qn < W.heap.size by omega) hG.bel).l1).row
        have hry := ((HT.out.moved (show qn < W.heap.size by omega) hG.bel).l2).row
        refine (concatI_any x.1.2.2 y.1.2.2 _ _ g2 wq hrx hry (by omega) (by omega) (by simp only [World.cell?, hg]; rfl) (by simp only [World.cell?, hg]; rfl)).mono ?_
        rintro e w2 ⟨u, rfl, hu, hb⟩
        exact hK.out _ _ ⟨HS6.out _ (hG.call2 hb hu).bel, ⟨s1, t1, _, _, g1, g2, by simp only [Act.put, T22, List.setIfInBounds_toArray, List.set_cons_zero, List.set_cons_succ, List.getElem_toArray, List.getElem_cons_succ, List.getElem_cons_zero], hG.call2 hb hu⟩⟩
      case hend =>
        rintro a wq ⟨s1, t1, s2, t2, g1, g2, rfl, hG⟩
        obtain ⟨⟨o7, q7, e7⟩, hr1⟩ := hG.a2 (by omega)
        obtain ⟨⟨o8, q8, e8⟩, hr2⟩ := hG.b2 (by omega)
        obtain ⟨n7, hn7⟩ : ∃ n7, n7 = (x.1.2.1 ++ y.1.2.1).length := ⟨_, rfl⟩
        obtain ⟨n8, hn8⟩ : ∃ n8, n8 = (x.1.2.2 ++ y.1.2.2).length := ⟨_, rfl⟩
        rw [← hn7] at e7
        rw [← hn8] at e8
        subst e7 e8
        have HN78 := Lib.hid (And.intro hn7 hn8)
        clear hn7 hn8
        have hbel := hG.bel
        clear hG
        simp only [Act.put, T22, List.setIfInBounds_toArray, List.set_cons_zero, List.set_cons_succ, List.getElem_toArray, List.getElem_cons_succ, List.getElem_cons_zero]
        have b6q := bel_get hbel b6c
        obtain ⟨d0, d1, d2⟩ := part_cells b6q
        obtain ⟨z0, z1, z2⟩ := part_froz b6q
        have HR := Lib.hid (And.intro hr1 hr2)
        have HBq := Lib.hid (And.intro hbel b6q)
        clear hr1 hr2 hbel b6q
        refine wpAnyH_take (i := 18) (v := ?_) rfl (by kernel_rfl) (by kernel_rfl) (by kernel_rfl) (fun _ _ _ h => h) (Or.inl ⟨by rfl, ?_⟩) (HS6.out _ HBq.out.1) ?_
        rotate_left
        · intro w' hSw; go_simp; try with_reducible rfl
        try simp only [Act.put, T22, List.setIfInBounds_toArray, List.set_cons_zero, List.set_cons_succ, List.getElem_toArray, List.getElem_cons_succ, List.getElem_cons_zero]
        refine wpAnyH_ready (rs := [19]) (by kernel_rfl) (by simp) ?_
        refine AllReadyH.cons rfl (fun K hK => ?_) AllReadyH.nil
        replace hK := Lib.hid hK
        go_simp
        have hne9 : p9 ≠ w.heap.size + 1 := by omega
        have hne10 : p10 ≠ w.heap.size + 1 := by omega
        have hfin := set3_at HBq.out.2 (.bool true) (.slice o7 n7 q7) (.slice o8 n8 q8)
        refine hK.out _ _ ⟨part_cells ((set3_else hne9 _ _ _).trans (bel_get HBq.out.1 HN.out.1)), part_cells ((set3_else hne10 _ _ _).trans (bel_get HBq.out.1 HN.out.2))⟩ (fun _ => ?_)
        clear hK K d0 d1 d2 z0 z1 z2
        try simp only [Act.put, T22, List.setIfInBounds_toArray, List.set_cons_zero, List.set_cons_succ, List.getElem_toArray, List.getElem_cons_succ, List.getElem_cons_zero]
        obtain ⟨X3, hX3⟩ : ∃ X3, X3 = ((wq.setCell ⟨w.heap.size + 1, 0, none⟩ (.bool true)).setCell ⟨w.heap.size + 1, 1, none⟩ (.slice o7 n7 q7)).setCell ⟨w.heap.size + 1, 2, none⟩ (.slice o8 n8 q8) := ⟨_, rfl⟩
        rw [← hX3] at hfin ⊢
        have HX3 := Lib.hid hX3
        clear hX3
        obtain ⟨f0, f1, f2⟩ := part_cells hfin
        refine wpAnyH_done (by kernel_rfl) ?_ _
        go_wp2_with fail
        simp [bodyPost, results, Tryz.results30, go_sem, f0, f1, f2]
        rw [← HQ.out]
        refine ⟨_, _, ⟨by simp, rfl, rfl⟩, ?_⟩
        have hTq := HT.out.moved (show qn < W.heap.size by omega) HBq.out.1
        have hlow := H.out.low
        have hpl := H.out.pl
        have hbs := H.out.bel.size
        have hrp1 : PRw wq W.heap.size wq.heap.size fb vc (.slice o7 n7 q7) (x.1.2.1 ++ y.1.2.1) := PRw.own HR.out.1 HT.out.ps.fol (Nat.le_refl _) hWc rfl
        have hrp2 : PRw wq W.heap.size wq.heap.size fb vc (.slice o8 n8 q8) (x.1.2.2 ++ y.1.2.2) := PRw.own HR.out.2 HT.out.ps.fol (Nat.le_refl _) hWc rfl
        rw [HX3.out]
        refine PPost.of (vs1 := vc) (((hTq.ps.set (by omega) (by omega) hnin (by omega) _ _).set (by omega) (by omega) hnin (by omega) _ _).set (by omega) (by omega) hnin (by omega) _ _) ?_ ?_ ?_
        · exact (((((Tr.old HBW.out.1).trans hTq.tr).set (by omega) _ _).set (by omega) _ _).set (by omega) _ _)
        · exact (((hrp1.set (.inl (by omega)) _ _).set (.inl (by omega)) _ _).set (.inl (by omega)) _ _).wide (by omega) (by simp [World.setCell]) (Nat.le_refl _)
        · exact (((hrp2.set (.inl (by omega)) _ _).set (.inl (by omega)) _ _).set (.inl (by omega)) _ _).wide (by omega) (by simp [World.setCell]) (Nat.le_refl _)
end Go.Proofs.YtmgfpcblbbpahaaGreat
