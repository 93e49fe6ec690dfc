/- Tint: the walk of TintMixes. -/
import Derived.Test.YtdpnpfgejfhcgaaTintReg
set_option linter.unusedVariables false
set_option linter.unusedSimpArgs false
namespace Go.Proofs.Ytdpnpfgejfhcgaa
open Go.RowKit Fl

set_option maxRecDepth 100000 in
set_option maxHeartbeats 40000000 in
theorem tintMixes_try (r g b r' g' b' t : Nat) (hr : r < 2 * S) (hg : g < 2 * S) (hb : b < 2 * S) (hr' : r' < 2 * S) (hg' : g' < 2 * S) (hb' : b' < 2 * S) (ht : t < 2 * S) (hn : ¬ INF < rung t) (h0 : ¬ sval t ≤ 0) (h1 : ¬ (val ONE : Int) ≤ sval t) (w : World) :
    Calls Try.prog 6 #[.agg #[.float .f64 r, .float .f64 g, .float .f64 b], .agg #[.float .f64 r', .float .f64 g', .float .f64 b'], .float .f64 t] w fun e w' => e = .returned (.bool true) ∧ Below w.heap.size w w' := by
  have e1 := n_eq hn
  have e2 : (FloatKind.f64.format.order t 0 == some .lt) = false := by rw [f_nought_lt hn]; simp only [decide_eq_false_iff_not]; omega
  have e3 : (FloatKind.f64.format.order t 0 == some .eq) = false := by rw [f_nought_eq hn]; simp only [decide_eq_false_iff_not]; omega
  have e4 : (FloatKind.f64.format.order t 4607182418800017408 == some .gt) = false := by rw [f_one_gt hn]; simp only [decide_eq_false_iff_not]; omega
  have e5 : (FloatKind.f64.format.order t 4607182418800017408 == some .eq) = false := by rw [f_one_eq hn]; simp only [decide_eq_false_iff_not]; omega
  go_enter Try.func6, Try.ntmps6
  go_wp2_with fail
  refine (mix_any r g b r' g' b' t hr hg hb hr' hg' hb' ht _).mono ?_
  rintro e w1 ⟨rfl, hb1⟩
  have k0 : w1.cell? ⟨w.heap.size, 0, none⟩ = some (.float .f64 r) := cell_later hb1 (by simp [go_sem])
  have k1 : w1.cell? ⟨w.heap.size, 1, none⟩ = some (.float .f64 g) := cell_later hb1 (by simp [go_sem])
  have k2 : w1.cell? ⟨w.heap.size, 2, none⟩ = some (.float .f64 b) := cell_later hb1 (by simp [go_sem])
  have k3 : w1.cell? ⟨w.heap.size + 1, 0, none⟩ = some (.float .f64 r') := cell_later hb1 (by simp [go_sem])
  have k4 : w1.cell? ⟨w.heap.size + 1, 1, none⟩ = some (.float .f64 g') := cell_later hb1 (by simp [go_sem])
  have k5 : w1.cell? ⟨w.heap.size + 1, 2, none⟩ = some (.float .f64 b') := cell_later hb1 (by simp [go_sem])
  have z0 : w.heap.size + 1 < w1.heap.size := by have h := hb1.size; simp at h; omega
  have hww : Below w.heap.size w w1 := ((Below.refl _ _).alloc (Nat.le_refl _) _).alloc (by simp) _ |>.trans (hb1.mono (by simp; omega))
  go_upto_region 6 with fail
  obtain ⟨W0, hW0⟩ : ∃ W0, W0 = w1.alloc (.cells #[.float .f64 (tmix r r' t), .float .f64 (tmix g g' t), .float .f64 (tmix b b' t)] 24) := ⟨_, rfl⟩
  rw [← hW0]
  have HW0 : Hid (Below w.heap.size w W0 ∧ w1.heap.size < W0.heap.size ∧ (∀ i v, w1.cell? ⟨w.heap.size, i, none⟩ = some v → W0.cell? ⟨w.heap.size, i, none⟩ = some v) ∧ (∀ i v, w1.cell? ⟨w.heap.size + 1, i, none⟩ = some v → W0.cell? ⟨w.heap.size + 1, i, none⟩ = some v) ∧ W0.cell? ⟨w1.heap.size, 0, none⟩ = some (.float .f64 (tmix r r' t)) ∧ W0.cell? ⟨w1.heap.size, 1, none⟩ = some (.float .f64 (tmix g g' t)) ∧ W0.cell? ⟨w1.heap.size, 2, none⟩ = some (.float .f64 (tmix b b' t))) := Lib.hid (by
    subst hW0
    refine ⟨hww.alloc hww.size _, by simp, fun i v h => cell_later ((Below.refl _ _).alloc (Nat.le_refl _) _) h, fun i v h => cell_later ((Below.refl _ _).alloc (Nat.le_refl _) _) h, ?_, ?_, ?_⟩ <;> simp [go_sem])
  have c0 := HW0.out.2.2.1 0 _ k0
  have c1 := HW0.out.2.2.1 1 _ k1
  have c2 := HW0.out.2.2.1 2 _ k2
  have c3 := HW0.out.2.2.2.1 0 _ k3
  have c4 := HW0.out.2.2.2.1 1 _ k4
  have c5 := HW0.out.2.2.2.1 2 _ k5
  clear hW0 k0 k1 k2 k3 k4 k5 hww hb1
  go_cut [8, 9, 10] from 39 (fun s8 s9 s10 wx => ∃ xx yy ff : Nat, s8 = .pointer (some ⟨xx, 0, none⟩) ∧ s9 = .pointer (some ⟨yy, 0, none⟩) ∧ s10 = .pointer (some ⟨ff, 0, none⟩) ∧ wx.cell? ⟨xx, 0, none⟩ = some (.float .f64 (tpart r)) ∧ wx.cell? ⟨xx, 1, none⟩ = some (.float .f64 (tpart g)) ∧ wx.cell? ⟨xx, 2, none⟩ = some (.float .f64 (tpart b)) ∧ wx.cell? ⟨yy, 0, none⟩ = some (.float .f64 (tpart r')) ∧ wx.cell? ⟨yy, 1, none⟩ = some (.float .f64 (tpart g')) ∧ wx.cell? ⟨yy, 2, none⟩ = some (.float .f64 (tpart b')) ∧ wx.cell? ⟨ff, 0, none⟩ = some (.float .f64 (tpart r)) ∧ wx.cell? ⟨ff, 1, none⟩ = some (.float .f64 (tpart g)) ∧ wx.cell? ⟨ff, 2, none⟩ = some (.float .f64 (tpart b)) ∧ wx.cell? ⟨w1.heap.size, 0, none⟩ = some (.float .f64 (tmix r r' t)) ∧ wx.cell? ⟨w1.heap.size, 1, none⟩ = some (.float .f64 (tmix g g' t)) ∧ wx.cell? ⟨w1.heap.size, 2, none⟩ = some (.float .f64 (tmix b b' t)) ∧ Below w.heap.size w wx)
  case first =>
    refine wp_region_held_drew (S := fun w' => Below W0.heap.size W0 w') (by kernel_rfl) (Below.refl _ _).drew (fun hS => ?_)
    refine wpAnyH_take (i := 0) (v := ?_) rfl (by kernel_rfl) (by kernel_rfl) (by kernel_rfl) (fun _ _ _ h => h) (Or.inl ⟨by rfl, ?_⟩) hS ?_
    rotate_left
    · intro w' hSw
      have k0 := cell_later hSw c0
      have k1 := cell_later hSw c1
      have k2 := cell_later hSw c2
      go_simp
      try with_reducible rfl
    try simp only [Act.put, T33, List.setIfInBounds_toArray, List.set_cons_zero, List.set_cons_succ, List.getElem_toArray, List.getElem_cons_succ, List.getElem_cons_zero]
    refine wpAnyH_take (i := 2) (v := ?_) rfl (by kernel_rfl) (by kernel_rfl) (by kernel_rfl) (fun _ _ _ h => h) (Or.inl ⟨by rfl, ?_⟩) hS ?_
    rotate_left
    · intro w' hSw
      have k0 := cell_later hSw c3
      have k1 := cell_later hSw c4
      have k2 := cell_later hSw c5
      go_simp
      try with_reducible rfl
    try simp only [Act.put, T33, List.setIfInBounds_toArray, List.set_cons_zero, List.set_cons_succ, List.getElem_toArray, List.getElem_cons_succ, List.getElem_cons_zero]
    refine wpAnyH_take (i := 4) (v := ?_) rfl (by kernel_rfl) (by kernel_rfl) (by kernel_rfl) (fun _ _ _ h => h) (Or.inl ⟨by rfl, ?_⟩) hS ?_
    rotate_left
    · intro w' hSw
      have k0 := cell_later hSw c0
      have k1 := cell_later hSw c1
      have k2 := cell_later hSw c2
      go_simp
      try with_reducible rfl
    try simp only [Act.put, T33, List.setIfInBounds_toArray, List.set_cons_zero, List.set_cons_succ, List.getElem_toArray, List.getElem_cons_succ, List.getElem_cons_zero]
    refine reg33 W0 (.agg #[.float .f64 (tpart r), .float .f64 (tpart g), .float .f64 (tpart b)]) (.agg #[.float .f64 (tpart r'), .float .f64 (tpart g'), .float .f64 (tpart b')]) (by kernel_rfl) rfl ?hb hS ?hr ?h0 ?h1 ?h2 ?hx ?hy ?hz ?hend
    case hb => simp only [T33, List.setIfInBounds_toArray, List.set_cons_zero, List.set_cons_succ]
    case hr =>
      intro c hc x y z h
      obtain rfl | rfl | rfl | rfl : c = 0 ∨ c = 1 ∨ c = 2 ∨ c = 3 := by omega
      all_goals (cases x <;> cases y <;> cases z <;> (first | (exfalso; simp at h; done) | kernel_rfl))
    case h0 =>
      rintro x y z a wq ⟨s8, s9, s10, s40, s42, s44, p8, p9, p10, rfl, hG⟩
      simp only [Act.put, T33, List.setIfInBounds_toArray, List.set_cons_zero, List.set_cons_succ, List.getElem_toArray, List.getElem_cons_succ, List.getElem_cons_zero]
      refine wpOp_step rfl (fun K hK => ?_)
      replace hK := Lib.hid hK
      go_simp
      go_at_call 13
      refine (fit_any r g b hr hg hb _).mono ?_
      rintro e w2 ⟨rfl, hb2⟩
      refine hK.out _ _ ⟨?_, ?_⟩
      · exact hG.bel.trans (hb2.mono hG.bel.size)
      · exact ⟨s8, s9, s10, _, s42, s44, p8, p9, p10, by simp only [Act.put, T33, List.setIfInBounds_toArray, List.set_cons_zero, List.set_cons_succ, List.getElem_toArray, List.getElem_cons_succ, List.getElem_cons_zero], hG.call0 hb2⟩
    case h1 =>
      rintro x y z a wq ⟨s8, s9, s10, s40, s42, s44, p8, p9, p10, rfl, hG⟩
      simp only [Act.put, T33, List.setIfInBounds_toArray, List.set_cons_zero, List.set_cons_succ, List.getElem_toArray, List.getElem_cons_succ, List.getElem_cons_zero]
      refine wpOp_step rfl (fun K hK => ?_)
      replace hK := Lib.hid hK
      go_simp
      go_at_call 13
      refine (fit_any r' g' b' hr' hg' hb' _).mono ?_
      rintro e w2 ⟨rfl, hb2⟩
      refine hK.out _ _ ⟨?_, ?_⟩
      · exact hG.bel.trans (hb2.mono hG.bel.size)
      · exact ⟨s8, s9, s10, s40, _, s44, p8, p9, p10, by simp only [Act.put, T33, List.setIfInBounds_toArray, List.set_cons_zero, List.set_cons_succ, List.getElem_toArray, List.getElem_cons_succ, List.getElem_cons_zero], hG.call1 hb2⟩
    case h2 =>
      rintro x y z a wq ⟨s8, s9, s10, s40, s42, s44, p8, p9, p10, rfl, hG⟩
      simp only [Act.put, T33, List.setIfInBounds_toArray, List.set_cons_zero, List.set_cons_succ, List.getElem_toArray, List.getElem_cons_succ, List.getElem_cons_zero]
      refine wpOp_step rfl (fun K hK => ?_)
      replace hK := Lib.hid hK
      go_simp
      go_at_call 13
      refine (fit_any r g b hr hg hb _).mono ?_
      rintro e w2 ⟨rfl, hb2⟩
      refine hK.out _ _ ⟨?_, ?_⟩
      · exact hG.bel.trans (hb2.mono hG.bel.size)
      · exact ⟨s8, s9, s10, s40, s42, _, p8, p9, p10, by simp only [Act.put, T33, List.setIfInBounds_toArray, List.set_cons_zero, List.set_cons_succ, List.getElem_toArray, List.getElem_cons_succ, List.getElem_cons_zero], hG.call2 hb2⟩
    case hx =>
      rintro c y z a wq ⟨s8, s9, s10, s40, s42, s44, p8, p9, p10, rfl, hG⟩
      simp only [Act.put, T33, List.setIfInBounds_toArray, List.set_cons_zero, List.set_cons_succ, List.getElem_toArray, List.getElem_cons_succ, List.getElem_cons_zero]
      refine wpOp_step rfl (fun K hK => ?_)
      replace hK := Lib.hid hK
      go_simp
      refine hK.out _ _ ⟨?_, ?_⟩
      · exact hG.newx.bel
      · exact ⟨_, s9, s10, s40, s42, s44, _, p9, p10, by simp only [Act.put, T33, List.setIfInBounds_toArray, List.set_cons_zero, List.set_cons_succ, List.getElem_toArray, List.getElem_cons_succ, List.getElem_cons_zero], hG.newx⟩
    case hy =>
      rintro c x z a wq ⟨s8, s9, s10, s40, s42, s44, p8, p9, p10, rfl, hG⟩
      simp only [Act.put, T33, List.setIfInBounds_toArray, List.set_cons_zero, List.set_cons_succ, List.getElem_toArray, List.getElem_cons_succ, List.getElem_cons_zero]
      refine wpOp_step rfl (fun K hK => ?_)
      replace hK := Lib.hid hK
      go_simp
      refine hK.out _ _ ⟨?_, ?_⟩
      · exact hG.newy.bel
      · exact ⟨s8, _, s10, s40, s42, s44, p8, _, p10, by simp only [Act.put, T33, List.setIfInBounds_toArray, List.set_cons_zero, List.set_cons_succ, List.getElem_toArray, List.getElem_cons_succ, List.getElem_cons_zero], hG.newy⟩
    case hz =>
      rintro c x y a wq ⟨s8, s9, s10, s40, s42, s44, p8, p9, p10, rfl, hG⟩
      simp only [Act.put, T33, List.setIfInBounds_toArray, List.set_cons_zero, List.set_cons_succ, List.getElem_toArray, List.getElem_cons_succ, List.getElem_cons_zero]
      refine wpOp_step rfl (fun K hK => ?_)
      replace hK := Lib.hid hK
      go_simp
      refine hK.out _ _ ⟨?_, ?_⟩
      · exact hG.newz.bel
      · exact ⟨s8, s9, _, s40, s42, s44, p8, p9, _, by simp only [Act.put, T33, List.setIfInBounds_toArray, List.set_cons_zero, List.set_cons_succ, List.getElem_toArray, List.getElem_cons_succ, List.getElem_cons_zero], hG.newz⟩
    case hend =>
      rintro a wq ⟨s8, s9, s10, s40, s42, s44, p8, p9, p10, rfl, hG⟩
      simp only [Act.put, T33, List.setIfInBounds_toArray, List.set_cons_zero, List.set_cons_succ, List.getElem_toArray, List.getElem_cons_succ, List.getElem_cons_zero]
      obtain rfl := hG.f1 (by omega)
      obtain rfl := hG.f2 (by omega)
      obtain rfl := hG.f3 (by omega)
      obtain ⟨rfl, x1⟩ := hG.x1 rfl
      obtain ⟨rfl, y1⟩ := hG.y1 rfl
      obtain ⟨rfl, zz1⟩ := hG.z1 rfl
      have exy := hG.xy rfl rfl
      have exz := hG.xz rfl rfl
      have eyz := hG.yz rfl rfl
      have hbl := hG.bel
      have b8 := x1.1
      have b9 := y1.1
      have b10 := zz1.1
      have n8 := x1.2
      have n9 := y1.2
      have n10 := zz1.2
      have l8 := x1.lt
      have l9 := y1.lt
      have l10 := zz1.lt
      clear x1 y1 zz1 hG
      obtain ⟨⟨d0, d1, d2⟩, g0, g1, g2⟩ := cells3z n8
      refine wpAnyH_ready (rs := [9]) (by kernel_rfl) (by simp) ?_
      refine AllReadyH.cons rfl (fun K hK => ?_) AllReadyH.nil
      go_simp
      refine hK.out _ _ ?_ (fun _ => ?_)
      · exact ((hbl.setCell b8 _).setCell b8 _).setCell b8 _
      clear hK K d0 d1 d2 g0 g1 g2
      try simp only [Act.put, T33, List.setIfInBounds_toArray, List.set_cons_zero, List.set_cons_succ, List.getElem_toArray, List.getElem_cons_succ, List.getElem_cons_zero]
      obtain ⟨X1, hX1⟩ : ∃ X1, X1 = set3 wq p8 (.float .f64 (tpart r)) (.float .f64 (tpart g)) (.float .f64 (tpart b)) := ⟨_, rfl⟩
      have hbl0 : Below W0.heap.size W0 X1 := by rw [hX1]; exact ((hbl.setCell b8 _).setCell b8 _).setCell b8 _
      have m8 := set3i (.float .f64 (tpart r)) (.float .f64 (tpart g)) (.float .f64 (tpart b)) n8
      have m9 := (set3o (w := wq) (.float .f64 (tpart r)) (.float .f64 (tpart g)) (.float .f64 (tpart b)) exy).trans n9
      have m10 := (set3o (w := wq) (.float .f64 (tpart r)) (.float .f64 (tpart g)) (.float .f64 (tpart b)) exz).trans n10
      rw [← hX1] at m8 m9 m10
      unfold set3 at hX1
      rw [← hX1]
      clear hX1 n8 n9 n10 hbl
      have n8 := m8
      have n9 := m9
      have n10 := m10
      have hbl := hbl0
      clear m8 m9 m10 hbl0
      obtain ⟨⟨d0, d1, d2⟩, g0, g1, g2⟩ := cells3z n9
      refine wpAnyH_ready (rs := [10]) (by kernel_rfl) (by simp) ?_
      refine AllReadyH.cons rfl (fun K hK => ?_) AllReadyH.nil
      go_simp
      refine hK.out _ _ ?_ (fun _ => ?_)
      · exact ((hbl.setCell b9 _).setCell b9 _).setCell b9 _
      clear hK K d0 d1 d2 g0 g1 g2
      try simp only [Act.put, T33, List.setIfInBounds_toArray, List.set_cons_zero, List.set_cons_succ, List.getElem_toArray, List.getElem_cons_succ, List.getElem_cons_zero]
      obtain ⟨X2, hX2⟩ : ∃ X2, X2 = set3 X1 p9 (.float .f64 (tpart r')) (.float .f64 (tpart g')) (.float .f64 (tpart b')) := ⟨_, rfl⟩
      have hbl1 : Below W0.heap.size W0 X2 := by rw [hX2]; exact ((hbl.setCell b9 _).setCell b9 _).setCell b9 _
      have m8 := (set3o (w := X1) (.float .f64 (tpart r')) (.float .f64 (tpart g')) (.float .f64 (tpart b')) exy.symm).trans n8
      have m9 := set3i (.float .f64 (tpart r')) (.float .f64 (tpart g')) (.float .f64 (tpart b')) n9
      have m10 := (set3o (w := X1) (.float .f64 (tpart r')) (.float .f64 (tpart g')) (.float .f64 (tpart b')) eyz).trans n10
      rw [← hX2] at m8 m9 m10
      unfold set3 at hX2
      rw [← hX2]
      clear hX2 n8 n9 n10 hbl
      have n8 := m8
      have n9 := m9
      have n10 := m10
      have hbl := hbl1
      clear m8 m9 m10 hbl1
      obtain ⟨⟨d0, d1, d2⟩, g0, g1, g2⟩ := cells3z n10
      refine wpAnyH_ready (rs := [11]) (by kernel_rfl) (by simp) ?_
      refine AllReadyH.cons rfl (fun K hK => ?_) AllReadyH.nil
      go_simp
      refine hK.out _ _ ?_ (fun _ => ?_)
      · exact ((hbl.setCell b10 _).setCell b10 _).setCell b10 _
      clear hK K d0 d1 d2 g0 g1 g2
      try simp only [Act.put, T33, List.setIfInBounds_toArray, List.set_cons_zero, List.set_cons_succ, List.getElem_toArray, List.getElem_cons_succ, List.getElem_cons_zero]
      obtain ⟨X3, hX3⟩ : ∃ X3, X3 = set3 X2 p10 (.float .f64 (tpart r)) (.float .f64 (tpart g)) (.float .f64 (tpart b)) := ⟨_, rfl⟩
      have hbl2 : Below W0.heap.size W0 X3 := by rw [hX3]; exact ((hbl.setCell b10 _).setCell b10 _).setCell b10 _
      have m8 := (set3o (w := X2) (.float .f64 (tpart r)) (.float .f64 (tpart g)) (.float .f64 (tpart b)) exz.symm).trans n8
      have m9 := (set3o (w := X2) (.float .f64 (tpart r)) (.float .f64 (tpart g)) (.float .f64 (tpart b)) eyz.symm).trans n9
      have m10 := set3i (.float .f64 (tpart r)) (.float .f64 (tpart g)) (.float .f64 (tpart b)) n10
      rw [← hX3] at m8 m9 m10
      unfold set3 at hX3
      rw [← hX3]
      clear hX3 n8 n9 n10 hbl
      have n8 := m8
      have n9 := m9
      have n10 := m10
      have hbl := hbl2
      clear m8 m9 m10 hbl2
      refine wpAnyH_done (by kernel_rfl) ?_ _
      go_wp2_with fail
      go_meet
      case rel =>
        obtain ⟨⟨d0, d1, d2⟩, -⟩ := cells3z n8
        obtain ⟨⟨d3, d4, d5⟩, -⟩ := cells3z n9
        obtain ⟨⟨d6, d7, d8⟩, -⟩ := cells3z n10
        exact ⟨_, _, _, rfl, rfl, rfl, d0, d1, d2, d3, d4, d5, d6, d7, d8, cell_later hbl HW0.out.2.2.2.2.1, cell_later hbl HW0.out.2.2.2.2.2.1, cell_later hbl HW0.out.2.2.2.2.2.2, HW0.out.1.trans (hbl.mono HW0.out.1.size)⟩
  case rest =>
    obtain ⟨xx, yy, ff, rfl, rfl, rfl, x0, x1, x2, y0, y1, y2, f0, f1, f2, m0, m1, m2, hbc⟩ := hcut
    have lr := tpart_lt2 hr
    have lg := tpart_lt2 hg
    have lb := tpart_lt2 hb
    have ht01 := tpart_mid hn (by omega) h0
    have hts : tmix (tpart r) (tpart r) t = tpart r := tmix_self hr ht
    have htg : tmix (tpart g) (tpart g) t = tpart g := tmix_self hg ht
    have htb : tmix (tpart b) (tpart b) t = tpart b := tmix_self hb ht
    go_wp2_with fail
    refine (mix_any (tpart r) (tpart g) (tpart b) (tpart r) (tpart g) (tpart b) t lr lg lb lr lg lb ht _).mono ?_
    rintro e w2 ⟨rfl, hb2⟩
    rw [hts, htg, htb]
    go_wp2_with fail
    refine (told1_any _).mono ?_
    rintro e w3 ⟨rfl, hb3⟩
    have x0 := cell_later hb3 (cell_later ((Below.refl _ _).alloc (Nat.le_refl _) _) (cell_later hb2 x0))
    have x1 := cell_later hb3 (cell_later ((Below.refl _ _).alloc (Nat.le_refl _) _) (cell_later hb2 x1))
    have x2 := cell_later hb3 (cell_later ((Below.refl _ _).alloc (Nat.le_refl _) _) (cell_later hb2 x2))
    have y0 := cell_later hb3 (cell_later ((Below.refl _ _).alloc (Nat.le_refl _) _) (cell_later hb2 y0))
    have y1 := cell_later hb3 (cell_later ((Below.refl _ _).alloc (Nat.le_refl _) _) (cell_later hb2 y1))
    have y2 := cell_later hb3 (cell_later ((Below.refl _ _).alloc (Nat.le_refl _) _) (cell_later hb2 y2))
    have f0 := cell_later hb3 (cell_later ((Below.refl _ _).alloc (Nat.le_refl _) _) (cell_later hb2 f0))
    have f1 := cell_later hb3 (cell_later ((Below.refl _ _).alloc (Nat.le_refl _) _) (cell_later hb2 f1))
    have f2 := cell_later hb3 (cell_later ((Below.refl _ _).alloc (Nat.le_refl _) _) (cell_later hb2 f2))
    have m0 := cell_later hb3 (cell_later ((Below.refl _ _).alloc (Nat.le_refl _) _) (cell_later hb2 m0))
    have m1 := cell_later hb3 (cell_later ((Below.refl _ _).alloc (Nat.le_refl _) _) (cell_later hb2 m1))
    have m2 := cell_later hb3 (cell_later ((Below.refl _ _).alloc (Nat.le_refl _) _) (cell_later hb2 m2))
    have s0 : w3.cell? ⟨w2.heap.size, 0, none⟩ = some (.float .f64 (tpart r)) := cell_later hb3 (by simp [go_sem])
    have s1 : w3.cell? ⟨w2.heap.size, 1, none⟩ = some (.float .f64 (tpart g)) := cell_later hb3 (by simp [go_sem])
    have s2 : w3.cell? ⟨w2.heap.size, 2, none⟩ = some (.float .f64 (tpart b)) := cell_later hb3 (by simp [go_sem])
    have hbe : Below w.heap.size w w3 := (hbc.trans (hb2.mono hbc.size)).trans ((((Below.refl _ _).alloc (Nat.le_refl _) _).trans (hb3.mono (by simp))).mono (by have := hbc.size; have := hb2.size; omega))
    have hn0 : tpart t ≠ 0 := by rw [ht01]; intro e; rw [e] at h0; simp [sval, val_zero, rung] at h0
    have hn1 : tpart t ≠ ONE := by rw [ht01]; intro e; rw [e, small_sval (by have := ONE_lt; omega)] at h1; omega
    have ir := run_fmin (P := Try.prog) (tpart_le r hr) (tpart_le r' hr')
    have jr := run_fmax (P := Try.prog) (tpart_le r hr) (tpart_le r' hr')
    have oor := fmin_lt (tpart_le r hr) (tpart_le r' hr')
    have qr := fmax_lt (tpart_le r hr) (tpart_le r' hr')
    have nr : ∀ t w, (binOp .sub t (.float .f64 (fmin (tpart r) (tpart r'))) (.float .f64 4382569440205035030)).run Try.prog w = .ok (.float .f64 (subW (fmin (tpart r) (tpart r')) E15)) w := r_sub (y := E15) oor (fin_small E15_lt)
    have pr : ∀ t w, (binOp .add t (.float .f64 (fmax (tpart r) (tpart r'))) (.float .f64 4382569440205035030)).run Try.prog w = .ok (.float .f64 (addW (fmax (tpart r) (tpart r')) E15)) w := r_add (y := E15) qr (fin_small E15_lt)
    obtain ⟨bar, bbr, Ar, Br, Cr⟩ := low_test hr hr' ht hn0 hn1
    obtain ⟨bdr, ber, Dr, Er, Fr⟩ := high_test hr hr' ht hn0 hn1
    have ig := run_fmin (P := Try.prog) (tpart_le g hg) (tpart_le g' hg')
    have jg := run_fmax (P := Try.prog) (tpart_le g hg) (tpart_le g' hg')
    have og := fmin_lt (tpart_le g hg) (tpart_le g' hg')
    have qg := fmax_lt (tpart_le g hg) (tpart_le g' hg')
    have ng : ∀ t w, (binOp .sub t (.float .f64 (fmin (tpart g) (tpart g'))) (.float .f64 4382569440205035030)).run Try.prog w = .ok (.float .f64 (subW (fmin (tpart g) (tpart g')) E15)) w := r_sub (y := E15) og (fin_small E15_lt)
    have pg : ∀ t w, (binOp .add t (.float .f64 (fmax (tpart g) (tpart g'))) (.float .f64 4382569440205035030)).run Try.prog w = .ok (.float .f64 (addW (fmax (tpart g) (tpart g')) E15)) w := r_add (y := E15) qg (fin_small E15_lt)
    obtain ⟨bag, bbg, Ag, Bg, Cg⟩ := low_test hg hg' ht hn0 hn1
    obtain ⟨bdg, beg, Dg, Eg, Fg⟩ := high_test hg hg' ht hn0 hn1
    have ib := run_fmin (P := Try.prog) (tpart_le b hb) (tpart_le b' hb')
    have jb := run_fmax (P := Try.prog) (tpart_le b hb) (tpart_le b' hb')
    have ob := fmin_lt (tpart_le b hb) (tpart_le b' hb')
    have qb := fmax_lt (tpart_le b hb) (tpart_le b' hb')
    have nb : ∀ t w, (binOp .sub t (.float .f64 (fmin (tpart b) (tpart b'))) (.float .f64 4382569440205035030)).run Try.prog w = .ok (.float .f64 (subW (fmin (tpart b) (tpart b')) E15)) w := r_sub (y := E15) ob (fin_small E15_lt)
    have pb : ∀ t w, (binOp .add t (.float .f64 (fmax (tpart b) (tpart b'))) (.float .f64 4382569440205035030)).run Try.prog w = .ok (.float .f64 (addW (fmax (tpart b) (tpart b')) E15)) w := r_add (y := E15) qb (fin_small E15_lt)
    obtain ⟨bab, bbb, Ab, Bb, Cb⟩ := low_test hb hb' ht hn0 hn1
    obtain ⟨bdb, beb, Db, Eb, Fb⟩ := high_test hb hb' ht hn0 hn1
    clear hb2 hb3 hbc HW0 hn0 hn1 ht01 hts htg htb h0 h1 z0
    have sm : csame (tpart r) (tpart g) (tpart b) (tpart r) (tpart g) (tpart b) = true := by unfold csame; simp [tsame_refl]
    go_wp2_with (first | (simp only [ir]) | (simp only [ig]) | (simp only [ib]) | (simp only [jr]) | (simp only [jg]) | (simp only [jb]) | (simp only [nr]) | (simp only [ng]) | (simp only [nb]) | (simp only [pr]) | (simp only [pg]) | (simp only [pb]))
    refine (same_any _ _ _ _ _ _ lr lg lb lr lg lb _).mono ?_
    rintro e w4 ⟨rfl, hb4⟩
    rw [sm]
    go_wp2_with fail
    go_ret
    exact ⟨rfl, hbe.trans (hb4.mono hbe.size)⟩

set_option maxRecDepth 100000 in
set_option maxHeartbeats 8000000 in
theorem tintMixes_nan (r g b r' g' b' t : Nat) (hr : r < 2 * S) (hg : g < 2 * S) (hb : b < 2 * S) (hr' : r' < 2 * S) (hg' : g' < 2 * S) (hb' : b' < 2 * S) (ht : t < 2 * S) (hn : INF < rung t) (w : World) :
    Calls Try.prog 6 #[.agg #[.float .f64 r, .float .f64 g, .float .f64 b], .agg #[.float .f64 r', .float .f64 g', .float .f64 b'], .float .f64 t] w fun e w' => e = .returned (.bool true) ∧ Below w.heap.size w w' := by
  have h9 : tpart t = 0 := tpart_nan hn
  have e1 := y_eq hn
  clear hn
  have sm : csame r g b r g b = true := by unfold csame; simp [tsame_refl]
  have tr : tmix r r' t = r := by unfold tmix; rw [if_pos h9]
  have tg : tmix g g' t = g := by unfold tmix; rw [if_pos h9]
  have tb : tmix b b' t = b := by unfold tmix; rw [if_pos h9]
  go_enter Try.func6, Try.ntmps6
  go_wp2_with fail
  refine (mix_any r g b r' g' b' t hr hg hb hr' hg' hb' ht _).mono ?_
  rintro e w1 ⟨rfl, hb1⟩
  rw [tr, tg, tb]
  have k0 : w1.cell? ⟨w.heap.size, 0, none⟩ = some (.float .f64 r) := cell_later hb1 (by simp [go_sem])
  have k1 : w1.cell? ⟨w.heap.size, 1, none⟩ = some (.float .f64 g) := cell_later hb1 (by simp [go_sem])
  have k2 : w1.cell? ⟨w.heap.size, 2, none⟩ = some (.float .f64 b) := cell_later hb1 (by simp [go_sem])
  have z0 : w.heap.size + 1 < w1.heap.size := by have h := hb1.size; simp at h; omega
  have hww : Below w.heap.size w w1 := ((Below.refl _ _).alloc (Nat.le_refl _) _).alloc (by simp) _ |>.trans (hb1.mono (by simp; omega))
  clear hb1
  go_wp2_with fail
  refine (told1_any _).mono ?_
  rintro e w3 ⟨rfl, hb3⟩
  have k0 := cell_later hb3 (cell_later ((Below.refl _ _).alloc (Nat.le_refl _) _) k0)
  have k1 := cell_later hb3 (cell_later ((Below.refl _ _).alloc (Nat.le_refl _) _) k1)
  have k2 := cell_later hb3 (cell_later ((Below.refl _ _).alloc (Nat.le_refl _) _) k2)
  have m0 : w3.cell? ⟨w1.heap.size, 0, none⟩ = some (.float .f64 r) := cell_later hb3 (by simp [go_sem])
  have m1 : w3.cell? ⟨w1.heap.size, 1, none⟩ = some (.float .f64 g) := cell_later hb3 (by simp [go_sem])
  have m2 : w3.cell? ⟨w1.heap.size, 2, none⟩ = some (.float .f64 b) := cell_later hb3 (by simp [go_sem])
  have hbe : Below w.heap.size w w3 := hww.trans ((((Below.refl _ _).alloc (Nat.le_refl _) _).trans (hb3.mono (by simp))).mono hww.size)
  clear hb3 hww
  go_wp2_with fail
  refine (same_any _ _ _ _ _ _ hr hg hb hr hg hb _).mono ?_
  rintro e w4 ⟨rfl, hb4⟩
  rw [sm]
  go_wp2_with fail
  go_ret
  exact ⟨rfl, hbe.trans (hb4.mono hbe.size)⟩

set_option maxRecDepth 100000 in
set_option maxHeartbeats 8000000 in
theorem tintMixes_low (r g b r' g' b' t : Nat) (hr : r < 2 * S) (hg : g < 2 * S) (hb : b < 2 * S) (hr' : r' < 2 * S) (hg' : g' < 2 * S) (hb' : b' < 2 * S) (ht : t < 2 * S) (hn : ¬ INF < rung t) (h0 : sval t ≤ 0) (w : World) :
    Calls Try.prog 6 #[.agg #[.float .f64 r, .float .f64 g, .float .f64 b], .agg #[.float .f64 r', .float .f64 g', .float .f64 b'], .float .f64 t] w fun e w' => e = .returned (.bool true) ∧ Below w.heap.size w w' := by
  have h9 : tpart t = 0 := tpart_nought hn (by omega)
  have e1 := n_eq hn
  obtain ⟨b2, b3, e2, e3, e23⟩ : ∃ b2 b3 : Bool, (FloatKind.f64.format.order t 0 == some .lt) = b2 ∧ (FloatKind.f64.format.order t 0 == some .eq) = b3 ∧ (b2 || b3) = true := by
    refine ⟨_, _, rfl, rfl, ?_⟩
    rw [f_nought_lt hn, f_nought_eq hn]; simp only [Bool.or_eq_true, decide_eq_true_eq]; omega
  clear hn h0
  have sm : csame r g b r g b = true := by unfold csame; simp [tsame_refl]
  have tr : tmix r r' t = r := by unfold tmix; rw [if_pos h9]
  have tg : tmix g g' t = g := by unfold tmix; rw [if_pos h9]
  have tb : tmix b b' t = b := by unfold tmix; rw [if_pos h9]
  go_enter Try.func6, Try.ntmps6
  go_wp2_with fail
  refine (mix_any r g b r' g' b' t hr hg hb hr' hg' hb' ht _).mono ?_
  rintro e w1 ⟨rfl, hb1⟩
  rw [tr, tg, tb]
  have k0 : w1.cell? ⟨w.heap.size, 0, none⟩ = some (.float .f64 r) := cell_later hb1 (by simp [go_sem])
  have k1 : w1.cell? ⟨w.heap.size, 1, none⟩ = some (.float .f64 g) := cell_later hb1 (by simp [go_sem])
  have k2 : w1.cell? ⟨w.heap.size, 2, none⟩ = some (.float .f64 b) := cell_later hb1 (by simp [go_sem])
  have z0 : w.heap.size + 1 < w1.heap.size := by have h := hb1.size; simp at h; omega
  have hww : Below w.heap.size w w1 := ((Below.refl _ _).alloc (Nat.le_refl _) _).alloc (by simp) _ |>.trans (hb1.mono (by simp; omega))
  clear hb1
  go_wp2_with fail
  refine (told1_any _).mono ?_
  rintro e w3 ⟨rfl, hb3⟩
  have k0 := cell_later hb3 (cell_later ((Below.refl _ _).alloc (Nat.le_refl _) _) k0)
  have k1 := cell_later hb3 (cell_later ((Below.refl _ _).alloc (Nat.le_refl _) _) k1)
  have k2 := cell_later hb3 (cell_later ((Below.refl _ _).alloc (Nat.le_refl _) _) k2)
  have m0 : w3.cell? ⟨w1.heap.size, 0, none⟩ = some (.float .f64 r) := cell_later hb3 (by simp [go_sem])
  have m1 : w3.cell? ⟨w1.heap.size, 1, none⟩ = some (.float .f64 g) := cell_later hb3 (by simp [go_sem])
  have m2 : w3.cell? ⟨w1.heap.size, 2, none⟩ = some (.float .f64 b) := cell_later hb3 (by simp [go_sem])
  have hbe : Below w.heap.size w w3 := hww.trans ((((Below.refl _ _).alloc (Nat.le_refl _) _).trans (hb3.mono (by simp))).mono hww.size)
  clear hb3 hww
  go_wp2_with fail
  refine (same_any _ _ _ _ _ _ hr hg hb hr hg hb _).mono ?_
  rintro e w4 ⟨rfl, hb4⟩
  rw [sm]
  go_wp2_with fail
  go_ret
  exact ⟨rfl, hbe.trans (hb4.mono hbe.size)⟩

set_option maxRecDepth 100000 in
set_option maxHeartbeats 8000000 in
theorem tintMixes_high (r g b r' g' b' t : Nat) (hr : r < 2 * S) (hg : g < 2 * S) (hb : b < 2 * S) (hr' : r' < 2 * S) (hg' : g' < 2 * S) (hb' : b' < 2 * S) (ht : t < 2 * S) (hn : ¬ INF < rung t) (h1 : (val ONE : Int) ≤ sval t) (w : World) :
    Calls Try.prog 6 #[.agg #[.float .f64 r, .float .f64 g, .float .f64 b], .agg #[.float .f64 r', .float .f64 g', .float .f64 b'], .float .f64 t] w fun e w' => e = .returned (.bool true) ∧ Below w.heap.size w w' := by
  have h9 : tpart t = ONE := tpart_one hn h1
  have e1 := n_eq hn
  have hpos : (0 : Int) < val ONE := by have := val_lt (r := 0) (s := ONE) (by decide); rw [val_zero] at this; omega
  have e2 : (FloatKind.f64.format.order t 0 == some .lt) = false := by rw [f_nought_lt hn]; simp only [decide_eq_false_iff_not]; omega
  have e3 : (FloatKind.f64.format.order t 0 == some .eq) = false := by rw [f_nought_eq hn]; simp only [decide_eq_false_iff_not]; omega
  obtain ⟨b4, b5, e4, e5, e45⟩ : ∃ b4 b5 : Bool, (FloatKind.f64.format.order t 4607182418800017408 == some .gt) = b4 ∧ (FloatKind.f64.format.order t 4607182418800017408 == some .eq) = b5 ∧ (b4 || b5) = true := by
    refine ⟨_, _, rfl, rfl, ?_⟩
    rw [f_one_gt hn, f_one_eq hn]; simp only [Bool.or_eq_true, decide_eq_true_eq]; omega
  clear hn h1 hpos
  have sm : csame r' g' b' r' g' b' = true := by unfold csame; simp [tsame_refl]
  have tr : tmix r r' t = r' := by unfold tmix; rw [if_neg (by rw [h9]; decide), if_pos h9]
  have tg : tmix g g' t = g' := by unfold tmix; rw [if_neg (by rw [h9]; decide), if_pos h9]
  have tb : tmix b b' t = b' := by unfold tmix; rw [if_neg (by rw [h9]; decide), if_pos h9]
  go_enter Try.func6, Try.ntmps6
  go_wp2_with fail
  refine (mix_any r g b r' g' b' t hr hg hb hr' hg' hb' ht _).mono ?_
  rintro e w1 ⟨rfl, hb1⟩
  rw [tr, tg, tb]
  have k0 : w1.cell? ⟨w.heap.size + 1, 0, none⟩ = some (.float .f64 r') := cell_later hb1 (by simp [go_sem])
  have k1 : w1.cell? ⟨w.heap.size + 1, 1, none⟩ = some (.float .f64 g') := cell_later hb1 (by simp [go_sem])
  have k2 : w1.cell? ⟨w.heap.size + 1, 2, none⟩ = some (.float .f64 b') := cell_later hb1 (by simp [go_sem])
  have z0 : w.heap.size + 1 < w1.heap.size := by have h := hb1.size; simp at h; omega
  have hww : Below w.heap.size w w1 := ((Below.refl _ _).alloc (Nat.le_refl _) _).alloc (by simp) _ |>.trans (hb1.mono (by simp; omega))
  clear hb1
  go_wp2_with fail
  refine (told1_any _).mono ?_
  rintro e w3 ⟨rfl, hb3⟩
  have k0 := cell_later hb3 (cell_later ((Below.refl _ _).alloc (Nat.le_refl _) _) k0)
  have k1 := cell_later hb3 (cell_later ((Below.refl _ _).alloc (Nat.le_refl _) _) k1)
  have k2 := cell_later hb3 (cell_later ((Below.refl _ _).alloc (Nat.le_refl _) _) k2)
  have m0 : w3.cell? ⟨w1.heap.size, 0, none⟩ = some (.float .f64 r') := cell_later hb3 (by simp [go_sem])
  have m1 : w3.cell? ⟨w1.heap.size, 1, none⟩ = some (.float .f64 g') := cell_later hb3 (by simp [go_sem])
  have m2 : w3.cell? ⟨w1.heap.size, 2, none⟩ = some (.float .f64 b') := cell_later hb3 (by simp [go_sem])
  have hbe : Below w.heap.size w w3 := hww.trans ((((Below.refl _ _).alloc (Nat.le_refl _) _).trans (hb3.mono (by simp))).mono hww.size)
  clear hb3 hww
  go_wp2_with fail
  refine (same_any _ _ _ _ _ _ hr' hg' hb' hr' hg' hb' _).mono ?_
  rintro e w4 ⟨rfl, hb4⟩
  rw [sm]
  go_wp2_with fail
  go_ret
  exact ⟨rfl, hbe.trans (hb4.mono hbe.size)⟩

theorem tintMixes_walk (r g b r' g' b' t : Nat) (wr : (Lit.float .f64 r).wf = true) (wg : (Lit.float .f64 g).wf = true) (wb : (Lit.float .f64 b).wf = true) (wr' : (Lit.float .f64 r').wf = true) (wg' : (Lit.float .f64 g').wf = true) (wb' : (Lit.float .f64 b').wf = true) (wt : (Lit.float .f64 t).wf = true) (w : World) :
    Calls Try.prog 6 #[.agg #[.float .f64 r, .float .f64 g, .float .f64 b], .agg #[.float .f64 r', .float .f64 g', .float .f64 b'], .float .f64 t] w fun e w' => e = .returned (.bool true) ∧ Below w.heap.size w w' := by
  have hr : r < 2 * S := by rw [S_num]; simpa [Lit.wf] using wr
  have hg : g < 2 * S := by rw [S_num]; simpa [Lit.wf] using wg
  have hb : b < 2 * S := by rw [S_num]; simpa [Lit.wf] using wb
  have hr' : r' < 2 * S := by rw [S_num]; simpa [Lit.wf] using wr'
  have hg' : g' < 2 * S := by rw [S_num]; simpa [Lit.wf] using wg'
  have hb' : b' < 2 * S := by rw [S_num]; simpa [Lit.wf] using wb'
  have ht : t < 2 * S := by rw [S_num]; simpa [Lit.wf] using wt
  by_cases hn : INF < rung t
  · exact tintMixes_nan r g b r' g' b' t hr hg hb hr' hg' hb' ht hn w
  · by_cases h0 : sval t ≤ 0
    · exact tintMixes_low r g b r' g' b' t hr hg hb hr' hg' hb' ht hn h0 w
    · by_cases h1 : (val ONE : Int) ≤ sval t
      · exact tintMixes_high r g b r' g' b' t hr hg hb hr' hg' hb' ht hn h1 w
      · exact tintMixes_try r g b r' g' b' t hr hg hb hr' hg' hb' ht hn h0 h1 w
end Go.Proofs.Ytdpnpfgejfhcgaa
