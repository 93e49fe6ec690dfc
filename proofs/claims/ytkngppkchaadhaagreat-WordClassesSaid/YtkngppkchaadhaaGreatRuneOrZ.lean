/- runes: Has, Or, And, Count. -/
import Derived.Test.YtkngppkchaadhaaGreatRuneNot
import Derived.Shelf.Spec.SlicesGrow
set_option linter.unusedVariables false
set_option linter.unusedSimpArgs false
namespace Go.Proofs.YtkngppkchaadhaaGreat
open Go.RowKit Ru

theorem growR_any (n : Nat) (w : World) (hn : n ≤ 10000000) :
    Calls Tryz.prog 35 #[.slice none 0 0, .int .i64 n] w fun e w' => ∃ v, e = .returned v ∧ w'.ownsRow w.heap.size 29 2 v 0 [] ∧ Below w.heap.size w w' := by
  obtain ⟨i0, hi, hz0, hz1, hz2⟩ := infoRangeZ
  by_cases h0 : n = 0
  · subst h0
    have hc := Any8.slices_Grow_room Tryz.growR none 0 0 0 w (Nat.le_refl _) (by omega) (by omega) (by omega)
    change Calls Tryz.prog 35 _ _ _ at hc
    refine hc.mono fun e w' ⟨he, hw⟩ => ?_
    subst hw
    exact ⟨_, he, World.ownsRow_nil _ _ _ _, Below.refl _ _⟩
  · have hc := Any8.slices_Grow_grow Tryz.growR i0 _ hi hz0 (by omega) none 0 0 n [] w (Nat.le_refl _) (by omega) (by rw [hz2]; omega) (by omega) (by simp) (fun _ => rfl) (fun a h => by cases h)
    change Calls Tryz.prog 35 _ _ _ at hc
    refine hc.mono fun e w' ⟨he, hw⟩ => ?_
    subst hw
    refine ⟨_, he, ?_, ((Below.refl _ _).drew.alloc (by simp) _)⟩
    have hge := grownCap_ge w (0 + n) 0 29
    have hle := grownCap_le_maxLen w (0 + n) 0 29 (by unfold maxLen; omega)
    refine ⟨rfl, .inr ⟨w.heap.size, _, _, rfl, Nat.le_refl _, heap_alloc_new w.drew _, by omega, hle, ?_, by simp⟩⟩
    have e2 : (Value.agg #[.int .i32 0, .int .i32 0]).cells.size = 2 := rfl
    obtain ⟨C, hC⟩ : ∃ C, C = grownCap w (0 + n) 0 29 := ⟨_, rfl⟩
    have hC2 : grownCap w (0 + n) 0 (Tryz.growR_ren.t 25) = C := hC.symm
    rw [← hC] at hge hle
    rw [hC2, Array.size_append, Array.size_append, size_zeroCells, size_zeroCells, e2]
    simp
    omega

set_option maxHeartbeats 1000000 in
set_option maxRecDepth 1000000 in
theorem concat_any (a b : List Pc) (va vb : Value) (g : Nat) (w : World) (ha : Row w va a.length (flatK .i32 a)) (hb : Row w vb b.length (flatK .i32 b)) (hna : a.length ≤ 1000000) (hnb : b.length ≤ 1000000)
    (h0 : w.cell? ⟨g, 0, none⟩ = some va) (h1 : w.cell? ⟨g, 1, none⟩ = some vb) :
    Calls Tryz.prog 18 #[.slice (some ⟨g, 0, none⟩) 2 2] w fun e w' => ∃ u, e = .returned u ∧ w'.ownsRow w.heap.size 29 2 u (a ++ b).length (flatK .i32 (a ++ b)) ∧ Below w.heap.size w w' := by
  obtain ⟨i0, hi, hz0, hz1, hz2⟩ := infoRangeZ
  have hlt := World.block_lt_of_cell? w _ h0
  simp only at hlt
  have Ha := Lib.hid ha
  have Hb := Lib.hid hb
  obtain ⟨oa, ca, rfl⟩ := ha.formZ
  obtain ⟨ob, cb, rfl⟩ := hb.formZ
  clear ha hb
  go_enter Tryz.func18, Tryz.ntmps18
  go_wp2_with fail
  refine wp_loop_rounds 3 ?_
  rw [rounds_succ]
  go_wp2_with fail
  rw [rounds_succ]
  go_wp2_with fail
  rw [rounds_succ]
  go_wp2_with fail
  have hw0 : (a.length : Int) + b.length = ((a.length + b.length : Nat) : Int) := by omega
  rw [hw0]
  clear hw0
  obtain ⟨n, hn⟩ : ∃ n, n = a.length + b.length := ⟨_, rfl⟩
  rw [← hn]
  have Hn := Lib.hid hn
  have hn2 : n ≤ 10000000 := by omega
  clear hn
  refine (growR_any n _ hn2).mono ?_
  rintro e w1 ⟨v1, rfl, hown1, hb1⟩
  have h10 := h0
  have h11 := h1
  rw [← hb1.cell (p := ⟨g, 0, none⟩) hlt] at h10
  rw [← hb1.cell (p := ⟨g, 1, none⟩) hlt] at h11
  have Hw := Lib.hid (And.intro h0 h1)
  clear h0 h1
  go_wp2_with fail
  refine wp_loop_rounds 3 ?_
  rw [rounds_succ]
  go_wp2_with (at_builtin; refine wpList_append_row _ rfl _ _ 23 rfl w.heap.size 29 i0 (.agg #[.int .i32 0, .int .i32 0]) 2 8 Tryz.underlying23 hi hz0 hz1 hz2 rfl (by decide) _ _ _ rfl hown1 _ a.length (flatK .i32 a) rfl (Ha.out.below hb1) (flatK_len _ _) (flatK_one _ _) (by unfold maxLen; omega) (by omega) hb1.size ?_; intro v2 w2 hown2 hg2)
  have hb2 : Below w.heap.size w w2 := bel_grown hb1 hg2 (fun j hj => (hown1.lt j hj).1)
  rw [List.nil_append, Nat.zero_add] at hown2
  have h21 := Hw.out.2
  rw [← hb2.cell (p := ⟨g, 1, none⟩) hlt] at h21
  clear hown1 hg2 hb1 h10 h11
  rw [rounds_succ]
  go_wp2_with (at_builtin; refine wpList_append_row _ rfl _ _ 23 rfl w.heap.size 29 i0 (.agg #[.int .i32 0, .int .i32 0]) 2 8 Tryz.underlying23 hi hz0 hz1 hz2 rfl (by decide) _ _ _ rfl hown2 _ b.length (flatK .i32 b) rfl (Hb.out.below hb2) (flatK_len _ _) (flatK_one _ _) (by unfold maxLen; omega) (by omega) hb2.size ?_; intro v3 w3 hown3 hg3)
  have hb3 : Below w.heap.size w w3 := bel_grown hb2 hg3 (fun j hj => (hown2.lt j hj).1)
  rw [← flatK_append] at hown3
  have H3 := Lib.hid (And.intro hown3 hb3)
  clear hown2 hown3 hg3 hb2 hb3 h21
  rw [rounds_succ]
  go_wp2
  go_ret
  exact ⟨_, rfl, by rw [List.length_append]; exact H3.out.1, H3.out.2⟩

theorem or_any (a b : List Pc) (va vb : Value) (w : World) (ha : Row w va a.length (flatK .i32 a)) (hb : Row w vb b.length (flatK .i32 b)) (za : i32s a) (zb : i32s b) (hna : a.length ≤ 10000) (hnb : b.length ≤ 10000) :
    Calls Tryz.prog 6 #[va, vb] w fun e w' => ∃ u, e = .returned u ∧ w'.ownsRow w.heap.size 29 2 u (orF a b).length (flatK .i32 (orF a b)) ∧ Below w.heap.size w w' := by
  have Ha := Lib.hid ha
  have Hb := Lib.hid hb
  obtain ⟨oa, ca, rfl⟩ := ha.formZ
  obtain ⟨ob, cb, rfl⟩ := hb.formZ
  clear ha hb
  go_enter Tryz.func6, Tryz.ntmps6
  go_wp2_with fail
  refine (concat_any a b _ _ _ _ (Ha.out.below (bel_new (Below.refl _ _) _)) (Hb.out.below (bel_new (Below.refl _ _) _)) (by omega) (by omega) (by simp) (by simp)).mono ?_
  rintro e w1 ⟨u1, rfl, hown1, hb1⟩
  have hB1 : Below w.heap.size w w1 := bel_then (bel_new (Below.refl _ _) _) hb1
  have H1 := Lib.hid (And.intro hown1 hB1)
  clear hown1 hb1 hB1
  go_wp2_with fail
  refine (norm_any (a ++ b) _ _ (Row.owned H1.out.1) (i32_append za zb) (by rw [List.length_append]; omega)).mono ?_
  rintro e w2 ⟨u2, rfl, hown2, hb2⟩
  go_wp2
  go_ret
  exact ⟨_, rfl, owns_base hown2 H1.out.2.size, bel_then H1.out.2 hb2⟩

end Go.Proofs.YtkngppkchaadhaaGreat
