/- gobolaw11.Make, at any numbers. -/
import Derived.Test.YtkmnigoikkffnaaGMkG
import Derived.Deep.RegionHeld3
import Derived.Deep.CutBlock
set_option linter.unusedVariables false
set_option linter.unusedSimpArgs false
namespace Go.Proofs.Ytkmnigoikkffnaa
open Go.RowKit Ru

theorem mg_start {w W wc W4 : World} {p5 pt pa pb : Nat} (b0 : Below w.heap.size w W) (r0 : W.heap[w.heap.size]? = some (.cells #[.slice none 0 0, .slice none 0 0] 25 (0, 0)))
    (r1 : W.heap[w.heap.size + 1 + 1]? = some (.cells #[.int .i32 99, .int .i32 99] 82 (0, 0))) (r2 : W.heap[w.heap.size + 1 + 1 + 1 + 1]? = some (.cells #[.int .i32 100, .int .i32 100] 82 (0, 0))) (hs : W.heap.size = w.heap.size + 7)
    (h5 : W.heap.size ≤ p5) (ht : W.heap.size ≤ pt) (hb : Below W.heap.size W wc) (g5 : wc.heap[p5]? = some (.cells #[.slice (some ⟨pt, 0, none⟩) 4 4, .slice none 0 0] 25 (0, 0)))
    (gt : wc.heap[pt]? = some (.cells (t0cells pa pb (w.heap.size + 1 + 1) (w.heap.size + 1 + 1 + 1 + 1)) 55 (0, 0)))
    (ga : wc.heap[pa]? = some (.cells #[.int .i32 97, .int .i32 97] 82 (0, 0))) (gb : wc.heap[pb]? = some (.cells #[.int .i32 10, .int .i32 10, .int .i32 98, .int .i32 98] 82 (0, 0)))
    (e4 : W4 = (wc.alloc (.cells #[.string ⟨#[111]⟩] 9)).alloc (.cells #[.string ⟨#[99]⟩] 9)) :
    MS w p5 (.slice (some ⟨wc.heap.size, 0, none⟩) 1 1) (.slice (some ⟨wc.heap.size + 1, 0, none⟩) 1 1) W4 ∧ M4 w p5 pt pa pb W4 := by
  have hb4 : Below wc.heap.size wc W4 := by rw [e4]; exact bel_new (bel_new (Below.refl _ _) _) _
  have hal := allocs_heap [.cells #[.string ⟨#[111]⟩] 9, .cells #[.string ⟨#[99]⟩] 9] wc
  have q0 : W4.heap[wc.heap.size]? = some (.cells #[.string ⟨#[111]⟩] 9 (0, 0)) := by rw [e4]; exact hal 0 (by simp)
  have q1 : W4.heap[wc.heap.size + 1]? = some (.cells #[.string ⟨#[99]⟩] 9 (0, 0)) := by rw [e4]; exact hal 1 (by simp)
  have hsz : W4.heap.size = wc.heap.size + 2 := by rw [e4]; simp
  have m : Mk0 w W4 pt pa pb (w.heap.size + 1 + 1) (w.heap.size + 1 + 1 + 1 + 1) :=
    ⟨bel_then (bel_then b0 hb) hb4, by omega, bel_get hb4 gt, bel_get hb4 ga, bel_get hb4 gb, bel_get hb4 (bel_get hb r1), bel_get hb4 (bel_get hb r2)⟩
  have hg := bel_get hb4 g5
  have hres := bel_get hb4 (bel_get hb r0)
  have hX : ∀ {k : Nat} {cs : Array Value} {t : TypeId}, W4.heap[k]? = some (.cells cs t (0, 0)) → t ≠ 25 → k ≠ p5 ∧ k ≠ w.heap.size := fun h ht => ⟨type_far h hg ht, type_far h hres ht⟩
  have hT : TkO (fun k => k ≠ p5 ∧ k ≠ w.heap.size) W4 w.heap.size (.slice (some ⟨pt, 0, none⟩) 4 4) (ps0 pa pb (w.heap.size + 1 + 1) (w.heap.size + 1 + 1 + 1 + 1)) :=
    m.tkx (hX m.ha (by decide)) (hX m.hb (by decide)) (hX m.hc (by decide)) (hX m.hd (by decide))
  have hK := tko_kpx hT (fun k e => by simp [Value.ownBlock] at e; subst e; exact hX m.ht (by decide))
  have h5l := hp_lt hg
  refine ⟨⟨wc.heap.size, wc.heap.size + 1, T0, [nmO], [nmC], .slice (some ⟨pt, 0, none⟩) 4 4, rfl, rfl, .inl ⟨rfl, rfl, rfl⟩, ?_⟩, m, hres, hg, by omega⟩
  exact ⟨rfl, fun p h => by simp at h, hres, hg, Own.nil, (hK.sub (fun k hk h => ⟨hk, h⟩)), q0, q1, m.bel, Nat.le_refl _, by omega, h5l, by omega, by omega⟩
set_option maxHeartbeats 8000000 in
set_option maxRecDepth 100000 in
theorem make_any (hP : PatOK) : MakeOK := by
  intro L vs lv w hL hLB
  obtain ⟨ii, hi, hz0, hz1, hz2⟩ := infoToken
  obtain ⟨ir, hr0, hr1, hr2, hr3⟩ := infoRule
  obtain ⟨is, hs0, hs1, hs2, hs3⟩ := infoStep
  have HLL := Lib.hid hL
  obtain ⟨ol, cl, rfl, -⟩ := hL.row
  clear hL
  go_enter Try.func18, Try.ntmps18
  go_upto_region 2 with (go_at_call 25; refine (one_exact _ _).mono ?_; rintro e w2 ⟨rfl, rfl⟩)
  obtain ⟨W, hW⟩ : ∃ W, W = (((((((w.alloc (.cells #[.slice none 0 0, .slice none 0 0] 25)).alloc (.cells #[.int .i64 2, .slice (some ⟨w.heap.size + 1 + 1, 0, none⟩) 1 1, .slice none 0 0] 53)).alloc (.cells #[.int .i32 99, .int .i32 99] 82)).alloc (.cells #[.int .i64 2, .slice (some ⟨w.heap.size + 1 + 1 + 1 + 1, 0, none⟩) 1 1, .slice none 0 0] 53)).alloc (.cells #[.int .i32 100, .int .i32 100] 82)).alloc (.cells #[.int .i64 2, .slice (some ⟨w.heap.size + 1 + 1, 0, none⟩) 1 1, .slice none 0 0] 53)).alloc (.cells #[.int .i64 2, .slice (some ⟨w.heap.size + 1 + 1 + 1 + 1, 0, none⟩) 1 1, .slice none 0 0] 53)) := ⟨_, rfl⟩
  rw [← hW]
  have c0 : W.cell? ⟨w.heap.size + 1 + 1 + 1 + 1 + 1, 0, none⟩ = some (.int .i64 2) ∧ W.cell? ⟨w.heap.size + 1 + 1 + 1 + 1 + 1, 1, none⟩ = some (.slice (some ⟨w.heap.size + 1 + 1, 0, none⟩) 1 1) ∧ W.cell? ⟨w.heap.size + 1 + 1 + 1 + 1 + 1, 2, none⟩ = some (.slice none 0 0) := by rw [hW]; simp [go_sem]
  have c1 : W.cell? ⟨w.heap.size + 1 + 1 + 1 + 1 + 1 + 1, 0, none⟩ = some (.int .i64 2) ∧ W.cell? ⟨w.heap.size + 1 + 1 + 1 + 1 + 1 + 1, 1, none⟩ = some (.slice (some ⟨w.heap.size + 1 + 1 + 1 + 1, 0, none⟩) 1 1) ∧ W.cell? ⟨w.heap.size + 1 + 1 + 1 + 1 + 1 + 1, 2, none⟩ = some (.slice none 0 0) := by rw [hW]; simp [go_sem]
  have hWs : W.heap.size = w.heap.size + 7 := by rw [hW]; simp
  have hWb : Below w.heap.size w W := by rw [hW]; exact bel_new (bel_new (bel_new (bel_new (bel_new (bel_new (bel_new (Below.refl _ _) _) _) _) _) _) _) _
  have hW0 : W.heap[w.heap.size]? = some (.cells #[.slice none 0 0, .slice none 0 0] 25 (0, 0)) ∧ W.heap[w.heap.size + 1 + 1]? = some (.cells #[.int .i32 99, .int .i32 99] 82 (0, 0)) ∧ W.heap[w.heap.size + 1 + 1 + 1 + 1]? = some (.cells #[.int .i32 100, .int .i32 100] 82 (0, 0)) := by
    have h := allocs_heap [.cells #[.slice none 0 0, .slice none 0 0] 25, .cells #[.int .i64 2, .slice (some ⟨w.heap.size + 1 + 1, 0, none⟩) 1 1, .slice none 0 0] 53, .cells #[.int .i32 99, .int .i32 99] 82, .cells #[.int .i64 2, .slice (some ⟨w.heap.size + 1 + 1 + 1 + 1, 0, none⟩) 1 1, .slice none 0 0] 53, .cells #[.int .i32 100, .int .i32 100] 82, .cells #[.int .i64 2, .slice (some ⟨w.heap.size + 1 + 1, 0, none⟩) 1 1, .slice none 0 0] 53, .cells #[.int .i64 2, .slice (some ⟨w.heap.size + 1 + 1 + 1 + 1, 0, none⟩) 1 1, .slice none 0 0] 53] w
    rw [hW]
    exact ⟨h 0 (by simp), h 2 (by simp), h 4 (by simp)⟩
  have HW := Lib.hid (And.intro hWb hW0)
  clear hWb hW0
  clear hW
  obtain ⟨pc, hpc⟩ : ∃ p, p = w.heap.size + 1 + 1 + 1 + 1 + 1 := ⟨_, rfl⟩
  obtain ⟨pd, hpd⟩ : ∃ p, p = w.heap.size + 1 + 1 + 1 + 1 + 1 + 1 := ⟨_, rfl⟩
  rw [← hpd] at c1 ⊢
  rw [← hpc] at c0 ⊢
  obtain ⟨c00, c01, c02⟩ := c0
  obtain ⟨c10, c11, c12⟩ := c1
  have hpcl : pc < W.heap.size := by omega
  have hpdl : pd < W.heap.size := by omega
  have hpcn : ¬ pc = W.heap.size := by omega
  have hpdn : ¬ pd = W.heap.size := by omega
  have hpcn1 : ¬ pc = W.heap.size + 1 := by omega
  have hpdn1 : ¬ pd = W.heap.size + 1 := by omega
  have HP := Lib.hid (And.intro hpc (And.intro hpd hWs))
  clear hpc hpd hWs
  go_cut [5] (fun s5 wx => Mk0At w W wx s5)
  case first =>
    go_region_held3 (fun w' => w'.cell? ⟨pc, 0, none⟩ = some (.int .i64 2) ∧ w'.cell? ⟨pc, 1, none⟩ = some (.slice (some ⟨w.heap.size + 1 + 1, 0, none⟩) 1 1) ∧ w'.cell? ⟨pc, 2, none⟩ = some (.slice none 0 0) ∧ w'.cell? ⟨pd, 0, none⟩ = some (.int .i64 2) ∧ w'.cell? ⟨pd, 1, none⟩ = some (.slice (some ⟨w.heap.size + 1 + 1 + 1 + 1, 0, none⟩) 1 1) ∧ w'.cell? ⟨pd, 2, none⟩ = some (.slice none 0 0)) (first | trivial | (refine ⟨?_, ?_, ?_, ?_, ?_, ?_⟩ <;> refine (Below.cell (w := W) ?_ (by assumption)).trans (by assumption) <;> repeat (first | exact Below.refl _ _ | refine Below.drew ?_ | refine bel_new ?_ _ | (refine Below.setCell ?_ (by first | omega | (simp <;> omega)) _))))
      (first | (go_at_call 25; refine (one_exact _ _).mono ?_; rintro e w2 ⟨rfl, rfl⟩))
    all_goals (go_wp2_with (fail))
    all_goals go_meet
    all_goals (
      refine mk0_of fun wx hch => ?_
      unfold Mk0At
      apply Exists.intro
      apply Exists.intro
      apply Exists.intro
      apply Exists.intro
      refine ⟨rfl, ?_, ?_, ?_, hch.2.2.2.2.2, ?_, ?_, ?_, ?_⟩
      rotate_left 3
      · first | exact hch.2.2.2.2.1 | exact hch.2.2.2.1 | exact hch.2.2.1 | exact hch.2.1 | exact hch.1
      · first | exact hch.2.2.2.2.1 | exact hch.2.2.2.1 | exact hch.2.2.1 | exact hch.2.1 | exact hch.1
      · first | exact hch.2.2.2.2.1 | exact hch.2.2.2.1 | exact hch.2.2.1 | exact hch.2.1 | exact hch.1
      · first | exact hch.2.2.2.2.1 | exact hch.2.2.2.1 | exact hch.2.2.1 | exact hch.2.1 | exact hch.1
      all_goals omega)
  case rest =>
    obtain ⟨p5, pt, pa, pb, rfl, h5, ht, h5t, hbel, g5, gt, ga, gb⟩ := hcut
    have HG := Lib.hid (And.intro h5 (And.intro ht (And.intro h5t (And.intro hbel (And.intro g5 (And.intro gt (And.intro ga gb)))))))
    clear h5 ht h5t hbel g5 gt ga gb
    go_upto_if 33 with (fail)
    obtain ⟨W4, hW4⟩ : ∃ W4, W4 = (wc.alloc (.cells #[.string ⟨#[111]⟩] 9)).alloc (.cells #[.string ⟨#[99]⟩] 9) := ⟨_, rfl⟩
    rw [← hW4]
    have HBW := Lib.hid (show Below W.heap.size W W4 from bel_then HG.out.2.2.2.1 (by rw [hW4]; exact bel_new (bel_new (Below.refl _ _) _) _))
    have H4 := Lib.hid (mg_start HW.out.1 HW.out.2.1 HW.out.2.2.1 HW.out.2.2.2 HP.out.2.2 HG.out.1 HG.out.2.1 HG.out.2.2.2.1 HG.out.2.2.2.2.1 HG.out.2.2.2.2.2.1 HG.out.2.2.2.2.2.2.1 HG.out.2.2.2.2.2.2.2 hW4)
    clear hW4
    go_cut [6, 7] (fun s6 s7 wx => MS w p5 s6 s7 wx)
    case first =>
      by_cases hl3 : 3 < L.length
      · have hd : decide ((3 : Int) < (L.length : Int)) = true := by simp; omega
        have hd2 : decide (3 < L.length) = true := by simpa using hl3
        have h4 := H4.out.2
        have HROW := Lib.hid h4.m.owns
        have hpg := h4.hg
        have hpgl := hp_lt hpg
        have hN : (Value.slice (some ⟨pt, 0, none⟩) 4 4).ownBlock ≠ some p5 := own_far HROW.out hpg (by decide)
        have hW4s := h4.m.bel.size
        have hbW : Below W.heap.size W W4 := HBW.out
        have d00 : W4.cell? ⟨pc, 0, none⟩ = some (.int .i64 2) := (hbW.cell hpcl).trans c00
        have d01 := (hbW.cell (p := ⟨pc, 1, none⟩) hpcl).trans c01
        have d02 := (hbW.cell (p := ⟨pc, 2, none⟩) hpcl).trans c02
        have d10 := (hbW.cell (p := ⟨pd, 0, none⟩) hpdl).trans c10
        have d11 := (hbW.cell (p := ⟨pd, 1, none⟩) hpdl).trans c11
        have d12 := (hbW.cell (p := ⟨pd, 2, none⟩) hpdl).trans c12
        have g50 : W4.cell? ⟨p5, 0, none⟩ = some (.slice (some ⟨pt, 0, none⟩) 4 4) := by simp [World.cell?, hpg]
        have hpcl4 : pc < W4.heap.size := by have := hbW.size; omega
        have hpdl4 : pd < W4.heap.size := by have := hbW.size; omega
        have n0 : ¬ p5 = W4.heap.size := by omega
        have n1 : ¬ pc = W4.heap.size := by omega
        have n2 : ¬ pd = W4.heap.size := by omega
        have n3 : ¬ p5 = W4.heap.size + 1 := by omega
        have n4 : ¬ pc = W4.heap.size + 1 := by omega
        have n5 : ¬ pd = W4.heap.size + 1 := by omega
        have n6 : ¬ p5 = W4.heap.size + 1 + 1 := by omega
        have n7 : ¬ pc = W4.heap.size + 1 + 1 := by omega
        have n8 : ¬ pd = W4.heap.size + 1 + 1 := by omega
        have n9 : ¬ p5 = W4.heap.size + 1 + 1 + 1 := by omega
        have n10 : ¬ pc = W4.heap.size + 1 + 1 + 1 := by omega
        have n11 : ¬ pd = W4.heap.size + 1 + 1 + 1 := by omega
        have n12 : ¬ p5 = W4.heap.size + 1 + 1 + 1 + 1 := by omega
        have n13 : ¬ pc = W4.heap.size + 1 + 1 + 1 + 1 := by omega
        have n14 : ¬ pd = W4.heap.size + 1 + 1 + 1 + 1 := by omega
        have n15 : p5 < W4.heap.size + 1 := by omega
        have n16 : pc < W4.heap.size + 1 := by omega
        have n17 : pd < W4.heap.size + 1 := by omega
        have n18 : p5 < W4.heap.size + 1 + 1 := by omega
        have n19 : pc < W4.heap.size + 1 + 1 := by omega
        have n20 : pd < W4.heap.size + 1 + 1 := by omega
        have n21 : p5 < W4.heap.size + 1 + 1 + 1 := by omega
        have n22 : pc < W4.heap.size + 1 + 1 + 1 := by omega
        have n23 : pd < W4.heap.size + 1 + 1 + 1 := by omega
        have n24 : p5 < W4.heap.size + 1 + 1 + 1 + 1 := by omega
        have n25 : pc < W4.heap.size + 1 + 1 + 1 + 1 := by omega
        have n26 : pd < W4.heap.size + 1 + 1 + 1 + 1 := by omega
        have n27 : p5 < W4.heap.size + 1 + 1 + 1 + 1 + 1 := by omega
        have n28 : pc < W4.heap.size + 1 + 1 + 1 + 1 + 1 := by omega
        have n29 : pd < W4.heap.size + 1 + 1 + 1 + 1 + 1 := by omega
        have n30 : p5 ≠ pc := by have := HG.out.1; omega
        have n31 : p5 ≠ pd := by have := HG.out.1; omega
        have p0c : W4.cell? ⟨pt, 0, none⟩ = some (.string ⟨#[97]⟩) := by simp [World.cell?, h4.m.ht]
        have n32 : some pc ≠ (Value.slice (some ⟨pt, 0, none⟩) 4 4).ownBlock := fun e => by
          simp [Value.ownBlock] at e; subst e; rw [d00] at p0c; simp at p0c
        have n33 : some pd ≠ (Value.slice (some ⟨pt, 0, none⟩) 4 4).ownBlock := fun e => by
          simp [Value.ownBlock] at e; subst e; rw [d10] at p0c; simp at p0c
        clear p0c
        clear h4 hbW c00 c01 c02 c10 c11 c12
        go_upto_region 5 with (fail)
        go_region_held3 (fun w' => w'.cell? ⟨pc, 0, none⟩ = some (.int .i64 2) ∧ w'.cell? ⟨pc, 1, none⟩ = some (.slice (some ⟨w.heap.size + 1 + 1, 0, none⟩) 1 1) ∧ w'.cell? ⟨pc, 2, none⟩ = some (.slice none 0 0) ∧ w'.cell? ⟨pd, 0, none⟩ = some (.int .i64 2) ∧ w'.cell? ⟨pd, 1, none⟩ = some (.slice (some ⟨w.heap.size + 1 + 1 + 1 + 1, 0, none⟩) 1 1) ∧ w'.cell? ⟨pd, 2, none⟩ = some (.slice none 0 0))
          (first | trivial | (refine ⟨?_, ?_, ?_, ?_, ?_, ?_⟩ <;> (refine (hC9 _ _ (by first | exact .inl rfl | exact .inr rfl)).trans ?_; assumption)) | (refine ⟨?_, ?_, ?_, ?_, ?_, ?_⟩ <;> (refine Eq.trans (World.cell?_setCell_far _ _ _ _ (by first | exact n30 | exact n31)) ?_; refine (hC9 _ _ (by first | exact .inl rfl | exact .inr rfl)).trans ?_; assumption)) | (refine ⟨?_, ?_, ?_, ?_, ?_, ?_⟩ <;> (refine (Below.cell (w := W4) (B := W4.heap.size) ?_ (by assumption)).trans (by assumption) <;> repeat (first | exact Below.refl _ _ | refine Below.drew ?_ | refine bel_new ?_ _))))
          (first
            | (go_simp; go_at_call 25; refine (one_exact _ _).mono ?_; rintro e w3 ⟨rfl, rfl⟩)
            | (refine step_tok2 _ _ w.heap.size (xs := (t0cells pa pb (w.heap.size + 1 + 1) (w.heap.size + 1 + 1 + 1 + 1)).toList) rfl rfl rfl rfl (by repeat (first | exact HROW.out | refine World.ownsRow.alloc ?_ _ | refine owns_drew ?_)) rfl (by simp [Value.oneCell']) (by simp) (by simp; omega) ?_; intro o9 c9 w9 hown9 hg9 hf9 hb9
               have hp9 : w9.heap[p5]? = some (.cells #[.slice (some ⟨pt, 0, none⟩) 4 4, .slice none 0 0] 25 (0, 0)) := by
                 rw [hg9.block _ (by simp; omega) (fun e => hN e.symm)]; exact bel_get (by repeat (first | exact Below.refl _ _ | refine Below.drew ?_ | refine bel_new ?_ _)) hpg
               have z0 : w9.cell? ⟨p5, 0, none⟩ = some (.slice (some ⟨pt, 0, none⟩) 4 4) := by simp [World.cell?, hp9]
               have z1 : w9.frozen? ⟨p5, 0, none⟩ = false := by simp [World.frozen?, hp9]
               have hC9 : ∀ q off, (q = pc ∨ q = pd) → w9.cell? ⟨q, off, none⟩ = W4.cell? ⟨q, off, none⟩ := by
                 intro q off hq
                 have hl : q < W4.heap.size := (hq.elim (fun e => e ▸ hpcl4) (fun e => e ▸ hpdl4))
                 have h1 := hg9.block q (by simp; omega) (hq.elim (fun e => e ▸ n32) (fun e => e ▸ n33))
                 have h2 : ∀ X : World, Below W4.heap.size W4 X → w9.heap[q]? = X.heap[q]? → w9.cell? ⟨q, off, none⟩ = W4.cell? ⟨q, off, none⟩ := fun X hb he => by
                   unfold World.cell?
                   rw [he, hb.block q hl]
                 exact h2 _ (by repeat (first | exact Below.refl _ _ | refine Below.drew ?_ | refine bel_new ?_ _)) h1))
        all_goals (go_wp2_with (fail))
        all_goals go_meet
        all_goals (exact ms_six5 H4.out.2 (fun X hch => ⟨by first | exact hch.1 | exact hch.2.1 | exact hch.2.2.1 | exact hch.2.2.2.1, by first | exact hch.1 | exact hch.2.1 | exact hch.2.2.1 | exact hch.2.2.2.1, by first | exact hch.1 | exact hch.2.1 | exact hch.2.2.1 | exact hch.2.2.2.1⟩) hown9 rfl hg9 hf9 rfl)
      · have hd : decide ((3 : Int) < (L.length : Int)) = false := by simp; omega
        have hd2 : decide (3 < L.length) = false := by simpa using hl3
        go_wp2_with fail
        go_meet
        case rel =>
          exact H4.out.1
    case rest =>
      obtain ⟨cb, rb, T, C, R, tv, rfl, rfl, hMN, hMG⟩ := hcut
      obtain ⟨B, hB⟩ : ∃ B, B = wc.heap.size := ⟨_, rfl⟩
      rw [← hB] at hMG
      have HMN := Lib.hid hMN
      have HMG := Lib.hid hMG
      clear hMN hMG hB c00 c01 c02 c10 c11 c12 hpcl hpdl hpcn hpdn hpcn1 hpdn1 HBW H4 HG HW HP
      go_wp2_with fail
      go_loopg [8] 3 (fun g s8 wx => ∃ (i n c : Nat) (o : Option Addr) (ps : List (RU × Value)), i + g = 3 ∧ n ≤ i ∧ s8 = .int .i64 (i : Int) ∧ MG w B p5 cb rb T C R tv n c o ps wx)
      case atStart => exact ⟨0, 0, 0, none, [], rfl, Nat.le_refl _, rfl, HMG.out⟩
      case round =>
        obtain ⟨i, n, c, o, ps, hig, hni, rfl, hG⟩ := hrel
        have HG := Lib.hid hG
        have hpg := hG.hg
        have hres := hG.hres
        have hn3 : n ≤ 3 := by omega
        obtain ⟨ot, nt, ct, rfl⟩ : ∃ ot nt ct, tv = .slice ot nt ct := by
          obtain ⟨o, cap, nm, kd, cl, rk, so, sn, sc, lo, ln, lc, e, -⟩ := (HMG.out.st.here).all
          exact ⟨_, _, _, e⟩
        clear hG
        have c0 : wr.cell? ⟨p5, 0, none⟩ = some (.slice ot nt ct) ∧ wr.cell? ⟨p5, 1, none⟩ = some (.slice o n c) ∧ wr.frozen? ⟨p5, 0, none⟩ = false ∧ wr.frozen? ⟨p5, 1, none⟩ = false := by simp [World.cell?, World.frozen?, hpg]
        obtain ⟨c0, c1, c2, c3⟩ := c0
        have r0 : wr.cell? ⟨w.heap.size, 0, none⟩ = some (.slice none 0 0) ∧ wr.cell? ⟨w.heap.size, 1, none⟩ = some (.slice none 0 0) ∧ wr.frozen? ⟨w.heap.size, 0, none⟩ = false ∧ wr.frozen? ⟨w.heap.size, 1, none⟩ = false := by simp [World.cell?, World.frozen?, hres]
        obtain ⟨r0, r1, r2, r3⟩ := r0
        by_cases hi : i < L.length ∧ i < 3
        · obtain ⟨hiL, hi3⟩ := hi
          have hd1 : decide ((i : Int) < (L.length : Int)) = true := by simp; omega
          have hd1b : decide (i < L.length) = true := by simpa using hiL
          have hd2 : decide ((i : Int) < 3) = true := by simp; omega
          have hd2b : decide (i < 3) = true := by simpa using hi3
          obtain ⟨li, hli⟩ : ∃ li, L[i]? = some li := ⟨L[i], List.getElem?_eq_getElem hiL⟩
          obtain ⟨u, hu⟩ : ∃ u, vs[i]? = some u := ⟨vs[i]'(by have := HLL.out.len; omega), List.getElem?_eq_getElem _⟩
          have hrow := HLL.out.each i u li hu hli
          obtain ⟨bL, offL, rfl, hcL⟩ : ∃ bL offL, ol = some ⟨bL, offL, none⟩ ∧ wr.cell? ⟨bL, offL + i, none⟩ = some u := by
            obtain ⟨o', cap', e, hc, hm, hr⟩ := HLL.out.row.below HG.out.bel
            cases e
            rcases hr with ⟨h0, -⟩ | ⟨b, off, rfl, hlt, hcell⟩
            · omega
            · exact ⟨b, off, rfl, hcell i u hu⟩
          obtain ⟨oi, ci, rfl, -⟩ := id hrow
          have HLI := Lib.hid hrow
          clear hrow
          have hiL2 : (i : Int) < (L.length : Int) := by omega
          have hi0 : (0 : Int) ≤ (i : Int) := by omega
          cases gk with
          | zero => omega
          | succ g =>
          by_cases h2 : li.length < 2
          · have h2d : decide ((li.length : Int) < 2) = true := by simp; omega
            have h2e : decide (li.length < 2) = true := by simpa using h2
            go_wp2_with fail
            go_roundg g
            case measure => omega
            case rel => exact ⟨i + 1, n, c, o, ps, by omega, by omega, by simp, HG.out⟩
          · have h2d : decide ((li.length : Int) < 2) = false := by simp; omega
            have h2e : decide (li.length < 2) = false := by simpa using h2
            obtain ⟨bl, offl, rfl, hcl⟩ : ∃ bl offl, oi = some ⟨bl, offl, none⟩ ∧ wr.cell? ⟨bl, offl, none⟩ = some (.int .i64 (li.getD 0 0)) := by
              obtain ⟨o', cap', e, hc, hm, hr⟩ := HLI.out.below HG.out.bel
              cases e
              rcases hr with ⟨h0, -⟩ | ⟨b, off, rfl, hlt, hcell⟩
              · omega
              · exact ⟨b, off, rfl, hcell 0 _ (getElem?_ints (by omega))⟩
            obtain ⟨k, hk⟩ : ∃ k, k = li.getD 0 0 := ⟨_, rfl⟩
            rw [← hk] at hcl
            clear hk
            have hll : (0 : Int) < (li.length : Int) := by omega
            go_upto_region 15 with (fail)
            obtain ⟨nn, hnn, enn⟩ := mk_num k
            rw [enn]
            clear enn
            obtain ⟨fr, hfr⟩ : ∃ fr, fr = (bits BinOp.and IntKind.i64 k 1 == 1) := ⟨_, rfl⟩
            rw [← hfr]
            clear hfr
            have hrb : bL < wr.heap.size := World.block_lt_of_cell? wr ⟨bL, offL + i, none⟩ hcL
            have hwr : w.heap.size ≤ wr.heap.size := HG.out.bel.size
            clear c0 c1 c2 c3 r0 r1 r2 r3 hpg hres hcl h2d h2e
            obtain ⟨wo, rfl⟩ : ∃ wo : World, wo = wr := ⟨_, rfl⟩
            go_loopg [12] nn (fun g2 s12 wx => ∃ (j c2 : Nat) (o2 : Option Addr) (qs : List (ST × Value × Value × Value × Value)), j + g2 = nn ∧ s12 = .int .i64 (j : Int) ∧ MI wo (fun k => k ≠ p5 ∧ k ≠ w.heap.size ∧ (Value.slice o n c).ownBlock ≠ some k) T (10 + (i : Int)) fr j c2 o2 qs wx)
            case atStart => exact ⟨0, 0, none, [], by omega, rfl, MI.start⟩
            case round =>
              obtain ⟨j, c2, o2, qs, hjg, rfl, hI⟩ := hrel
              have HI := Lib.hid hI
              have HG2 := Lib.hid (HG.out.moved hI.bel)
              have hr := hI.hr
              have hpg := HG2.out.hg
              have hbl := hI.bel.size
              have hpgl := hp_lt hpg
              have hpl := hp_lt hr
              have hcL2 : wr.cell? ⟨bL, offL + i, none⟩ = some (.slice (some ⟨bl, offl, none⟩) li.length ci) := (hI.bel.cell hrb).trans hcL
              have q0 : wr.cell? ⟨wo.heap.size, 0, none⟩ = some (.int .i64 (10 + (i : Int))) ∧ wr.cell? ⟨wo.heap.size, 1, none⟩ = some (.bool fr) ∧ wr.cell? ⟨wo.heap.size, 2, none⟩ = some (.slice o2 j c2) ∧ wr.frozen? ⟨wo.heap.size, 2, none⟩ = false := by simp [World.cell?, World.frozen?, hr]
              obtain ⟨q0, q1, q2, q3⟩ := q0
              have c0 : wr.cell? ⟨p5, 0, none⟩ = some (.slice ot nt ct) ∧ wr.cell? ⟨p5, 1, none⟩ = some (.slice o n c) ∧ wr.frozen? ⟨p5, 1, none⟩ = false := by simp [World.cell?, World.frozen?, hpg]
              obtain ⟨c0, c1, c2'⟩ := c0
              clear hI
              cases gk with
              | zero =>
                obtain rfl : j = nn := by omega
                have t0 : decide ((j : Int) < (j : Int)) = false := by simp
                have t1 : decide (j < j) = false := by simp
                have HROW := Lib.hid (show wr.ownsRow B 38 3 (.slice o n c) n (ps.flatMap three) from by have := HG2.out.own.row; rw [HG2.out.len] at this; exact this)
                have hN : (Value.slice o n c).ownBlock ≠ some p5 := own_far HROW.out hpg (by decide)
                have hBs := HG2.out.hB
                have n0 : ¬ p5 = wr.heap.size := by omega
                have n1 : ¬ wo.heap.size = wr.heap.size := by omega
                go_wp2_with (
                  at_builtin; refine wpList_append_far _ rfl _ _ 23 rfl B 38 ir _ 3 40 Try.underlying23 hr0 hr1 hr2 hr3 rfl (by decide) (.slice o n c) n (ps.flatMap three) rfl (by repeat (first | exact HROW.out | refine World.ownsRow.alloc ?_ _ | refine owns_drew ?_)) _ 1 _ rfl (by first | exact row_new rfl (by simp)) rfl (by simp [Value.oneCell']) (by unfold maxLen; omega) (by omega) (by simp; omega) ?_; intro v9 w9 hown9 hg9 hf9 hb9; obtain ⟨o9, c9, rfl⟩ := owns_slice hown9
                  have hp9 : w9.heap[p5]? = some (.cells #[.slice ot nt ct, .slice o n c] 25 (0, 0)) := by
                    rw [hg9.block _ (by simp; omega) (fun e => hN e.symm)]; exact bel_get (by repeat (first | exact Below.refl _ _ | refine Below.drew ?_ | refine bel_new ?_ _)) hpg
                  have z0 : w9.cell? ⟨p5, 1, none⟩ = some (.slice o n c) := by simp [World.cell?, hp9]
                  have z1 : w9.frozen? ⟨p5, 1, none⟩ = false := by simp [World.frozen?, hp9])
                obtain ⟨w5, hw5⟩ : ∃ w5, w5 = w9.setCell ⟨p5, 1, none⟩ (.slice o9 (n + 1) c9) := ⟨_, rfl⟩
                rw [← hw5]
                have hL5 := HG2.out.step HI.out ⟨by omega, by omega⟩ hnn (by repeat (first | exact Below.refl _ _ | refine Below.drew ?_ | refine bel_new ?_ _)) hown9 rfl hg9 hf9
                rw [← hw5] at hL5
                obtain ⟨ps5, hL5⟩ := hL5
                have HL5 := Lib.hid hL5
                clear hw5 hL5 hown9 hg9 hf9 hb9 hp9 z0 z1
                go_wp2_with fail
                go_roundg g
                case measure => omega
                case rel => exact ⟨i + 1, n + 1, c9, o9, ps5, by omega, by omega, by simp, HL5.out⟩
              | succ g2 =>
                have t0 : decide ((j : Int) < (nn : Int)) = true := by simp; omega
                have t1 : decide (j < nn) = true := by simp; omega
                go_upto_region 17 with (fail)
                go_cut [13] from 85 to 139 (fun s13 wx => ∃ (pst : Nat) (p : PT) (nv ev pv : Value), s13 = .pointer (some ⟨pst, 0, none⟩) ∧ wx.heap[pst]? = some (.cells #[.slice none 0 0, .int .i64 p.kind, nv, ev, pv] 45 (0, 0)) ∧ wr.heap.size ≤ pst ∧ Below wr.heap.size wr wx ∧ PGood T p ∧
                  KP (fun k => ((k ≠ wo.heap.size ∧ k ≠ p5 ∧ k ≠ w.heap.size ∧ (Value.slice o n c).ownBlock ≠ some k) ∧ (Value.slice o2 j c2).ownBlock ≠ some k) ∧ k ≠ pst) wx (fun w' => PtIs w' p nv ev pv))
                case first =>
                  have hN2 : 2 ≤ li.length := by omega
                  have hNB : li.length ≤ 17592186044416 := hLB li (List.mem_of_getElem? hli)
                  obtain ⟨y1, y2, lo, hi, e1, e2, e3, e4, e5, e6, e7, e8, hlh, hhN⟩ := mk_cut li.length j nn hN2 hNB (by omega) hnn.2
                  have hcc : li.length ≤ ci := by
                    obtain ⟨o', c', e, hc, -⟩ := HLI.out
                    cases e; exact hc
                  obtain ⟨o1, c1', hst, hsl⟩ := cutI_m (some ⟨bl, offl, none⟩) ci li.length (li.map (Value.int .i64)) (by simp) lo hi hlh hhN hcc
                  obtain ⟨M, hM⟩ : ∃ M, M = hi - lo := ⟨_, rfl⟩
                  rw [← hM] at hst hsl
                  have HSL := Lib.hid (And.intro hM (And.intro hlh (And.intro hhN hsl)))
                  have hML : ((li.drop lo).take M).length = M := by have := HSL.out.1; have := HSL.out.2.2.1; simp; omega
                  have HCL := Lib.hid (show ∀ X, Below wr.heap.size wr X → Row X (.slice o1 M c1') ((li.drop lo).take M).length (((li.drop lo).take M).map (Value.int .i64)) from fun X hX => by
                    rw [hML, List.map_take, List.map_drop]
                    exact HSL.out.2.2.2 X (HLI.out.below (bel_then HG2.out.bel hX)))
                  clear hML
                  have hnn0 : ¬ (nn : Int) = 0 := by omega
                  have hnn1 : decide ((nn : Int) = 0) = false := by simp; omega
                  have hnn2 : ¬ nn = 0 := by omega
                  have hnn3 : ((nn : Int) == 0) = false := by simp; omega
                  have hnn4 : (nn == 0) = false := by simp; omega
                  have hnn5 : decide (nn = 0) = false := by simp; omega
                  have hj0' : (0 : Int) ≤ (j : Int) := by omega
                  have hlo0 : (0 : Int) ≤ (lo : Int) := by omega
                  have hbLw : bL < wr.heap.size := by omega
                  clear hM hlh hhN hsl hN2 hNB q0 q1 q2 q3 c0 c1 c2'
--r17
                  refine wp_region_noPanic ?_
                  refine wp_region_held_drew (S := fun w' => w'.cell? ⟨bL, offL + i, none⟩ = some (.slice (some ⟨bl, offl, none⟩) li.length ci)) (by kernel_rfl) ((Below.cell (w := wr) (p := ⟨bL, offL + i, none⟩) (by repeat (first | exact Below.refl _ _ | exact hB9 | refine Below.drew ?_ | refine bel_new ?_ _ | refine Below.setCell ?_ (by simp <;> omega) _)) hbLw).trans hcL2) (fun hS => ?_)
                  refine wpAnyH_take (i := 0) (v := ?_) rfl (by kernel_rfl) (by kernel_rfl) (by kernel_rfl) (fun _ _ _ h => h) (Or.inl ⟨by rfl, ?_⟩) hS ?_
                  rotate_left
                  · intro w hSw; skip; go_simp; try with_reducible rfl
                  try simp only [Act.put, List.setIfInBounds_toArray, List.set_cons_zero, List.set_cons_succ, List.getElem_toArray, List.getElem_cons_succ, List.getElem_cons_zero]
                  refine wpAnyH_take (i := 1) (v := ?_) rfl (by kernel_rfl) (by kernel_rfl) (by kernel_rfl) (fun _ _ _ h => h) (Or.inl ⟨by rfl, ?_⟩) hS ?_
                  rotate_left
                  · intro w hSw; skip; go_simp; try with_reducible rfl
                  try simp only [Act.put, List.setIfInBounds_toArray, List.set_cons_zero, List.set_cons_succ, List.getElem_toArray, List.getElem_cons_succ, List.getElem_cons_zero]
                  refine wpAnyH_take (i := 2) (v := ?_) rfl (by kernel_rfl) (by kernel_rfl) (by kernel_rfl) (fun _ _ _ h => h) (Or.inl ⟨by rfl, ?_⟩) hS ?_
                  rotate_left
                  · intro w hSw; skip; go_simp; try with_reducible rfl
                  try simp only [Act.put, List.setIfInBounds_toArray, List.set_cons_zero, List.set_cons_succ, List.getElem_toArray, List.getElem_cons_succ, List.getElem_cons_zero]
                  refine wpAnyH_take (i := 3) (v := ?_) rfl (by kernel_rfl) (by kernel_rfl) (by kernel_rfl) (fun _ _ _ h => h) (Or.inl ⟨by rfl, ?_⟩) hS ?_
                  rotate_left
                  · intro w hSw; skip; go_simp; try with_reducible rfl
                  try simp only [Act.put, List.setIfInBounds_toArray, List.set_cons_zero, List.set_cons_succ, List.getElem_toArray, List.getElem_cons_succ, List.getElem_cons_zero]
                  refine wpAnyH_take (i := 4) (v := ?_) rfl (by kernel_rfl) (by kernel_rfl) (by kernel_rfl) (fun _ _ _ h => h) (Or.inl ⟨by rfl, ?_⟩) hS ?_
                  rotate_left
                  · intro w hSw; skip; go_simp; try with_reducible rfl
                  try simp only [Act.put, List.setIfInBounds_toArray, List.set_cons_zero, List.set_cons_succ, List.getElem_toArray, List.getElem_cons_succ, List.getElem_cons_zero]
                  refine wpAnyH_take (i := 5) (v := ?_) rfl (by kernel_rfl) (by kernel_rfl) (by kernel_rfl) (fun _ _ _ h => h) (Or.inl ⟨by rfl, ?_⟩) hS ?_
                  rotate_left
                  · intro w hSw; skip; go_simp; try with_reducible rfl
                  try simp only [Act.put, List.setIfInBounds_toArray, List.set_cons_zero, List.set_cons_succ, List.getElem_toArray, List.getElem_cons_succ, List.getElem_cons_zero]
                  refine wpAnyH_take (i := 6) (v := ?_) rfl (by kernel_rfl) (by kernel_rfl) (by kernel_rfl) (fun _ _ _ h => h) (Or.inl ⟨by rfl, ?_⟩) hS ?_
                  rotate_left
                  · intro w hSw; skip; go_simp; try with_reducible rfl
                  try simp only [Act.put, List.setIfInBounds_toArray, List.set_cons_zero, List.set_cons_succ, List.getElem_toArray, List.getElem_cons_succ, List.getElem_cons_zero]
                  refine wpAnyH_take (i := 7) (v := ?_) rfl (by kernel_rfl) (by kernel_rfl) (by kernel_rfl) (fun _ _ _ h => h) (Or.inl ⟨by rfl, ?_⟩) hS ?_
                  rotate_left
                  · intro w hSw; skip; go_simp; try with_reducible rfl
                  try simp only [Act.put, List.setIfInBounds_toArray, List.set_cons_zero, List.set_cons_succ, List.getElem_toArray, List.getElem_cons_succ, List.getElem_cons_zero]
                  refine wpAnyH_take (i := 8) (v := ?_) rfl (by kernel_rfl) (by kernel_rfl) (by kernel_rfl) (fun _ _ _ h => h) (Or.inl ⟨by rfl, ?_⟩) hS ?_
                  rotate_left
                  · intro w hSw; skip; go_simp; try with_reducible rfl
                  try simp only [Act.put, List.setIfInBounds_toArray, List.set_cons_zero, List.set_cons_succ, List.getElem_toArray, List.getElem_cons_succ, List.getElem_cons_zero]
                  refine wpAnyH_take (i := 9) (v := ?_) rfl (by kernel_rfl) (by kernel_rfl) (by kernel_rfl) (fun _ _ _ h => h) (Or.inl ⟨by rfl, ?_⟩) hS ?_
                  rotate_left
                  · intro w hSw; skip; go_simp; try with_reducible rfl
                  try simp only [Act.put, List.setIfInBounds_toArray, List.set_cons_zero, List.set_cons_succ, List.getElem_toArray, List.getElem_cons_succ, List.getElem_cons_zero]
                  refine wpAnyH_take (i := 10) (v := ?_) rfl (by kernel_rfl) (by kernel_rfl) (by kernel_rfl) (fun _ _ _ h => h) (Or.inl ⟨by rfl, ?_⟩) hS ?_
                  rotate_left
                  · intro w hSw; skip; go_simp; try with_reducible rfl
                  try simp only [Act.put, List.setIfInBounds_toArray, List.set_cons_zero, List.set_cons_succ, List.getElem_toArray, List.getElem_cons_succ, List.getElem_cons_zero]
                  refine wpAnyH_take (i := 11) (v := ?_) rfl (by kernel_rfl) (by kernel_rfl) (by kernel_rfl) (fun _ _ _ h => h) (Or.inl ⟨by rfl, ?_⟩) hS ?_
                  rotate_left
                  · intro w hSw; skip; go_simp; try with_reducible rfl
                  try simp only [Act.put, List.setIfInBounds_toArray, List.set_cons_zero, List.set_cons_succ, List.getElem_toArray, List.getElem_cons_succ, List.getElem_cons_zero]
                  refine wpAnyH_take (i := 12) (v := ?_) rfl (by kernel_rfl) (by kernel_rfl) (by kernel_rfl) (fun _ _ _ h => h) (Or.inl ⟨by rfl, ?_⟩) hS ?_
                  rotate_left
                  · intro w hSw; skip; go_simp; try with_reducible rfl
                  try simp only [Act.put, List.setIfInBounds_toArray, List.set_cons_zero, List.set_cons_succ, List.getElem_toArray, List.getElem_cons_succ, List.getElem_cons_zero]
                  refine wpAnyH_take (i := 13) (v := ?_) rfl (by kernel_rfl) (by kernel_rfl) (by kernel_rfl) (fun _ _ _ h => h) (Or.inl ⟨by rfl, ?_⟩) hS ?_
                  rotate_left
                  · intro w hSw; skip; go_simp; try with_reducible rfl
                  try simp only [Act.put, List.setIfInBounds_toArray, List.set_cons_zero, List.set_cons_succ, List.getElem_toArray, List.getElem_cons_succ, List.getElem_cons_zero]
                  refine wpAnyH_take (i := 14) (v := ?_) rfl (by kernel_rfl) (by kernel_rfl) (by kernel_rfl) (fun _ _ _ h => h) (Or.inl ⟨by rfl, ?_⟩) hS ?_
                  rotate_left
                  · intro w hSw; skip; go_simp; try with_reducible rfl
                  try simp only [Act.put, List.setIfInBounds_toArray, List.set_cons_zero, List.set_cons_succ, List.getElem_toArray, List.getElem_cons_succ, List.getElem_cons_zero]
                  refine wpAnyH_take (i := 15) (v := ?_) rfl (by kernel_rfl) (by kernel_rfl) (by kernel_rfl) (fun _ _ _ h => h) (Or.inl ⟨by rfl, ?_⟩) hS ?_
                  rotate_left
                  · intro w hSw; skip; go_simp; try with_reducible rfl
                  try simp only [Act.put, List.setIfInBounds_toArray, List.set_cons_zero, List.set_cons_succ, List.getElem_toArray, List.getElem_cons_succ, List.getElem_cons_zero]
                  refine wpAnyH_take (i := 16) (v := ?_) rfl (by kernel_rfl) (by kernel_rfl) (by kernel_rfl) (fun _ _ _ h => h) (Or.inl ⟨by rfl, ?_⟩) hS ?_
                  rotate_left
                  · intro w hSw; skip; go_simp; try with_reducible rfl
                  try simp only [Act.put, List.setIfInBounds_toArray, List.set_cons_zero, List.set_cons_succ, List.getElem_toArray, List.getElem_cons_succ, List.getElem_cons_zero]
                  refine wpAnyH_take (i := 17) (v := ?_) rfl (by kernel_rfl) (by kernel_rfl) (by kernel_rfl) (fun _ _ _ h => h) (Or.inl ⟨by rfl, ?_⟩) hS ?_
                  rotate_left
                  · intro w hSw; skip; go_simp; try with_reducible rfl
                  try simp only [Act.put, List.setIfInBounds_toArray, List.set_cons_zero, List.set_cons_succ, List.getElem_toArray, List.getElem_cons_succ, List.getElem_cons_zero]
                  refine wpAnyH_take (i := 18) (v := ?_) rfl (by kernel_rfl) (by kernel_rfl) (by kernel_rfl) (fun _ _ _ h => h) (Or.inl ⟨by rfl, ?_⟩) hS ?_
                  rotate_left
                  · intro w hSw; skip; go_simp; try with_reducible rfl
                  try simp only [Act.put, List.setIfInBounds_toArray, List.set_cons_zero, List.set_cons_succ, List.getElem_toArray, List.getElem_cons_succ, List.getElem_cons_zero]
                  refine wpAnyH_take (i := 19) (v := ?_) rfl (by kernel_rfl) (by kernel_rfl) (by kernel_rfl) (fun _ _ _ h => h) (Or.inl ⟨by rfl, ?_⟩) hS ?_
                  rotate_left
                  · intro w hSw; skip; go_simp; try with_reducible rfl
                  try simp only [Act.put, List.setIfInBounds_toArray, List.set_cons_zero, List.set_cons_succ, List.getElem_toArray, List.getElem_cons_succ, List.getElem_cons_zero]
                  refine wpAnyH_take (i := 20) (v := ?_) rfl (by kernel_rfl) (by kernel_rfl) (by kernel_rfl) (fun _ _ _ h => h) (Or.inl ⟨by rfl, ?_⟩) hS ?_
                  rotate_left
                  · intro w hSw; skip; go_simp; try with_reducible rfl
                  try simp only [Act.put, List.setIfInBounds_toArray, List.set_cons_zero, List.set_cons_succ, List.getElem_toArray, List.getElem_cons_succ, List.getElem_cons_zero]
                  refine wpAnyH_take (i := 21) (v := ?_) rfl (by kernel_rfl) (by kernel_rfl) (by kernel_rfl) (fun _ _ _ h => h) (Or.inl ⟨by rfl, ?_⟩) hS ?_
                  rotate_left
                  · intro w hSw; skip; go_simp; try with_reducible rfl
                  try simp only [Act.put, List.setIfInBounds_toArray, List.set_cons_zero, List.set_cons_succ, List.getElem_toArray, List.getElem_cons_succ, List.getElem_cons_zero]
                  refine wpAnyH_take (i := 22) (v := ?_) rfl (by kernel_rfl) (by kernel_rfl) (by kernel_rfl) (fun _ _ _ h => h) (Or.inl ⟨by rfl, ?_⟩) hS ?_
                  rotate_left
                  · intro w hSw; skip; go_simp; try with_reducible rfl
                  try simp only [Act.put, List.setIfInBounds_toArray, List.set_cons_zero, List.set_cons_succ, List.getElem_toArray, List.getElem_cons_succ, List.getElem_cons_zero]
                  refine wpAnyH_take (i := 23) (v := ?_) rfl (by kernel_rfl) (by kernel_rfl) (by kernel_rfl) (fun _ _ _ h => h) (Or.inl ⟨by rfl, ?_⟩) hS ?_
                  rotate_left
                  · intro w hSw; skip; go_simp; try with_reducible rfl
                  try simp only [Act.put, List.setIfInBounds_toArray, List.set_cons_zero, List.set_cons_succ, List.getElem_toArray, List.getElem_cons_succ, List.getElem_cons_zero]
                  refine wpAnyH_take (i := 24) (v := ?_) rfl (by kernel_rfl) (by kernel_rfl) (by kernel_rfl) (fun _ _ _ h => h) (Or.inl ⟨by rfl, ?_⟩) hS ?_
                  rotate_left
                  · intro w hSw; skip; go_simp; try with_reducible rfl
                  try simp only [Act.put, List.setIfInBounds_toArray, List.set_cons_zero, List.set_cons_succ, List.getElem_toArray, List.getElem_cons_succ, List.getElem_cons_zero]
                  refine wpAnyH_take (i := 25) (v := ?_) rfl (by kernel_rfl) (by kernel_rfl) (by kernel_rfl) (fun _ _ _ h => h) (Or.inl ⟨by rfl, ?_⟩) hS ?_
                  rotate_left
                  · intro w hSw; skip; go_simp; try with_reducible rfl
                  try simp only [Act.put, List.setIfInBounds_toArray, List.set_cons_zero, List.set_cons_succ, List.getElem_toArray, List.getElem_cons_succ, List.getElem_cons_zero]
                  refine wpAnyH_take (i := 26) (v := ?_) rfl (by kernel_rfl) (by kernel_rfl) (by kernel_rfl) (fun _ _ _ h => h) (Or.inl ⟨by rfl, ?_⟩) hS ?_
                  rotate_left
                  · intro w hSw; skip; go_simp; try with_reducible rfl
                  try simp only [Act.put, List.setIfInBounds_toArray, List.set_cons_zero, List.set_cons_succ, List.getElem_toArray, List.getElem_cons_succ, List.getElem_cons_zero]
                  refine wpAnyH_take (i := 27) (v := ?_) rfl (by kernel_rfl) (by kernel_rfl) (by kernel_rfl) (fun _ _ _ h => h) (Or.inl ⟨by rfl, ?_⟩) hS ?_
                  rotate_left
                  · intro w hSw; skip; go_simp; try with_reducible rfl
                  try simp only [Act.put, List.setIfInBounds_toArray, List.set_cons_zero, List.set_cons_succ, List.getElem_toArray, List.getElem_cons_succ, List.getElem_cons_zero]
                  refine wpAnyH_take (i := 29) (v := ?_) rfl (by kernel_rfl) (by kernel_rfl) (by kernel_rfl) (fun _ _ _ h => h) (Or.inl ⟨by rfl, ?_⟩) hS ?_
                  rotate_left
                  · intro w hSw; skip; go_simp; try with_reducible rfl
                  try simp only [Act.put, List.setIfInBounds_toArray, List.set_cons_zero, List.set_cons_succ, List.getElem_toArray, List.getElem_cons_succ, List.getElem_cons_zero]
                  refine wpAnyH_take (i := 30) (v := ?_) rfl (by kernel_rfl) (by kernel_rfl) (by kernel_rfl) (fun _ _ _ h => h) (Or.inl ⟨by rfl, ?_⟩) hS ?_
                  rotate_left
                  · intro w hSw; skip; go_simp; try with_reducible rfl
                  try simp only [Act.put, List.setIfInBounds_toArray, List.set_cons_zero, List.set_cons_succ, List.getElem_toArray, List.getElem_cons_succ, List.getElem_cons_zero]
                  refine wpAnyH_ready (rs := [28, 33]) (by kernel_rfl) (by simp) ?_
                  refine AllReadyH.cons rfl (fun K hK => ?_) (AllReadyH.cons rfl (fun K hK => ?_) AllReadyH.nil)
                  · go_simp
                    refine hK.out _ _ ((Below.cell (w := wr) (p := ⟨bL, offL + i, none⟩) (by repeat (first | exact Below.refl _ _ | exact hB9 | refine Below.drew ?_ | refine bel_new ?_ _ | refine Below.setCell ?_ (by simp <;> omega) _)) hbLw).trans hcL2) (fun hS => ?_)
                    clear hK K
                    try simp only [Act.put, List.setIfInBounds_toArray, List.set_cons_zero, List.set_cons_succ, List.getElem_toArray, List.getElem_cons_succ, List.getElem_cons_zero]
                    refine wpAnyH_ready (rs := [31, 33]) (by kernel_rfl) (by simp) ?_
                    refine AllReadyH.cons rfl (fun K hK => ?_) (AllReadyH.cons rfl (fun K hK => ?_) AllReadyH.nil)
                    · go_simp
                      go_at_call 49
                      refine (hP T ((li.drop lo).take M) (.slice o1 M c1') (.slice (some ⟨_, 0, none⟩) 2 2) _ _ [nmA, nmB] C R _ (HCL.out _ (by repeat (first | exact Below.refl _ _ | refine Below.drew ?_ | refine bel_new ?_ _ | refine Below.setCell ?_ (by simp <;> omega) _))) (me_at HG2.out HMN.out (by repeat (first | exact Below.refl _ _ | refine Below.drew ?_ | refine bel_new ?_ _ | refine Below.setCell ?_ (by simp <;> omega) _)) (by with_reducible exact al_one wr _))).mono ?_
                      rintro e w3 ⟨p, nv, ev, pv, rfl, hkp, hpg3, hb3⟩
                      obtain ⟨⟨o5, c5, e5⟩, ⟨o6, c6, e6⟩, ⟨o7, c7, e7⟩⟩ := hkp.here.form
                      subst e5 e6 e7
                      have hB9 : Below wr.heap.size wr w3 := bel_then (by repeat (first | exact Below.refl _ _ | refine Below.drew ?_ | refine bel_new ?_ _ | refine Below.setCell ?_ (by simp <;> omega) _)) hb3
                      have HKP := Lib.hid (And.intro hkp (And.intro hpg3 hb3))
                      clear hkp hpg3 hb3
                      refine hK.out _ _ ((Below.cell (w := wr) (p := ⟨bL, offL + i, none⟩) (by repeat (first | exact Below.refl _ _ | exact hB9 | refine Below.drew ?_ | refine bel_new ?_ _ | refine Below.setCell ?_ (by simp <;> omega) _)) hbLw).trans hcL2) (fun hS => ?_)
                      clear hK K
                      try simp only [Act.put, List.setIfInBounds_toArray, List.set_cons_zero, List.set_cons_succ, List.getElem_toArray, List.getElem_cons_succ, List.getElem_cons_zero]
                      refine wpAnyH_take (i := 32) (v := ?_) rfl (by kernel_rfl) (by kernel_rfl) (by kernel_rfl) (fun _ _ _ h => h) (Or.inl ⟨by rfl, ?_⟩) hS ?_
                      rotate_left
                      · intro w hSw; skip; go_simp; try with_reducible rfl
                      try simp only [Act.put, List.setIfInBounds_toArray, List.set_cons_zero, List.set_cons_succ, List.getElem_toArray, List.getElem_cons_succ, List.getElem_cons_zero]
                      refine wpAnyH_ready (rs := [33]) (by kernel_rfl) (by simp) ?_
                      refine AllReadyH.cons rfl (fun K hK => ?_) AllReadyH.nil
                      go_simp
                      refine hK.out _ _ ((Below.cell (w := wr) (p := ⟨bL, offL + i, none⟩) (by repeat (first | exact Below.refl _ _ | exact hB9 | refine Below.drew ?_ | refine bel_new ?_ _ | refine Below.setCell ?_ (by simp <;> omega) _)) hbLw).trans hcL2) (fun hS => ?_)
                      clear hK K
                      try simp only [Act.put, List.setIfInBounds_toArray, List.set_cons_zero, List.set_cons_succ, List.getElem_toArray, List.getElem_cons_succ, List.getElem_cons_zero]
                      refine wpAnyH_ready (rs := [34]) (by kernel_rfl) (by simp) ?_
                      refine AllReadyH.cons rfl (fun K hK => ?_) AllReadyH.nil
                      go_simp
                      refine hK.out _ _ ((Below.cell (w := wr) (p := ⟨bL, offL + i, none⟩) (by repeat (first | exact Below.refl _ _ | exact hB9 | refine Below.drew ?_ | refine bel_new ?_ _ | refine Below.setCell ?_ (by simp <;> omega) _)) hbLw).trans hcL2) (fun hS => ?_)
                      clear hK K
                      try simp only [Act.put, List.setIfInBounds_toArray, List.set_cons_zero, List.set_cons_succ, List.getElem_toArray, List.getElem_cons_succ, List.getElem_cons_zero]
                      refine wpAnyH_done (by kernel_rfl) ?_ _
                      refine NoPanic.normal ?_
                      go_wp2_with fail
                      go_meet
                      exact reg17_new HG2.out HI.out (by repeat (first | exact Below.refl _ _ | refine Below.drew ?_ | refine bel_new ?_ _ | refine Below.setCell ?_ (by simp <;> omega) _)) HKP.out.2.2 HKP.out.1 HKP.out.2.1
                    · go_simp
                      refine hK.out _ _ ((Below.cell (w := wr) (p := ⟨bL, offL + i, none⟩) (by repeat (first | exact Below.refl _ _ | exact hB9 | refine Below.drew ?_ | refine bel_new ?_ _ | refine Below.setCell ?_ (by simp <;> omega) _)) hbLw).trans hcL2) (fun hS => ?_)
                      clear hK K
                      try simp only [Act.put, List.setIfInBounds_toArray, List.set_cons_zero, List.set_cons_succ, List.getElem_toArray, List.getElem_cons_succ, List.getElem_cons_zero]
                      refine wpAnyH_ready (rs := [31]) (by kernel_rfl) (by simp) ?_
                      refine AllReadyH.cons rfl (fun K hK => ?_) AllReadyH.nil
                      go_simp
                      go_at_call 49
                      refine (hP T ((li.drop lo).take M) (.slice o1 M c1') (.slice (some ⟨_, 0, none⟩) 2 2) _ _ [nmA, nmB] C R _ (HCL.out _ (by repeat (first | exact Below.refl _ _ | refine Below.drew ?_ | refine bel_new ?_ _ | refine Below.setCell ?_ (by simp <;> omega) _))) (me_at HG2.out HMN.out (by repeat (first | exact Below.refl _ _ | refine Below.drew ?_ | refine bel_new ?_ _ | refine Below.setCell ?_ (by simp <;> omega) _)) (by with_reducible exact al_fst wr _ _))).mono ?_
                      rintro e w3 ⟨p, nv, ev, pv, rfl, hkp, hpg3, hb3⟩
                      obtain ⟨⟨o5, c5, e5⟩, ⟨o6, c6, e6⟩, ⟨o7, c7, e7⟩⟩ := hkp.here.form
                      subst e5 e6 e7
                      have hB9 : Below wr.heap.size wr w3 := bel_then (by repeat (first | exact Below.refl _ _ | refine Below.drew ?_ | refine bel_new ?_ _ | refine Below.setCell ?_ (by simp <;> omega) _)) hb3
                      have HKP := Lib.hid (And.intro hkp (And.intro hpg3 hb3))
                      have hs9 : w3.heap[wr.heap.size + 1]? = some (.cells #[.slice none 0 0, .int .i64 0, .slice none 0 0, .slice none 0 0, .slice none 0 0] 45 (0, 0)) := bel_get hb3 (by with_reducible exact al_snd' wr _ _)
                      have z0 : w3.cell? ⟨wr.heap.size + 1, 0, none⟩ = some (.slice none 0 0) ∧ w3.cell? ⟨wr.heap.size + 1, 1, none⟩ = some (.int .i64 0) ∧ w3.cell? ⟨wr.heap.size + 1, 2, none⟩ = some (.slice none 0 0) ∧ w3.cell? ⟨wr.heap.size + 1, 3, none⟩ = some (.slice none 0 0) ∧ w3.cell? ⟨wr.heap.size + 1, 4, none⟩ = some (.slice none 0 0) := by simp [World.cell?, hs9]
                      have f0 : w3.frozen? ⟨wr.heap.size + 1, 0, none⟩ = false ∧ w3.frozen? ⟨wr.heap.size + 1, 1, none⟩ = false ∧ w3.frozen? ⟨wr.heap.size + 1, 2, none⟩ = false ∧ w3.frozen? ⟨wr.heap.size + 1, 3, none⟩ = false ∧ w3.frozen? ⟨wr.heap.size + 1, 4, none⟩ = false := by simp [World.frozen?, hs9]
                      obtain ⟨z0, z1, z2, z3, z4⟩ := z0
                      obtain ⟨f0, f1, f2, f3, f4⟩ := f0
                      have HS9 := Lib.hid hs9
                      clear hs9
                      clear hkp hpg3 hb3
                      refine hK.out _ _ ((Below.cell (w := wr) (p := ⟨bL, offL + i, none⟩) (by repeat (first | exact Below.refl _ _ | exact hB9 | refine Below.drew ?_ | refine bel_new ?_ _ | refine Below.setCell ?_ (by simp <;> omega) _)) hbLw).trans hcL2) (fun hS => ?_)
                      clear hK K
                      try simp only [Act.put, List.setIfInBounds_toArray, List.set_cons_zero, List.set_cons_succ, List.getElem_toArray, List.getElem_cons_succ, List.getElem_cons_zero]
                      refine wpAnyH_take (i := 32) (v := ?_) rfl (by kernel_rfl) (by kernel_rfl) (by kernel_rfl) (fun _ _ _ h => h) (Or.inl ⟨by rfl, ?_⟩) hS ?_
                      rotate_left
                      · intro w hSw; skip; go_simp; try with_reducible rfl
                      try simp only [Act.put, List.setIfInBounds_toArray, List.set_cons_zero, List.set_cons_succ, List.getElem_toArray, List.getElem_cons_succ, List.getElem_cons_zero]
                      refine wpAnyH_ready (rs := [34]) (by kernel_rfl) (by simp) ?_
                      refine AllReadyH.cons rfl (fun K hK => ?_) AllReadyH.nil
                      go_simp
                      refine hK.out _ _ ((Below.cell (w := wr) (p := ⟨bL, offL + i, none⟩) (by repeat (first | exact Below.refl _ _ | exact hB9 | refine Below.drew ?_ | refine bel_new ?_ _ | refine Below.setCell ?_ (by simp <;> omega) _)) hbLw).trans hcL2) (fun hS => ?_)
                      clear hK K
                      try simp only [Act.put, List.setIfInBounds_toArray, List.set_cons_zero, List.set_cons_succ, List.getElem_toArray, List.getElem_cons_succ, List.getElem_cons_zero]
                      refine wpAnyH_done (by kernel_rfl) ?_ _
                      refine NoPanic.normal ?_
                      go_wp2_with fail
                      go_meet
                      exact reg17_old HG2.out HI.out (by repeat (first | exact Below.refl _ _ | refine Below.drew ?_ | refine bel_new ?_ _ | refine Below.setCell ?_ (by simp <;> omega) _)) HKP.out.2.2 HKP.out.1 HKP.out.2.1 (al_snd' wr _ _) (by omega)
                  · go_simp
                    refine hK.out _ _ ((Below.cell (w := wr) (p := ⟨bL, offL + i, none⟩) (by repeat (first | exact Below.refl _ _ | exact hB9 | refine Below.drew ?_ | refine bel_new ?_ _ | refine Below.setCell ?_ (by simp <;> omega) _)) hbLw).trans hcL2) (fun hS => ?_)
                    clear hK K
                    try simp only [Act.put, List.setIfInBounds_toArray, List.set_cons_zero, List.set_cons_succ, List.getElem_toArray, List.getElem_cons_succ, List.getElem_cons_zero]
                    refine wpAnyH_ready (rs := [28]) (by kernel_rfl) (by simp) ?_
                    refine AllReadyH.cons rfl (fun K hK => ?_) AllReadyH.nil
                    go_simp
                    refine hK.out _ _ ((Below.cell (w := wr) (p := ⟨bL, offL + i, none⟩) (by repeat (first | exact Below.refl _ _ | exact hB9 | refine Below.drew ?_ | refine bel_new ?_ _ | refine Below.setCell ?_ (by simp <;> omega) _)) hbLw).trans hcL2) (fun hS => ?_)
                    clear hK K
                    try simp only [Act.put, List.setIfInBounds_toArray, List.set_cons_zero, List.set_cons_succ, List.getElem_toArray, List.getElem_cons_succ, List.getElem_cons_zero]
                    refine wpAnyH_ready (rs := [31]) (by kernel_rfl) (by simp) ?_
                    refine AllReadyH.cons rfl (fun K hK => ?_) AllReadyH.nil
                    go_simp
                    go_at_call 49
                    refine (hP T ((li.drop lo).take M) (.slice o1 M c1') (.slice (some ⟨_, 0, none⟩) 2 2) _ _ [nmA, nmB] C R _ (HCL.out _ (by repeat (first | exact Below.refl _ _ | refine Below.drew ?_ | refine bel_new ?_ _ | refine Below.setCell ?_ (by simp <;> omega) _))) (me_at HG2.out HMN.out (by repeat (first | exact Below.refl _ _ | refine Below.drew ?_ | refine bel_new ?_ _ | refine Below.setCell ?_ (by simp <;> omega) _)) (by with_reducible exact al_snd' wr _ _))).mono ?_
                    rintro e w3 ⟨p, nv, ev, pv, rfl, hkp, hpg3, hb3⟩
                    obtain ⟨⟨o5, c5, e5⟩, ⟨o6, c6, e6⟩, ⟨o7, c7, e7⟩⟩ := hkp.here.form
                    subst e5 e6 e7
                    have hB9 : Below wr.heap.size wr w3 := bel_then (by repeat (first | exact Below.refl _ _ | refine Below.drew ?_ | refine bel_new ?_ _ | refine Below.setCell ?_ (by simp <;> omega) _)) hb3
                    have HKP := Lib.hid (And.intro hkp (And.intro hpg3 hb3))
                    have hs9 : w3.heap[wr.heap.size]? = some (.cells #[.slice none 0 0, .int .i64 0, .slice none 0 0, .slice none 0 0, .slice none 0 0] 45 (0, 0)) := bel_get hb3 (by with_reducible exact al_fst wr _ _)
                    have z0 : w3.cell? ⟨wr.heap.size, 0, none⟩ = some (.slice none 0 0) ∧ w3.cell? ⟨wr.heap.size, 1, none⟩ = some (.int .i64 0) ∧ w3.cell? ⟨wr.heap.size, 2, none⟩ = some (.slice none 0 0) ∧ w3.cell? ⟨wr.heap.size, 3, none⟩ = some (.slice none 0 0) ∧ w3.cell? ⟨wr.heap.size, 4, none⟩ = some (.slice none 0 0) := by simp [World.cell?, hs9]
                    have f0 : w3.frozen? ⟨wr.heap.size, 0, none⟩ = false ∧ w3.frozen? ⟨wr.heap.size, 1, none⟩ = false ∧ w3.frozen? ⟨wr.heap.size, 2, none⟩ = false ∧ w3.frozen? ⟨wr.heap.size, 3, none⟩ = false ∧ w3.frozen? ⟨wr.heap.size, 4, none⟩ = false := by simp [World.frozen?, hs9]
                    obtain ⟨z0, z1, z2, z3, z4⟩ := z0
                    obtain ⟨f0, f1, f2, f3, f4⟩ := f0
                    have HS9 := Lib.hid hs9
                    clear hs9
                    clear hkp hpg3 hb3
                    refine hK.out _ _ ((Below.cell (w := wr) (p := ⟨bL, offL + i, none⟩) (by repeat (first | exact Below.refl _ _ | exact hB9 | refine Below.drew ?_ | refine bel_new ?_ _ | refine Below.setCell ?_ (by simp <;> omega) _)) hbLw).trans hcL2) (fun hS => ?_)
                    clear hK K
                    try simp only [Act.put, List.setIfInBounds_toArray, List.set_cons_zero, List.set_cons_succ, List.getElem_toArray, List.getElem_cons_succ, List.getElem_cons_zero]
                    refine wpAnyH_take (i := 32) (v := ?_) rfl (by kernel_rfl) (by kernel_rfl) (by kernel_rfl) (fun _ _ _ h => h) (Or.inl ⟨by rfl, ?_⟩) hS ?_
                    rotate_left
                    · intro w hSw; skip; go_simp; try with_reducible rfl
                    try simp only [Act.put, List.setIfInBounds_toArray, List.set_cons_zero, List.set_cons_succ, List.getElem_toArray, List.getElem_cons_succ, List.getElem_cons_zero]
                    refine wpAnyH_ready (rs := [34]) (by kernel_rfl) (by simp) ?_
                    refine AllReadyH.cons rfl (fun K hK => ?_) AllReadyH.nil
                    go_simp
                    refine hK.out _ _ ((Below.cell (w := wr) (p := ⟨bL, offL + i, none⟩) (by repeat (first | exact Below.refl _ _ | exact hB9 | refine Below.drew ?_ | refine bel_new ?_ _ | refine Below.setCell ?_ (by simp <;> omega) _)) hbLw).trans hcL2) (fun hS => ?_)
                    clear hK K
                    try simp only [Act.put, List.setIfInBounds_toArray, List.set_cons_zero, List.set_cons_succ, List.getElem_toArray, List.getElem_cons_succ, List.getElem_cons_zero]
                    refine wpAnyH_done (by kernel_rfl) ?_ _
                    refine NoPanic.normal ?_
                    go_wp2_with fail
                    go_meet
                    exact reg17_old HG2.out HI.out (by repeat (first | exact Below.refl _ _ | refine Below.drew ?_ | refine bel_new ?_ _ | refine Below.setCell ?_ (by simp <;> omega) _)) HKP.out.2.2 HKP.out.1 HKP.out.2.1 (al_fst wr _ _) (by omega)
--r17e
                case rest =>
                  obtain ⟨pst, p, nv, ev, pv, rfl, hs, hge, hb, hPG, hKP⟩ := hcut
                  obtain ⟨⟨o5, c5, e5⟩, ⟨o6, c6, e6⟩, ⟨o7, c7, e7⟩⟩ := hKP.here.form
                  subst e5 e6 e7
                  have HI3 := Lib.hid (HI.out.moved hb)
                  have HG3 := Lib.hid (HG2.out.moved hb)
                  have HS := Lib.hid hs
                  have HB := Lib.hid hb
                  have HPG := Lib.hid hPG
                  have HK := Lib.hid hKP
                  have hbs := hb.size
                  have hpsl := hp_lt hs
                  have hrc := HI3.out.hr
                  clear q0 q1 q2 q3 c0 c1 c2' hcL2 hr hpg
                  have q0 : wc.cell? ⟨wo.heap.size, 0, none⟩ = some (.int .i64 (10 + (i : Int))) ∧ wc.cell? ⟨wo.heap.size, 1, none⟩ = some (.bool fr) ∧ wc.cell? ⟨wo.heap.size, 2, none⟩ = some (.slice o2 j c2) ∧ wc.frozen? ⟨wo.heap.size, 2, none⟩ = false := by simp [World.cell?, World.frozen?, hrc]
                  obtain ⟨q0, q1, q2, q3⟩ := q0
                  have s0 : wc.cell? ⟨pst, 0, none⟩ = some (.slice none 0 0) ∧ wc.cell? ⟨pst, 1, none⟩ = some (.int .i64 p.kind) ∧ wc.cell? ⟨pst, 2, none⟩ = some (.slice o5 p.names.length c5) ∧ wc.cell? ⟨pst, 3, none⟩ = some (.slice o6 p.ends.length c6) ∧ wc.cell? ⟨pst, 4, none⟩ = some (.slice o7 p.parts.length c7) ∧ wc.frozen? ⟨pst, 0, none⟩ = false := by simp [World.cell?, World.frozen?, hs]
                  obtain ⟨s0, s1, s2, s3, s4, sf⟩ := s0
                  have npr : ¬ pst = wo.heap.size := by omega
                  have npr2 : ¬ wo.heap.size = pst := by omega
                  clear hs hb hPG hKP hrc
                  by_cases hz : j = 0 ∧ fr = false
                  · obtain ⟨hz1, hz2⟩ := hz
                    have d0 : decide ((0 : Int) < (j : Int)) = false := by simp; omega
                    have d1 : decide (0 < j) = false := by simp; omega
                    have HSW := HS
                    have HRW := Lib.hid HI3.out.hr
                    have HPW := Lib.hid (show KP (fun k => (k ≠ wo.heap.size ∧ k ≠ p5 ∧ k ≠ w.heap.size ∧ (Value.slice o n c).ownBlock ≠ some k) ∧ (Value.slice o2 j c2).ownBlock ≠ some k) wc (fun w' => PtIs w' p (.slice o5 p.names.length c5) (.slice o6 p.ends.length c6) (.slice o7 p.parts.length c7)) from HK.out.sub fun k _ hk => hk.1)
                    rw [hz2] at q1
                    have HZ := Lib.hid (And.intro hz1 hz2)
                    clear hz1 hz2
                    go_upto_region 20 with (fail)
                    clear q0 q1 q2 q3 s0 s1 s2 s3 s4 sf
                    have sW : wc.heap[pst]? = some (.cells #[.slice none 0 0, .int .i64 p.kind, .slice o5 p.names.length c5, .slice o6 p.ends.length c6, .slice o7 p.parts.length c7] 45 (0, 0)) := HSW.out
                    have s0 : wc.cell? ⟨pst, 0, none⟩ = some (.slice none 0 0) ∧ wc.cell? ⟨pst, 1, none⟩ = some (.int .i64 p.kind) ∧ wc.cell? ⟨pst, 2, none⟩ = some (.slice o5 p.names.length c5) ∧ wc.cell? ⟨pst, 3, none⟩ = some (.slice o6 p.ends.length c6) ∧ wc.cell? ⟨pst, 4, none⟩ = some (.slice o7 p.parts.length c7) := by simp [World.cell?, sW]
                    obtain ⟨s0, s1, s2, s3, s4⟩ := s0
                    have hrw : wc.heap[wo.heap.size]? = some (.cells #[.int .i64 (10 + (i : Int)), .bool fr, .slice o2 j c2] 38 (0, 0)) := HRW.out
                    have q0 : wc.cell? ⟨wo.heap.size, 0, none⟩ = some (.int .i64 (10 + (i : Int))) ∧ wc.cell? ⟨wo.heap.size, 1, none⟩ = some (.bool fr) ∧ wc.cell? ⟨wo.heap.size, 2, none⟩ = some (.slice o2 j c2) ∧ wc.frozen? ⟨wo.heap.size, 2, none⟩ = false := by simp [World.cell?, World.frozen?, hrw]
                    obtain ⟨q0, q1, q2, q3⟩ := q0
                    have HROW := Lib.hid (show wc.ownsRow wo.heap.size 45 5 (.slice o2 j c2) j (qs.flatMap five) from by have := HI.out.own.row; rw [HI.out.len] at this; exact owns_below this HB.out)
                    have hN : (Value.slice o2 j c2).ownBlock ≠ some wo.heap.size := own_far HROW.out hrw (by decide)
                    have hsz : wo.heap.size < wc.heap.size := hp_lt hrw
                    have n0 : ¬ wo.heap.size = wc.heap.size := by omega
                    have n1 : wo.heap.size < wc.heap.size + 1 := by omega
                    have hj2 : j ≤ 2 := by omega
                    have HW5 := Lib.hid HB.out
                    clear sW
                    go_wp2_with (
                      at_builtin; refine wpList_append_far _ rfl _ _ 36 rfl wo.heap.size 45 is _ 5 104 Try.underlying36 hs0 hs1 hs2 hs3 rfl (by decide) (.slice o2 j c2) j (qs.flatMap five) rfl (by repeat (first | exact HROW.out | refine World.ownsRow.alloc ?_ _ | refine owns_drew ?_)) _ 1 _ rfl (by first | exact row_new rfl (by simp)) rfl (by simp [Value.oneCell']) (by unfold maxLen; omega) (by omega) (by simp; omega) ?_; intro v9 w9 hown9 hg9 hf9 hb9; obtain ⟨o9, c9, rfl⟩ := owns_slice hown9
                      have hp9 : w9.heap[wo.heap.size]? = some (.cells #[.int .i64 (10 + (i : Int)), .bool fr, .slice o2 j c2] 38 (0, 0)) := by
                        rw [hg9.block _ (by simp; omega) (fun e => hN e.symm)]; exact bel_get (by repeat (first | exact Below.refl _ _ | refine Below.drew ?_ | refine bel_new ?_ _)) hrw
                      have z0 : w9.cell? ⟨wo.heap.size, 2, none⟩ = some (.slice o2 j c2) := by simp [World.cell?, hp9]
                      have z1 : w9.frozen? ⟨wo.heap.size, 2, none⟩ = false := by simp [World.frozen?, hp9])
                    obtain ⟨w5, hw5⟩ : ∃ w5, w5 = w9.setCell ⟨wo.heap.size, 2, none⟩ (.slice o9 (j + 1) c9) := ⟨_, rfl⟩
                    rw [← hw5]
                    have hL5 := HI.out.step (st := ⟨[], p⟩) (cv := .slice none 0 0) (nv := .slice o5 p.names.length c5) (ev := .slice o6 p.ends.length c6) (pv := .slice o7 p.parts.length c7) (by repeat (first | exact HW5.out | refine Below.drew ?_ | refine bel_new ?_ _))
                      ((kp_and (fun w' _ => Row.nil w') HPW.out (fun w' a b => And.intro a b)).to (.of (by repeat (first | exact Below.refl _ _ | refine Below.drew ?_ | refine bel_new ?_ _)))) ⟨.inl ⟨rfl, by simp [HZ.out.1, HZ.out.2]⟩, HPG.out⟩ hown9 rfl hg9 hf9
                    rw [← hw5] at hL5
                    obtain ⟨qs5, hL5⟩ := hL5
                    have HL5 := Lib.hid hL5
                    clear hw5 hL5 hown9 hg9 hf9 hb9 hp9 z0 z1
                    go_wp2_with fail
                    go_roundg g2
                    case measure => omega
                    case rel => exact ⟨j + 1, c9, o9, qs5, by omega, by simp, HL5.out⟩
                  · have hz2 : (decide (j = 0) && !fr) = false := by
                      cases hfr : fr
                      · have : ¬ j = 0 := fun e => hz ⟨e, hfr⟩
                        simp [this]
                      · simp
                    rcases Nat.eq_zero_or_pos j with hj0 | hj0
                    · have hfr : fr = true := by
                        cases hfr : fr
                        · exact absurd ⟨hj0, hfr⟩ hz
                        · rfl
                      have d0 : decide ((0 : Int) < (j : Int)) = false := by simp; omega
                      have d1 : decide (0 < j) = false := by simp; omega
                      rw [hfr] at q1
                      clear hj0 hfr
                      obtain ⟨op, np, cp, ns, hnl, hrowc, hsub, hcall⟩ := pick_kp C (.slice (some ⟨cb, 0, none⟩) C.length C.length) (wrap64 (k.tdiv 4)) wc (names_kp (S := fun k => k = cb) HG3.out.hc rfl HMN.out.lens.1.1 HMN.out.lens.1.2) HMN.out.lens.1.1 HMN.out.lens.1.2
                      subst hnl
                      have HCR := Lib.hid (And.intro hrowc hsub)
                      have HCA := Lib.hid hcall
                      clear hrowc hsub hcall
                      go_upto_region 20 with (
                        go_at_call 50; with_reducible refine (HCA.out _).mono ?_; rintro e w3 ⟨rfl, hw3⟩; obtain rfl : wc = w3 := hw3.symm)
                      obtain ⟨w6, hw6⟩ : ∃ w6, w6 = wc.setCell ⟨pst, 0, none⟩ (.slice op ns.length cp) := ⟨_, rfl⟩
                      rw [← hw6]
                      have hb6 : Below wr.heap.size wr w6 := by rw [hw6]; exact HB.out.setCell hge _
                      have HSW := Lib.hid (show w6.heap[pst]? = some (.cells #[.slice op ns.length cp, .int .i64 p.kind, .slice o5 p.names.length c5, .slice o6 p.ends.length c6, .slice o7 p.parts.length c7] 45 (0, 0)) from by rw [hw6]; simp [World.setCell, Array.getElem?_modify, HS.out])
                      have HRW := Lib.hid (show w6.heap[wo.heap.size]? = some (.cells #[.int .i64 (10 + (i : Int)), .bool fr, .slice o2 j c2] 38 (0, 0)) from by rw [hw6, Below.heap_setCell _ _ _ _ (show wo.heap.size ≠ pst by omega)]; exact HI3.out.hr)
                      have hag6 : Ag (fun k => k ≠ pst) wc w6 := by rw [hw6]; exact (Ag.refl _ _).setCell (fun h => h rfl) _
                      have HPW := Lib.hid (show KP (fun k => (k ≠ wo.heap.size ∧ k ≠ p5 ∧ k ≠ w.heap.size ∧ (Value.slice o n c).ownBlock ≠ some k) ∧ (Value.slice o2 j c2).ownBlock ≠ some k) w6 (fun w' => PtIs w' p (.slice o5 p.names.length c5) (.slice o6 p.ends.length c6) (.slice o7 p.parts.length c7)) from (HK.out.to (hag6.sub fun k _ hk => hk.2)).sub fun k _ hk => hk.1)
                      have HRC := Lib.hid (show KP (fun k => (k ≠ wo.heap.size ∧ k ≠ p5 ∧ k ≠ w.heap.size ∧ (Value.slice o n c).ownBlock ≠ some k) ∧ (Value.slice o2 j c2).ownBlock ≠ some k) w6 (fun w' => Row w' (.slice op ns.length cp) ns.length (strs ns)) from (HCR.out.1.to (hag6.sub fun k _ hk => by subst hk; have := HG3.out.cB; have := HG.out.hB; omega)).sub fun k _ hk => by subst hk; exact cb_far HG3.out HI3.out HG.out.hB)
                      clear hw6 hag6 q0 q1 q2 q3 s0 s1 s2 s3 s4 sf
                      have sW : w6.heap[pst]? = some (.cells #[.slice op ns.length cp, .int .i64 p.kind, .slice o5 p.names.length c5, .slice o6 p.ends.length c6, .slice o7 p.parts.length c7] 45 (0, 0)) := HSW.out
                      have s0 : w6.cell? ⟨pst, 0, none⟩ = some (.slice op ns.length cp) ∧ w6.cell? ⟨pst, 1, none⟩ = some (.int .i64 p.kind) ∧ w6.cell? ⟨pst, 2, none⟩ = some (.slice o5 p.names.length c5) ∧ w6.cell? ⟨pst, 3, none⟩ = some (.slice o6 p.ends.length c6) ∧ w6.cell? ⟨pst, 4, none⟩ = some (.slice o7 p.parts.length c7) := by simp [World.cell?, sW]
                      obtain ⟨s0, s1, s2, s3, s4⟩ := s0
                      have hrw : w6.heap[wo.heap.size]? = some (.cells #[.int .i64 (10 + (i : Int)), .bool fr, .slice o2 j c2] 38 (0, 0)) := HRW.out
                      have q0 : w6.cell? ⟨wo.heap.size, 0, none⟩ = some (.int .i64 (10 + (i : Int))) ∧ w6.cell? ⟨wo.heap.size, 1, none⟩ = some (.bool fr) ∧ w6.cell? ⟨wo.heap.size, 2, none⟩ = some (.slice o2 j c2) ∧ w6.frozen? ⟨wo.heap.size, 2, none⟩ = false := by simp [World.cell?, World.frozen?, hrw]
                      obtain ⟨q0, q1, q2, q3⟩ := q0
                      have HROW := Lib.hid (show w6.ownsRow wo.heap.size 45 5 (.slice o2 j c2) j (qs.flatMap five) from by have := HI.out.own.row; rw [HI.out.len] at this; exact owns_below this hb6)
                      have hN : (Value.slice o2 j c2).ownBlock ≠ some wo.heap.size := own_far HROW.out hrw (by decide)
                      have hsz : wo.heap.size < w6.heap.size := hp_lt hrw
                      have n0 : ¬ wo.heap.size = w6.heap.size := by omega
                      have n1 : wo.heap.size < w6.heap.size + 1 := by omega
                      have hj2 : j ≤ 2 := by omega
                      have HW5 := Lib.hid hb6
                      clear sW
                      go_wp2_with (
                        at_builtin; refine wpList_append_far _ rfl _ _ 36 rfl wo.heap.size 45 is _ 5 104 Try.underlying36 hs0 hs1 hs2 hs3 rfl (by decide) (.slice o2 j c2) j (qs.flatMap five) rfl (by repeat (first | exact HROW.out | refine World.ownsRow.alloc ?_ _ | refine owns_drew ?_)) _ 1 _ rfl (by first | exact row_new rfl (by simp)) rfl (by simp [Value.oneCell']) (by unfold maxLen; omega) (by omega) (by simp; omega) ?_; intro v9 w9 hown9 hg9 hf9 hb9; obtain ⟨o9, c9, rfl⟩ := owns_slice hown9
                        have hp9 : w9.heap[wo.heap.size]? = some (.cells #[.int .i64 (10 + (i : Int)), .bool fr, .slice o2 j c2] 38 (0, 0)) := by
                          rw [hg9.block _ (by simp; omega) (fun e => hN e.symm)]; exact bel_get (by repeat (first | exact Below.refl _ _ | refine Below.drew ?_ | refine bel_new ?_ _)) hrw
                        have z0 : w9.cell? ⟨wo.heap.size, 2, none⟩ = some (.slice o2 j c2) := by simp [World.cell?, hp9]
                        have z1 : w9.frozen? ⟨wo.heap.size, 2, none⟩ = false := by simp [World.frozen?, hp9])
                      obtain ⟨w5, hw5⟩ : ∃ w5, w5 = w9.setCell ⟨wo.heap.size, 2, none⟩ (.slice o9 (j + 1) c9) := ⟨_, rfl⟩
                      rw [← hw5]
                      have hL5 := HI.out.step (st := ⟨ns, p⟩) (cv := .slice op ns.length cp) (nv := .slice o5 p.names.length c5) (ev := .slice o6 p.ends.length c6) (pv := .slice o7 p.parts.length c7) (by repeat (first | exact HW5.out | refine Below.drew ?_ | refine bel_new ?_ _))
                        ((kp_and HRC.out HPW.out (fun w' a b => And.intro a b)).to (.of (by repeat (first | exact Below.refl _ _ | refine Below.drew ?_ | refine bel_new ?_ _)))) ⟨.inr ⟨HMN.out.calls _ HCR.out.2, by simp [hz2]⟩, HPG.out⟩ hown9 rfl hg9 hf9
                      rw [← hw5] at hL5
                      obtain ⟨qs5, hL5⟩ := hL5
                      have HL5 := Lib.hid hL5
                      clear hw5 hL5 hown9 hg9 hf9 hb9 hp9 z0 z1
                      go_wp2_with fail
                      go_roundg g2
                      case measure => omega
                      case rel => exact ⟨j + 1, c9, o9, qs5, by omega, by simp, HL5.out⟩
                    · have d0 : decide ((0 : Int) < (j : Int)) = true := by simp; omega
                      have d1 : decide (0 < j) = true := by simp; omega
                      obtain ⟨op, np, cp, ns, hnl, hrowc, hsub, hcall⟩ := pick_kp C (.slice (some ⟨cb, 0, none⟩) C.length C.length) (wrap64 (k.tdiv 4)) wc (names_kp (S := fun k => k = cb) HG3.out.hc rfl HMN.out.lens.1.1 HMN.out.lens.1.2) HMN.out.lens.1.1 HMN.out.lens.1.2
                      subst hnl
                      have HCR := Lib.hid (And.intro hrowc hsub)
                      have HCA := Lib.hid hcall
                      clear hrowc hsub hcall
                      go_upto_region 20 with (
                        go_at_call 50; with_reducible refine (HCA.out _).mono ?_; rintro e w3 ⟨rfl, hw3⟩; obtain rfl : wc = w3 := hw3.symm)
                      obtain ⟨w6, hw6⟩ : ∃ w6, w6 = wc.setCell ⟨pst, 0, none⟩ (.slice op ns.length cp) := ⟨_, rfl⟩
                      rw [← hw6]
                      have hb6 : Below wr.heap.size wr w6 := by rw [hw6]; exact HB.out.setCell hge _
                      have HSW := Lib.hid (show w6.heap[pst]? = some (.cells #[.slice op ns.length cp, .int .i64 p.kind, .slice o5 p.names.length c5, .slice o6 p.ends.length c6, .slice o7 p.parts.length c7] 45 (0, 0)) from by rw [hw6]; simp [World.setCell, Array.getElem?_modify, HS.out])
                      have HRW := Lib.hid (show w6.heap[wo.heap.size]? = some (.cells #[.int .i64 (10 + (i : Int)), .bool fr, .slice o2 j c2] 38 (0, 0)) from by rw [hw6, Below.heap_setCell _ _ _ _ (show wo.heap.size ≠ pst by omega)]; exact HI3.out.hr)
                      have hag6 : Ag (fun k => k ≠ pst) wc w6 := by rw [hw6]; exact (Ag.refl _ _).setCell (fun h => h rfl) _
                      have HPW := Lib.hid (show KP (fun k => (k ≠ wo.heap.size ∧ k ≠ p5 ∧ k ≠ w.heap.size ∧ (Value.slice o n c).ownBlock ≠ some k) ∧ (Value.slice o2 j c2).ownBlock ≠ some k) w6 (fun w' => PtIs w' p (.slice o5 p.names.length c5) (.slice o6 p.ends.length c6) (.slice o7 p.parts.length c7)) from (HK.out.to (hag6.sub fun k _ hk => hk.2)).sub fun k _ hk => hk.1)
                      have HRC := Lib.hid (show KP (fun k => (k ≠ wo.heap.size ∧ k ≠ p5 ∧ k ≠ w.heap.size ∧ (Value.slice o n c).ownBlock ≠ some k) ∧ (Value.slice o2 j c2).ownBlock ≠ some k) w6 (fun w' => Row w' (.slice op ns.length cp) ns.length (strs ns)) from (HCR.out.1.to (hag6.sub fun k _ hk => by subst hk; have := HG3.out.cB; have := HG.out.hB; omega)).sub fun k _ hk => by subst hk; exact cb_far HG3.out HI3.out HG.out.hB)
                      clear hw6 hag6 q0 q1 q2 q3 s0 s1 s2 s3 s4 sf
                      have sW : w6.heap[pst]? = some (.cells #[.slice op ns.length cp, .int .i64 p.kind, .slice o5 p.names.length c5, .slice o6 p.ends.length c6, .slice o7 p.parts.length c7] 45 (0, 0)) := HSW.out
                      have s0 : w6.cell? ⟨pst, 0, none⟩ = some (.slice op ns.length cp) ∧ w6.cell? ⟨pst, 1, none⟩ = some (.int .i64 p.kind) ∧ w6.cell? ⟨pst, 2, none⟩ = some (.slice o5 p.names.length c5) ∧ w6.cell? ⟨pst, 3, none⟩ = some (.slice o6 p.ends.length c6) ∧ w6.cell? ⟨pst, 4, none⟩ = some (.slice o7 p.parts.length c7) := by simp [World.cell?, sW]
                      obtain ⟨s0, s1, s2, s3, s4⟩ := s0
                      have hrw : w6.heap[wo.heap.size]? = some (.cells #[.int .i64 (10 + (i : Int)), .bool fr, .slice o2 j c2] 38 (0, 0)) := HRW.out
                      have q0 : w6.cell? ⟨wo.heap.size, 0, none⟩ = some (.int .i64 (10 + (i : Int))) ∧ w6.cell? ⟨wo.heap.size, 1, none⟩ = some (.bool fr) ∧ w6.cell? ⟨wo.heap.size, 2, none⟩ = some (.slice o2 j c2) ∧ w6.frozen? ⟨wo.heap.size, 2, none⟩ = false := by simp [World.cell?, World.frozen?, hrw]
                      obtain ⟨q0, q1, q2, q3⟩ := q0
                      have HROW := Lib.hid (show w6.ownsRow wo.heap.size 45 5 (.slice o2 j c2) j (qs.flatMap five) from by have := HI.out.own.row; rw [HI.out.len] at this; exact owns_below this hb6)
                      have hN : (Value.slice o2 j c2).ownBlock ≠ some wo.heap.size := own_far HROW.out hrw (by decide)
                      have hsz : wo.heap.size < w6.heap.size := hp_lt hrw
                      have n0 : ¬ wo.heap.size = w6.heap.size := by omega
                      have n1 : wo.heap.size < w6.heap.size + 1 := by omega
                      have hj2 : j ≤ 2 := by omega
                      have HW5 := Lib.hid hb6
                      clear sW
                      go_wp2_with (
                        at_builtin; refine wpList_append_far _ rfl _ _ 36 rfl wo.heap.size 45 is _ 5 104 Try.underlying36 hs0 hs1 hs2 hs3 rfl (by decide) (.slice o2 j c2) j (qs.flatMap five) rfl (by repeat (first | exact HROW.out | refine World.ownsRow.alloc ?_ _ | refine owns_drew ?_)) _ 1 _ rfl (by first | exact row_new rfl (by simp)) rfl (by simp [Value.oneCell']) (by unfold maxLen; omega) (by omega) (by simp; omega) ?_; intro v9 w9 hown9 hg9 hf9 hb9; obtain ⟨o9, c9, rfl⟩ := owns_slice hown9
                        have hp9 : w9.heap[wo.heap.size]? = some (.cells #[.int .i64 (10 + (i : Int)), .bool fr, .slice o2 j c2] 38 (0, 0)) := by
                          rw [hg9.block _ (by simp; omega) (fun e => hN e.symm)]; exact bel_get (by repeat (first | exact Below.refl _ _ | refine Below.drew ?_ | refine bel_new ?_ _)) hrw
                        have z0 : w9.cell? ⟨wo.heap.size, 2, none⟩ = some (.slice o2 j c2) := by simp [World.cell?, hp9]
                        have z1 : w9.frozen? ⟨wo.heap.size, 2, none⟩ = false := by simp [World.frozen?, hp9])
                      obtain ⟨w5, hw5⟩ : ∃ w5, w5 = w9.setCell ⟨wo.heap.size, 2, none⟩ (.slice o9 (j + 1) c9) := ⟨_, rfl⟩
                      rw [← hw5]
                      have hL5 := HI.out.step (st := ⟨ns, p⟩) (cv := .slice op ns.length cp) (nv := .slice o5 p.names.length c5) (ev := .slice o6 p.ends.length c6) (pv := .slice o7 p.parts.length c7) (by repeat (first | exact HW5.out | refine Below.drew ?_ | refine bel_new ?_ _))
                        ((kp_and HRC.out HPW.out (fun w' a b => And.intro a b)).to (.of (by repeat (first | exact Below.refl _ _ | refine Below.drew ?_ | refine bel_new ?_ _)))) ⟨.inr ⟨HMN.out.calls _ HCR.out.2, by simp [hz2]⟩, HPG.out⟩ hown9 rfl hg9 hf9
                      rw [← hw5] at hL5
                      obtain ⟨qs5, hL5⟩ := hL5
                      have HL5 := Lib.hid hL5
                      clear hw5 hL5 hown9 hg9 hf9 hb9 hp9 z0 z1
                      go_wp2_with fail
                      go_roundg g2
                      case measure => omega
                      case rel => exact ⟨j + 1, c9, o9, qs5, by omega, by simp, HL5.out⟩
        · have hx : (¬ i < L.length) ∨ (i < L.length ∧ i = 3) := by omega
          clear hi
          rcases hx with hx | ⟨hx, rfl⟩
          · have hd1 : decide ((i : Int) < (L.length : Int)) = false := by simp; omega
            have hd1b : decide (i < L.length) = false := by simpa using hx
            go_wp2_with fail
            simp [bodyPost, results, Try.results18, go_sem, r0, r1, r2, r3]
            exact HG.out.fin HMN.out hn3 _ _
          · have hd1 : decide ((3 : Int) < (L.length : Int)) = true := by simp; omega
            have hd1b : decide (3 < L.length) = true := by simpa using hx
            go_wp2_with fail
            simp [bodyPost, results, Try.results18, go_sem, r0, r1, r2, r3]
            exact HG.out.fin HMN.out hn3 _ _
end Go.Proofs.Ytkmnigoikkffnaa
