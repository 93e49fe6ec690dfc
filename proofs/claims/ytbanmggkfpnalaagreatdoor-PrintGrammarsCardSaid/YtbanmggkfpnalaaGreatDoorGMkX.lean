/- gobolaw11.Make, at any numbers. -/
import Derived.Test.YtbanmggkfpnalaaGreatDoorGMkG
import Derived.Deep.RegionHeld3
import Derived.Deep.CutBlock
set_option linter.unusedVariables false
set_option linter.unusedSimpArgs false
namespace Go.Proofs.YtbanmggkfpnalaaGreatDoor
open Go.RowKit Ru

theorem mg_start {w W wc W4 : World} {p5 pt pa pb : Nat} (b0 : Below w.heap.size w W) (r0 : W.heap[w.heap.size]? = some (.cells #[.slice none 0 0, .slice none 0 0] 35 (0, 0)))
    (r1 : W.heap[w.heap.size + 1 + 1]? = some (.cells #[.int .i32 99, .int .i32 99] 53 (0, 0))) (r2 : W.heap[w.heap.size + 1 + 1 + 1 + 1]? = some (.cells #[.int .i32 100, .int .i32 100] 53 (0, 0))) (hs : W.heap.size = w.heap.size + 7)
    (h5 : W.heap.size ≤ p5) (ht : W.heap.size ≤ pt) (hb : Below W.heap.size W wc) (g5 : wc.heap[p5]? = some (.cells #[.slice (some ⟨pt, 0, none⟩) 4 4, .slice none 0 0] 35 (0, 0)))
    (gt : wc.heap[pt]? = some (.cells (t0cells pa pb (w.heap.size + 1 + 1) (w.heap.size + 1 + 1 + 1 + 1)) 61 (0, 0)))
    (ga : wc.heap[pa]? = some (.cells #[.int .i32 97, .int .i32 97] 53 (0, 0))) (gb : wc.heap[pb]? = some (.cells #[.int .i32 10, .int .i32 10, .int .i32 98, .int .i32 98] 53 (0, 0)))
    (e4 : W4 = (wc.alloc (.cells #[.string ⟨#[111]⟩] 9)).alloc (.cells #[.string ⟨#[99]⟩] 9)) :
    MS false w p5 (.slice (some ⟨wc.heap.size, 0, none⟩) 1 1) (.slice (some ⟨wc.heap.size + 1, 0, none⟩) 1 1) W4 ∧ M4 w p5 pt pa pb W4 := by
  have hb4 : Below wc.heap.size wc W4 := by rw [e4]; exact bel_new (bel_new (Below.refl _ _) _) _
  have hal := allocs_heap [.cells #[.string ⟨#[111]⟩] 9, .cells #[.string ⟨#[99]⟩] 9] wc
  have q0 : W4.heap[wc.heap.size]? = some (.cells #[.string ⟨#[111]⟩] 9 (0, 0)) := by rw [e4]; exact hal 0 (by simp)
  have q1 : W4.heap[wc.heap.size + 1]? = some (.cells #[.string ⟨#[99]⟩] 9 (0, 0)) := by rw [e4]; exact hal 1 (by simp)
  have hsz : W4.heap.size = wc.heap.size + 2 := by rw [e4]; simp
  have m : Mk0 w W4 pt pa pb (w.heap.size + 1 + 1) (w.heap.size + 1 + 1 + 1 + 1) :=
    ⟨bel_then (bel_then b0 hb) hb4, by omega, bel_get hb4 gt, bel_get hb4 ga, bel_get hb4 gb, bel_get hb4 (bel_get hb r1), bel_get hb4 (bel_get hb r2)⟩
  have hg := bel_get hb4 g5
  have hres := bel_get hb4 (bel_get hb r0)
  have hX : ∀ {k : Nat} {cs : Array Value} {t : TypeId}, W4.heap[k]? = some (.cells cs t (0, 0)) → t ≠ 35 → k ≠ p5 ∧ k ≠ w.heap.size := fun h ht => ⟨type_far h hg ht, type_far h hres ht⟩
  have hT : TkO (fun k => k ≠ p5 ∧ k ≠ w.heap.size) W4 w.heap.size (.slice (some ⟨pt, 0, none⟩) 4 4) (ps0 pa pb (w.heap.size + 1 + 1) (w.heap.size + 1 + 1 + 1 + 1)) :=
    m.tkx (hX m.ha (by decide)) (hX m.hb (by decide)) (hX m.hc (by decide)) (hX m.hd (by decide))
  have hK := tko_kpx hT (fun k e => by simp [Value.ownBlock] at e; subst e; exact hX m.ht (by decide))
  have h5l := hp_lt hg
  refine ⟨⟨wc.heap.size, wc.heap.size + 1, T0, [nmO], [nmC], .slice (some ⟨pt, 0, none⟩) 4 4, rfl, rfl, .inl ⟨rfl, rfl, rfl⟩, ⟨rfl, rfl, rfl⟩, ?_⟩, m, hres, hg, by omega⟩
  exact ⟨rfl, fun p h => by simp at h, hres, hg, Own.nil, (hK.sub (fun k hk h => ⟨hk, h⟩)), q0, q1, m.bel, Nat.le_refl _, by omega, h5l, by omega, by omega⟩
theorem keep6 {w w' : World} {p q : Nat} {x1 x2 x3 x4 x5 x6 : Value} (hb : Below w.heap.size w w') (h1 : w.cell? ⟨p, 0, none⟩ = some x1) (h2 : w.cell? ⟨p, 1, none⟩ = some x2) (h3 : w.cell? ⟨p, 2, none⟩ = some x3) (h4 : w.cell? ⟨q, 0, none⟩ = some x4) (h5 : w.cell? ⟨q, 1, none⟩ = some x5) (h6 : w.cell? ⟨q, 2, none⟩ = some x6) : w'.cell? ⟨p, 0, none⟩ = some x1 ∧ w'.cell? ⟨p, 1, none⟩ = some x2 ∧ w'.cell? ⟨p, 2, none⟩ = some x3 ∧ w'.cell? ⟨q, 0, none⟩ = some x4 ∧ w'.cell? ⟨q, 1, none⟩ = some x5 ∧ w'.cell? ⟨q, 2, none⟩ = some x6 :=
  ⟨cell_later hb h1, cell_later hb h2, cell_later hb h3, cell_later hb h4, cell_later hb h5, cell_later hb h6⟩
theorem keep6' {w w' : World} {p q : Nat} {x1 x2 x3 x4 x5 x6 : Value} (hc : ∀ k off, (k = p ∨ k = q) → w'.cell? ⟨k, off, none⟩ = w.cell? ⟨k, off, none⟩) (h1 : w.cell? ⟨p, 0, none⟩ = some x1) (h2 : w.cell? ⟨p, 1, none⟩ = some x2) (h3 : w.cell? ⟨p, 2, none⟩ = some x3) (h4 : w.cell? ⟨q, 0, none⟩ = some x4) (h5 : w.cell? ⟨q, 1, none⟩ = some x5) (h6 : w.cell? ⟨q, 2, none⟩ = some x6) : w'.cell? ⟨p, 0, none⟩ = some x1 ∧ w'.cell? ⟨p, 1, none⟩ = some x2 ∧ w'.cell? ⟨p, 2, none⟩ = some x3 ∧ w'.cell? ⟨q, 0, none⟩ = some x4 ∧ w'.cell? ⟨q, 1, none⟩ = some x5 ∧ w'.cell? ⟨q, 2, none⟩ = some x6 :=
  ⟨(hc _ _ (.inl rfl)).trans h1, (hc _ _ (.inl rfl)).trans h2, (hc _ _ (.inl rfl)).trans h3, (hc _ _ (.inr rfl)).trans h4, (hc _ _ (.inr rfl)).trans h5, (hc _ _ (.inr rfl)).trans h6⟩
theorem keep6s {w w' : World} {p q : Nat} {x1 x2 x3 x4 x5 x6 : Value} {g i : Nat} {u : Value} (hc : ∀ k off, (k = p ∨ k = q) → w'.cell? ⟨k, off, none⟩ = w.cell? ⟨k, off, none⟩) (n1 : g ≠ p) (n2 : g ≠ q) (h1 : w.cell? ⟨p, 0, none⟩ = some x1) (h2 : w.cell? ⟨p, 1, none⟩ = some x2) (h3 : w.cell? ⟨p, 2, none⟩ = some x3) (h4 : w.cell? ⟨q, 0, none⟩ = some x4) (h5 : w.cell? ⟨q, 1, none⟩ = some x5) (h6 : w.cell? ⟨q, 2, none⟩ = some x6) : (w'.setCell ⟨g, i, none⟩ u).cell? ⟨p, 0, none⟩ = some x1 ∧ (w'.setCell ⟨g, i, none⟩ u).cell? ⟨p, 1, none⟩ = some x2 ∧ (w'.setCell ⟨g, i, none⟩ u).cell? ⟨p, 2, none⟩ = some x3 ∧ (w'.setCell ⟨g, i, none⟩ u).cell? ⟨q, 0, none⟩ = some x4 ∧ (w'.setCell ⟨g, i, none⟩ u).cell? ⟨q, 1, none⟩ = some x5 ∧ (w'.setCell ⟨g, i, none⟩ u).cell? ⟨q, 2, none⟩ = some x6 := by
  have k1 : ∀ off, (w'.setCell ⟨g, i, none⟩ u).cell? ⟨p, off, none⟩ = w.cell? ⟨p, off, none⟩ := fun off => (World.cell?_setCell_far _ _ _ _ n1).trans (hc _ _ (.inl rfl))
  have k2 : ∀ off, (w'.setCell ⟨g, i, none⟩ u).cell? ⟨q, off, none⟩ = w.cell? ⟨q, off, none⟩ := fun off => (World.cell?_setCell_far _ _ _ _ n2).trans (hc _ _ (.inr rfl))
  exact ⟨(k1 _).trans h1, (k1 _).trans h2, (k1 _).trans h3, (k2 _).trans h4, (k2 _).trans h5, (k2 _).trans h6⟩
theorem six_far {W X w9 : World} {row : Option Nat} {pc pd : Nat} (hg : X.grownBy w9 row) (hX : Below W.heap.size W X) (hc : pc < W.heap.size) (hd : pd < W.heap.size) (n1 : some pc ≠ row) (n2 : some pd ≠ row) :
    ∀ q off, (q = pc ∨ q = pd) → w9.cell? ⟨q, off, none⟩ = W.cell? ⟨q, off, none⟩ := by
  intro q off hq
  have hl : q < W.heap.size := hq.elim (fun e => e ▸ hc) (fun e => e ▸ hd)
  have h1 := hg.block q (Nat.lt_of_lt_of_le hl hX.size) (hq.elim (fun e => e ▸ n1) (fun e => e ▸ n2))
  unfold World.cell?
  rw [h1, hX.block q hl]
set_option maxHeartbeats 80000000 in
set_option maxRecDepth 100000 in
def mkX : PSigma fun X : Prop => PSigma fun Y : Prop => (PatOK → X → Y → MakeOKF) := by
  apply PSigma.mk
  case snd =>
  apply PSigma.mk
  case snd =>
  intro hP HX0 HY0 L vs lv w hL hLB
  have HX1 := Lib.hid HX0
  have HY1 := Lib.hid HY0
  clear HX0 HY0
  obtain ⟨ii, hi, hz0, hz1, hz2⟩ := infoToken
  obtain ⟨ir, hr0, hr1, hr2, hr3⟩ := infoRule
  obtain ⟨is, hs0, hs1, hs2, hs3⟩ := infoStep
  have HLL := Lib.hid hL
  obtain ⟨ol, cl, rfl, -⟩ := hL.row
  clear hL
  go_enter Tryz.func16, Tryz.ntmps16
  go_upto_region 2 with (go_at_call 19; refine (one_exact _ _).mono ?_; rintro e w2 ⟨rfl, rfl⟩)
  obtain ⟨W, hW⟩ : ∃ W, W = (((((((w.alloc (.cells #[.slice none 0 0, .slice none 0 0] 35)).alloc (.cells #[.int .i64 2, .slice (some ⟨w.heap.size + 1 + 1, 0, none⟩) 1 1, .slice none 0 0] 25)).alloc (.cells #[.int .i32 99, .int .i32 99] 53)).alloc (.cells #[.int .i64 2, .slice (some ⟨w.heap.size + 1 + 1 + 1 + 1, 0, none⟩) 1 1, .slice none 0 0] 25)).alloc (.cells #[.int .i32 100, .int .i32 100] 53)).alloc (.cells #[.int .i64 2, .slice (some ⟨w.heap.size + 1 + 1, 0, none⟩) 1 1, .slice none 0 0] 25)).alloc (.cells #[.int .i64 2, .slice (some ⟨w.heap.size + 1 + 1 + 1 + 1, 0, none⟩) 1 1, .slice none 0 0] 25)) := ⟨_, rfl⟩
  rw [← hW]
  have c0 : W.cell? ⟨w.heap.size + 1 + 1 + 1 + 1 + 1, 0, none⟩ = some (.int .i64 2) ∧ W.cell? ⟨w.heap.size + 1 + 1 + 1 + 1 + 1, 1, none⟩ = some (.slice (some ⟨w.heap.size + 1 + 1, 0, none⟩) 1 1) ∧ W.cell? ⟨w.heap.size + 1 + 1 + 1 + 1 + 1, 2, none⟩ = some (.slice none 0 0) := by rw [hW]; simp [go_sem]
  have c1 : W.cell? ⟨w.heap.size + 1 + 1 + 1 + 1 + 1 + 1, 0, none⟩ = some (.int .i64 2) ∧ W.cell? ⟨w.heap.size + 1 + 1 + 1 + 1 + 1 + 1, 1, none⟩ = some (.slice (some ⟨w.heap.size + 1 + 1 + 1 + 1, 0, none⟩) 1 1) ∧ W.cell? ⟨w.heap.size + 1 + 1 + 1 + 1 + 1 + 1, 2, none⟩ = some (.slice none 0 0) := by rw [hW]; simp [go_sem]
  have hWs : W.heap.size = w.heap.size + 7 := by rw [hW]; simp
  have hWb : Below w.heap.size w W := by rw [hW]; exact bel_new (bel_new (bel_new (bel_new (bel_new (bel_new (bel_new (Below.refl _ _) _) _) _) _) _) _) _
  have hW0 : W.heap[w.heap.size]? = some (.cells #[.slice none 0 0, .slice none 0 0] 35 (0, 0)) ∧ W.heap[w.heap.size + 1 + 1]? = some (.cells #[.int .i32 99, .int .i32 99] 53 (0, 0)) ∧ W.heap[w.heap.size + 1 + 1 + 1 + 1]? = some (.cells #[.int .i32 100, .int .i32 100] 53 (0, 0)) := by
    have h := allocs_heap [.cells #[.slice none 0 0, .slice none 0 0] 35, .cells #[.int .i64 2, .slice (some ⟨w.heap.size + 1 + 1, 0, none⟩) 1 1, .slice none 0 0] 25, .cells #[.int .i32 99, .int .i32 99] 53, .cells #[.int .i64 2, .slice (some ⟨w.heap.size + 1 + 1 + 1 + 1, 0, none⟩) 1 1, .slice none 0 0] 25, .cells #[.int .i32 100, .int .i32 100] 53, .cells #[.int .i64 2, .slice (some ⟨w.heap.size + 1 + 1, 0, none⟩) 1 1, .slice none 0 0] 25, .cells #[.int .i64 2, .slice (some ⟨w.heap.size + 1 + 1 + 1 + 1, 0, none⟩) 1 1, .slice none 0 0] 25] w
    rw [hW]
    exact ⟨h 0 (by simp), h 2 (by simp), h 4 (by simp)⟩
  have HW := Lib.hid (And.intro hWb hW0)
  clear hWb hW0
  clear hW
  obtain ⟨pc, hpc⟩ : ∃ p, p = w.heap.size + 1 + 1 + 1 + 1 + 1 := ⟨_, rfl⟩
  obtain ⟨pd, hpd⟩ : ∃ p, p = w.heap.size + 1 + 1 + 1 + 1 + 1 + 1 := ⟨_, rfl⟩
  rw [← hpd] at c1 ⊢
  rw [← hpc] at c0 ⊢
  obtain ⟨c00, c01, c02⟩ := c0
  obtain ⟨c10, c11, c12⟩ := c1
  have hpcl : pc < W.heap.size := by omega
  have hpdl : pd < W.heap.size := by omega
  have hpcn : ¬ pc = W.heap.size := by omega
  have hpdn : ¬ pd = W.heap.size := by omega
  have hpcn1 : ¬ pc = W.heap.size + 1 := by omega
  have hpdn1 : ¬ pd = W.heap.size + 1 := by omega
  have HP := Lib.hid (And.intro hpc (And.intro hpd hWs))
  clear hpc hpd hWs
  go_cut [5] (fun s5 wx => Mk0At w W wx s5)
  case first =>
    go_region_held3 (fun w' => w'.cell? ⟨pc, 0, none⟩ = some (.int .i64 2) ∧ w'.cell? ⟨pc, 1, none⟩ = some (.slice (some ⟨w.heap.size + 1 + 1, 0, none⟩) 1 1) ∧ w'.cell? ⟨pc, 2, none⟩ = some (.slice none 0 0) ∧ w'.cell? ⟨pd, 0, none⟩ = some (.int .i64 2) ∧ w'.cell? ⟨pd, 1, none⟩ = some (.slice (some ⟨w.heap.size + 1 + 1 + 1 + 1, 0, none⟩) 1 1) ∧ w'.cell? ⟨pd, 2, none⟩ = some (.slice none 0 0)) (first | trivial | (refine ⟨?_, ?_, ?_, ?_, ?_, ?_⟩ <;> refine (Below.cell (w := W) ?_ (by assumption)).trans (by assumption) <;> repeat (first | exact Below.refl _ _ | refine Below.drew ?_ | refine bel_new ?_ _ | (refine Below.setCell ?_ (by first | omega | (simp <;> omega)) _))))
      (first | (go_at_call 19; refine (one_exact _ _).mono ?_; rintro e w2 ⟨rfl, rfl⟩))
    all_goals (go_wp2_with (fail))
    all_goals go_meet
    all_goals (
      refine mk0_of fun wx hch => ?_
      unfold Mk0At
      apply Exists.intro
      apply Exists.intro
      apply Exists.intro
      apply Exists.intro
      refine ⟨rfl, ?_, ?_, ?_, hch.2.2.2.2.2, ?_, ?_, ?_, ?_⟩
      rotate_left 3
      · first | exact hch.2.2.2.2.1 | exact hch.2.2.2.1 | exact hch.2.2.1 | exact hch.2.1 | exact hch.1
      · first | exact hch.2.2.2.2.1 | exact hch.2.2.2.1 | exact hch.2.2.1 | exact hch.2.1 | exact hch.1
      · first | exact hch.2.2.2.2.1 | exact hch.2.2.2.1 | exact hch.2.2.1 | exact hch.2.1 | exact hch.1
      · first | exact hch.2.2.2.2.1 | exact hch.2.2.2.1 | exact hch.2.2.1 | exact hch.2.1 | exact hch.1
      all_goals omega)
  case rest =>
    obtain ⟨p5, pt, pa, pb, rfl, h5, ht, h5t, hbel, g5, gt, ga, gb⟩ := hcut
    have HG := Lib.hid (And.intro h5 (And.intro ht (And.intro h5t (And.intro hbel (And.intro g5 (And.intro gt (And.intro ga gb)))))))
    clear h5 ht h5t hbel g5 gt ga gb
    go_upto_if 33 with (fail)
    obtain ⟨W4, hW4⟩ : ∃ W4, W4 = (wc.alloc (.cells #[.string ⟨#[111]⟩] 9)).alloc (.cells #[.string ⟨#[99]⟩] 9) := ⟨_, rfl⟩
    rw [← hW4]
    have HBW := Lib.hid (show Below W.heap.size W W4 from bel_then HG.out.2.2.2.1 (by rw [hW4]; exact bel_new (bel_new (Below.refl _ _) _) _))
    have H4 := Lib.hid (mg_start HW.out.1 HW.out.2.1 HW.out.2.2.1 HW.out.2.2.2 HP.out.2.2 HG.out.1 HG.out.2.1 HG.out.2.2.2.1 HG.out.2.2.2.2.1 HG.out.2.2.2.2.2.1 HG.out.2.2.2.2.2.2.1 HG.out.2.2.2.2.2.2.2 hW4)
    clear hW4
    go_cut [6, 7] (fun s6 s7 wx => MS (decide (3 < L.length)) w p5 s6 s7 wx)
    case first =>
      rename_i za0 za1 za2 za3 za4 za5 za6
      revert hP L vs w hLB ii hi hz0 hz1 hz2 ir hr0 hr1 hr2 hr3 is hs0 hs1 hs2 hs3 ol cl HLL za0 W HW pc pd c00 c01 c02 c10 c11 c12 hpcl hpdl hpcn hpdn hpcn1 hpdn1 HP wc u14 u15 u16 u17 u18 u19 u20 u21 u22 u23 u24 u25 u26 u27 u28 u29 u30 u31 u32 u33 u34 u35 u36 u37 u38 u39 u40 u41 u42 u43 u44 u45 u46 u47 u48 u49 u50 u51 u52 u53 u54 u55 u56 u57 u58 u59 u60 u61 u62 u63 u64 u65 u66 u67 u68 u69 u70 u71 u72 u73 u74 u75 u76 u77 u78 u79 u80 u81 u82 u83 u84 u85 u86 u87 u88 u89 u90 u91 u92 u93 u94 u95 u96 u97 u98 u99 u100 u101 u102 u103 u104 u105 u106 u107 u108 u109 u110 u111 u112 u113 u114 u115 u116 u117 u118 u119 u120 u121 u122 u123 u124 u125 u126 u127 u128 u129 u130 u131 u132 u133 u134 u135 u136 u137 u138 u139 u140 u141 u142 u143 u144 u145 u146 p5 pt pa pb HG za1 za2 W4 HBW H4 za3 za4 za5 za6
      exact HX1.out
    case rest =>
      obtain ⟨cb, rb, T, C, R, tv, rfl, rfl, hMN, hMF, hMG⟩ := hcut
      obtain ⟨B, hB⟩ : ∃ B, B = wc.heap.size := ⟨_, rfl⟩
      rw [← hB] at hMG
      have HMN := Lib.hid hMN
      have HMF := Lib.hid hMF
      have HMG := Lib.hid hMG
      clear hMN hMF hMG hB c00 c01 c02 c10 c11 c12 hpcl hpdl hpcn hpdn hpcn1 hpdn1 HBW H4 HG HW HP
      go_wp2_with fail
      go_loopg [8] 3 (fun g s8 wx => ∃ (i n c : Nat) (o : Option Addr) (ps : List (RU × Value)), i + g = 3 ∧ n ≤ i ∧ s8 = .int .i64 (i : Int) ∧ MG w B p5 cb rb T C R tv n c o ps wx ∧ ps.map (·.1) = rulesF C R L i)
      case atStart => exact ⟨0, 0, 0, none, [], rfl, Nat.le_refl _, rfl, HMG.out, rfl⟩
      case round =>
        obtain ⟨i, n, c, o, ps, hig, hni, rfl, hG, hps⟩ := hrel
        have HG := Lib.hid hG
        have HPS := Lib.hid hps
        clear hps
        have hpg := hG.hg
        have hres := hG.hres
        have hn3 : n ≤ 3 := by omega
        obtain ⟨ot, nt, ct, rfl⟩ : ∃ ot nt ct, tv = .slice ot nt ct := by
          obtain ⟨o, cap, nm, kd, cl, rk, so, sn, sc, lo, ln, lc, e, -⟩ := (HMG.out.st.here).all
          exact ⟨_, _, _, e⟩
        clear hG
        have c0 : wr.cell? ⟨p5, 0, none⟩ = some (.slice ot nt ct) ∧ wr.cell? ⟨p5, 1, none⟩ = some (.slice o n c) ∧ wr.frozen? ⟨p5, 0, none⟩ = false ∧ wr.frozen? ⟨p5, 1, none⟩ = false := by simp [World.cell?, World.frozen?, hpg]
        obtain ⟨c0, c1, c2, c3⟩ := c0
        have r0 : wr.cell? ⟨w.heap.size, 0, none⟩ = some (.slice none 0 0) ∧ wr.cell? ⟨w.heap.size, 1, none⟩ = some (.slice none 0 0) ∧ wr.frozen? ⟨w.heap.size, 0, none⟩ = false ∧ wr.frozen? ⟨w.heap.size, 1, none⟩ = false := by simp [World.cell?, World.frozen?, hres]
        obtain ⟨r0, r1, r2, r3⟩ := r0
        by_cases hi : i < L.length ∧ i < 3
        · obtain ⟨hiL, hi3⟩ := hi
          have hd1 : decide ((i : Int) < (L.length : Int)) = true := by simp; omega
          have hd1b : decide (i < L.length) = true := by simpa using hiL
          have hd2 : decide ((i : Int) < 3) = true := by simp; omega
          have hd2b : decide (i < 3) = true := by simpa using hi3
          obtain ⟨li, hli⟩ : ∃ li, L[i]? = some li := ⟨L[i], List.getElem?_eq_getElem hiL⟩
          obtain ⟨u, hu⟩ : ∃ u, vs[i]? = some u := ⟨vs[i]'(by have := HLL.out.len; omega), List.getElem?_eq_getElem _⟩
          have hrow := HLL.out.each i u li hu hli
          obtain ⟨bL, offL, rfl, hcL⟩ : ∃ bL offL, ol = some ⟨bL, offL, none⟩ ∧ wr.cell? ⟨bL, offL + i, none⟩ = some u := by
            obtain ⟨o', cap', e, hc, hm, hr⟩ := HLL.out.row.below HG.out.bel
            cases e
            rcases hr with ⟨h0, -⟩ | ⟨b, off, rfl, hlt, hcell⟩
            · omega
            · exact ⟨b, off, rfl, hcell i u hu⟩
          obtain ⟨oi, ci, rfl, -⟩ := id hrow
          have HLI := Lib.hid hrow
          have HLF := Lib.hid hli
          clear hrow
          have hiL2 : (i : Int) < (L.length : Int) := by omega
          have hi0 : (0 : Int) ≤ (i : Int) := by omega
          cases gk with
          | zero => omega
          | succ g =>
          by_cases h2 : li.length < 2
          · have h2d : decide ((li.length : Int) < 2) = true := by simp; omega
            have h2e : decide (li.length < 2) = true := by simpa using h2
            go_wp2_with fail
            go_roundg g
            case measure => omega
            case rel => exact ⟨i + 1, n, c, o, ps, by omega, by omega, by simp, HG.out, by rw [HPS.out, rulesF_skip HLF.out h2]⟩
          · have h2d : decide ((li.length : Int) < 2) = false := by simp; omega
            have h2e : decide (li.length < 2) = false := by simpa using h2
            obtain ⟨bl, offl, rfl, hcl⟩ : ∃ bl offl, oi = some ⟨bl, offl, none⟩ ∧ wr.cell? ⟨bl, offl, none⟩ = some (.int .i64 (li.getD 0 0)) := by
              obtain ⟨o', cap', e, hc, hm, hr⟩ := HLI.out.below HG.out.bel
              cases e
              rcases hr with ⟨h0, -⟩ | ⟨b, off, rfl, hlt, hcell⟩
              · omega
              · exact ⟨b, off, rfl, hcell 0 _ (getElem?_ints (by omega))⟩
            obtain ⟨k, hk⟩ : ∃ k, k = li.getD 0 0 := ⟨_, rfl⟩
            rw [← hk] at hcl
            have HKF := Lib.hid hk
            clear hk
            have hll : (0 : Int) < (li.length : Int) := by omega
            go_upto_region 15 with (fail)
            obtain ⟨nn, hnn, enn, hnf⟩ := mk_num k
            rw [enn]
            have HNF := Lib.hid hnf
            clear enn hnf
            obtain ⟨fr, hfr⟩ : ∃ fr, fr = (bits BinOp.and IntKind.i64 k 1 == 1) := ⟨_, rfl⟩
            rw [← hfr]
            have HFR := Lib.hid hfr
            clear hfr
            have hrb : bL < wr.heap.size := World.block_lt_of_cell? wr ⟨bL, offL + i, none⟩ hcL
            have hwr : w.heap.size ≤ wr.heap.size := HG.out.bel.size
            clear c0 c1 c2 c3 r0 r1 r2 r3 hpg hres hcl h2d h2e
            obtain ⟨wo, rfl⟩ : ∃ wo : World, wo = wr := ⟨_, rfl⟩
            go_loopg [12] nn (fun g2 s12 wx => ∃ (j c2 : Nat) (o2 : Option Addr) (qs : List (ST × Value × Value × Value × Value)), j + g2 = nn ∧ s12 = .int .i64 (j : Int) ∧ MI wo (fun k => k ≠ p5 ∧ k ≠ w.heap.size ∧ (Value.slice o n c).ownBlock ≠ some k) T (10 + (i : Int)) fr j c2 o2 qs wx ∧ qs.map (·.1) = (List.range j).map (stpF C R li))
            case atStart => exact ⟨0, 0, none, [], by omega, rfl, MI.start, rfl⟩
            case round =>
              obtain ⟨j, c2, o2, qs, hjg, rfl, hI, hqe⟩ := hrel
              have HI := Lib.hid hI
              have HQE := Lib.hid hqe
              clear hqe
              have HG2 := Lib.hid (HG.out.moved hI.bel)
              have hr := hI.hr
              have hpg := HG2.out.hg
              have hbl := hI.bel.size
              have hpgl := hp_lt hpg
              have hpl := hp_lt hr
              have hcL2 : wr.cell? ⟨bL, offL + i, none⟩ = some (.slice (some ⟨bl, offl, none⟩) li.length ci) := (hI.bel.cell hrb).trans hcL
              have q0 : wr.cell? ⟨wo.heap.size, 0, none⟩ = some (.int .i64 (10 + (i : Int))) ∧ wr.cell? ⟨wo.heap.size, 1, none⟩ = some (.bool fr) ∧ wr.cell? ⟨wo.heap.size, 2, none⟩ = some (.slice o2 j c2) ∧ wr.frozen? ⟨wo.heap.size, 2, none⟩ = false := by simp [World.cell?, World.frozen?, hr]
              obtain ⟨q0, q1, q2, q3⟩ := q0
              have c0 : wr.cell? ⟨p5, 0, none⟩ = some (.slice ot nt ct) ∧ wr.cell? ⟨p5, 1, none⟩ = some (.slice o n c) ∧ wr.frozen? ⟨p5, 1, none⟩ = false := by simp [World.cell?, World.frozen?, hpg]
              obtain ⟨c0, c1, c2'⟩ := c0
              clear hI
              cases gk with
              | zero =>
                obtain rfl : j = nn := by omega
                have t0 : decide ((j : Int) < (j : Int)) = false := by simp
                have t1 : decide (j < j) = false := by simp
                have HROW := Lib.hid (show wr.ownsRow B 64 3 (.slice o n c) n (ps.flatMap three) from by have := HG2.out.own.row; rw [HG2.out.len] at this; exact this)
                have hN : (Value.slice o n c).ownBlock ≠ some p5 := own_far HROW.out hpg (by decide)
                have hBs := HG2.out.hB
                have n0 : ¬ p5 = wr.heap.size := by omega
                have n1 : ¬ wo.heap.size = wr.heap.size := by omega
                go_wp2_with (
                  at_builtin; refine wpList_append_far _ rfl _ _ 33 rfl B 64 ir _ 3 40 Tryz.underlying33 hr0 hr1 hr2 hr3 rfl (by decide) (.slice o n c) n (ps.flatMap three) rfl (by repeat (first | exact HROW.out | refine World.ownsRow.alloc ?_ _ | refine owns_drew ?_)) _ 1 _ rfl (by first | exact row_new rfl (by simp)) rfl (by simp [Value.oneCell']) (by unfold maxLen; omega) (by omega) (by simp; omega) ?_; intro v9 w9 hown9 hg9 hf9 hb9; obtain ⟨o9, c9, rfl⟩ := owns_slice hown9
                  have hp9 : w9.heap[p5]? = some (.cells #[.slice ot nt ct, .slice o n c] 35 (0, 0)) := by
                    rw [hg9.block _ (by simp; omega) (fun e => hN e.symm)]; exact bel_get (by repeat (first | exact Below.refl _ _ | refine Below.drew ?_ | refine bel_new ?_ _)) hpg
                  have z0 : w9.cell? ⟨p5, 1, none⟩ = some (.slice o n c) := by simp [World.cell?, hp9]
                  have z1 : w9.frozen? ⟨p5, 1, none⟩ = false := by simp [World.frozen?, hp9])
                obtain ⟨w5, hw5⟩ : ∃ w5, w5 = w9.setCell ⟨p5, 1, none⟩ (.slice o9 (n + 1) c9) := ⟨_, rfl⟩
                rw [← hw5]
                have hL5 := HG2.out.step HI.out ⟨by omega, by omega⟩ hnn (by repeat (first | exact Below.refl _ _ | refine Below.drew ?_ | refine bel_new ?_ _)) hown9 rfl hg9 hf9
                rw [← hw5] at hL5
                obtain ⟨ps5, hL5⟩ := hL5
                have HL5 := Lib.hid hL5
                clear hw5 hL5 hown9 hg9 hf9 hb9 hp9 z0 z1
                go_wp2_with fail
                go_roundg g
                case measure => omega
                case rel => exact ⟨i + 1, n + 1, c9, o9, ps5, by omega, by omega, by simp, HL5.out.1, by rw [HL5.out.2, HPS.out]; exact rulesF_take HLF.out (by omega) HKF.out HFR.out HNF.out HQE.out⟩
              | succ g2 =>
                have t0 : decide ((j : Int) < (nn : Int)) = true := by simp; omega
                have t1 : decide (j < nn) = true := by simp; omega
                go_upto_region 17 with (fail)
                go_cut [13] from 85 to 139 (fun s13 wx => ∃ (pst : Nat) (p : PT) (nv ev pv : Value), s13 = .pointer (some ⟨pst, 0, none⟩) ∧ wx.heap[pst]? = some (.cells #[.slice none 0 0, .int .i64 p.kind, nv, ev, pv] 66 (0, 0)) ∧ wr.heap.size ≤ pst ∧ Below wr.heap.size wr wx ∧ (PGood T p ∧ p = pcF C R li nn j) ∧
                  KP (fun k => ((k ≠ wo.heap.size ∧ k ≠ p5 ∧ k ≠ w.heap.size ∧ (Value.slice o n c).ownBlock ≠ some k) ∧ (Value.slice o2 j c2).ownBlock ≠ some k) ∧ k ≠ pst) wx (fun w' => PtIs w' p nv ev pv))
                case first =>
                  rename_i zb0 zb1 zb2 zb3 zb4 zb5 zb6 zb7 zb8 zb9 zb10 zb11 zb12 zb13 zb14 zb15 zb16 zb17 zb18 zb19 zb20 zb21 zb22 zb23 zb24 zb25 zb26 zb27 zb28 zb29 zb30 zb31 zb32 zb33 zb34 zb35 zb36 zb37 zb38 zb39 zb40 zb41 zb42 zb43 zb44 zb45 zb46 zb47 zb48 zb49 zb50 zb51 zb52 zb53 zb54 zb55 zb56 zb57 zb58 zb59 zb60 zb61 zb62 zb63 zb64 zb65 zb66 zb67 zb68 zb69 zb70 zb71 zb72 zb73 zb74 zb75 zb76 zb77 zb78 zb79 zb80 zb81 zb82 zb83 zb84 zb85 zb86 zb87 zb88 zb89 zb90 zb91 zb92 zb93 zb94 zb95 zb96 zb97 zb98 zb99 zb100 zb101 zb102 zb103 zb104 zb105 zb106 zb107 zb108 zb109 zb110 zb111 zb112 zb113 zb114 zb115 zb116 zb117 zb118 zb119 zb120 zb121 zb122 zb123 zb124 zb125 zb126 zb127 zb128 zb129 zb130 zb131 zb132 zb133 zb134 zb135 zb136 zb137 zb138 zb139 zb140 zb141 zb142 zb143 zb144 zb145 zb146 zb147 zb148 zb149 zb150 zb151 zb152 zb153 zb154 zb155 zb156 zb157 zb158 zb159 zb160 zb161 zb162 zb163 zb164 zb165 zb166 zb167 zb168 zb169 zb170 zb171 zb172 zb173 zb174 zb175 zb176 zb177 zb178 zb179 zb180 zb181 zb182 zb183 zb184 zb185 zb186 zb187 zb188 zb189 zb190 zb191 zb192 zb193 zb194 zb195 zb196 zb197 zb198 zb199 zb200 zb201 zb202 zb203 zb204 zb205 zb206 zb207 zb208 zb209 zb210 zb211 zb212 zb213 zb214 zb215 zb216 zb217 zb218 zb219 zb220 zb221 zb222 zb223 zb224 zb225 zb226 zb227 zb228 zb229 zb230 zb231 zb232 zb233 zb234 zb235 zb236 zb237 zb238 zb239 zb240 zb241 zb242 zb243 zb244 zb245 zb246 zb247 zb248 zb249 zb250 zb251 zb252 zb253 zb254 zb255 zb256 zb257 zb258 zb259 zb260 zb261 zb262 zb263 zb264 zb265 zb266 zb267 zb268 zb269 zb270 zb271 zb272 zb273 zb274 zb275 zb276 zb277 zb278 zb279 zb280 zb281 zb282 zb283 zb284 zb285 zb286 zb287 zb288 zb289 zb290 zb291 zb292 zb293 zb294 zb295 zb296 zb297 zb298 zb299 zb300 zb301 zb302 zb303 zb304 zb305 zb306 zb307
                  revert hP L vs w hLB ii hi hz0 hz1 hz2 ir hr0 hr1 hr2 hr3 is hs0 hs1 hs2 hs3 cl zb0 W pc pd zb1 zb2 zb3 zb4 zb5 zb6 zb7 zb8 zb9 zb10 zb11 zb12 zb13 zb14 zb15 zb16 zb17 zb18 zb19 zb20 zb21 zb22 zb23 zb24 zb25 zb26 zb27 zb28 zb29 zb30 zb31 zb32 zb33 zb34 zb35 zb36 zb37 zb38 zb39 zb40 zb41 zb42 zb43 zb44 zb45 zb46 zb47 zb48 zb49 zb50 zb51 zb52 zb53 zb54 zb55 zb56 zb57 zb58 zb59 zb60 zb61 zb62 zb63 zb64 zb65 zb66 zb67 zb68 zb69 zb70 zb71 zb72 zb73 zb74 zb75 zb76 zb77 zb78 zb79 zb80 zb81 zb82 zb83 zb84 zb85 zb86 zb87 zb88 zb89 zb90 zb91 zb92 zb93 zb94 zb95 zb96 zb97 zb98 zb99 zb100 zb101 zb102 zb103 zb104 zb105 zb106 zb107 zb108 zb109 zb110 zb111 zb112 zb113 zb114 zb115 zb116 zb117 zb118 zb119 zb120 zb121 zb122 zb123 zb124 zb125 zb126 zb127 zb128 zb129 zb130 zb131 zb132 zb133 zb134 p5 pt pa pb W4 wc u14 u15 u16 u17 u18 u19 u20 u21 u22 u23 u24 u25 u26 u27 u28 u29 u30 u31 u32 u33 u34 u35 u36 u37 u38 u39 u40 u41 u42 u43 u44 u45 u46 u47 u48 u49 u50 zb135 zb136 zb137 zb138 zb139 zb140 zb141 zb142 zb143 zb144 zb145 zb146 zb147 zb148 zb149 zb150 zb151 zb152 zb153 zb154 zb155 zb156 zb157 zb158 zb159 zb160 zb161 zb162 zb163 zb164 zb165 zb166 zb167 zb168 zb169 zb170 zb171 zb172 zb173 zb174 zb175 zb176 zb177 zb178 zb179 zb180 zb181 zb182 zb183 zb184 zb185 zb186 zb187 zb188 zb189 zb190 zb191 zb192 zb193 zb194 zb195 zb196 zb197 zb198 zb199 zb200 zb201 zb202 zb203 zb204 zb205 zb206 zb207 zb208 zb209 zb210 zb211 zb212 zb213 zb214 zb215 zb216 zb217 zb218 zb219 zb220 zb221 zb222 zb223 zb224 zb225 zb226 zb227 zb228 zb229 u146 cb rb T C R B HMN zb230 zb231 u9 u10 u11 u12 zb232 u51 u52 u53 u54 u55 u56 u57 u58 u59 u60 u61 u62 u63 u64 u65 u66 u67 u68 u69 u70 u71 u72 u73 u74 u75 u76 u77 u78 u79 u80 u81 u82 u83 u84 zb233 zb234 zb235 zb236 zb237 zb238 zb239 zb240 zb241 zb242 zb243 zb244 zb245 zb246 zb247 zb248 zb249 zb250 zb251 zb252 zb253 zb254 zb255 zb256 zb257 zb258 zb259 zb260 zb261 zb262 zb263 zb264 zb265 zb266 zb267 zb268 zb269 zb270 zb271 zb272 zb273 zb274 zb275 zb276 zb277 zb278 zb279 zb280 zb281 zb282 zb283 zb284 zb285 zb286 zb287 u140 u141 u142 u143 u144 u145 zb288 zb289 i n c o ps hni hn3 ot nt ct HMG hiL hi3 hd1 hd1b hd2 hd2b li hli bL offL HLL zb290 ci hiL2 hi0 g zb291 hig h2 bl offl hu HLI k hll zb292 zb293 zb294 zb295 nn hnn fr wo HG hcL hrb hwr wr u13 u85 u86 u87 u88 u89 u90 u91 u92 u93 u94 u95 u96 u97 u98 u99 u100 u101 u102 u103 u104 u105 u106 u107 u108 u109 u110 u111 u112 u113 u114 u115 u116 u117 u118 u119 u120 u121 u122 u123 u124 u125 u126 u127 u128 u129 u130 u131 u132 u133 u134 u135 u136 u137 u138 u139 zb296 zb297 zb298 j c2 o2 qs HI HG2 hr hpg hbl hpgl hpl hcL2 q0 q1 q2 q3 c0 c1 c2' g2 zb299 hjg t0 t1 zb300 zb301 zb302 zb303 zb304 zb305 zb306 zb307
                  exact HY1.out
                case rest =>
                  obtain ⟨pst, p, nv, ev, pv, rfl, hs, hge, hb, ⟨hPG, hPF⟩, hKP⟩ := hcut
                  obtain ⟨⟨o5, c5, e5⟩, ⟨o6, c6, e6⟩, ⟨o7, c7, e7⟩⟩ := hKP.here.form
                  subst e5 e6 e7
                  have HI3 := Lib.hid (HI.out.moved hb)
                  have HG3 := Lib.hid (HG2.out.moved hb)
                  have HS := Lib.hid hs
                  have HB := Lib.hid hb
                  have HPG := Lib.hid hPG
                  have HPF := Lib.hid hPF
                  have HK := Lib.hid hKP
                  have hbs := hb.size
                  have hpsl := hp_lt hs
                  have hrc := HI3.out.hr
                  clear q0 q1 q2 q3 c0 c1 c2' hcL2 hr hpg
                  have q0 : wc.cell? ⟨wo.heap.size, 0, none⟩ = some (.int .i64 (10 + (i : Int))) ∧ wc.cell? ⟨wo.heap.size, 1, none⟩ = some (.bool fr) ∧ wc.cell? ⟨wo.heap.size, 2, none⟩ = some (.slice o2 j c2) ∧ wc.frozen? ⟨wo.heap.size, 2, none⟩ = false := by simp [World.cell?, World.frozen?, hrc]
                  obtain ⟨q0, q1, q2, q3⟩ := q0
                  have s0 : wc.cell? ⟨pst, 0, none⟩ = some (.slice none 0 0) ∧ wc.cell? ⟨pst, 1, none⟩ = some (.int .i64 p.kind) ∧ wc.cell? ⟨pst, 2, none⟩ = some (.slice o5 p.names.length c5) ∧ wc.cell? ⟨pst, 3, none⟩ = some (.slice o6 p.ends.length c6) ∧ wc.cell? ⟨pst, 4, none⟩ = some (.slice o7 p.parts.length c7) ∧ wc.frozen? ⟨pst, 0, none⟩ = false := by simp [World.cell?, World.frozen?, hs]
                  obtain ⟨s0, s1, s2, s3, s4, sf⟩ := s0
                  have npr : ¬ pst = wo.heap.size := by omega
                  have npr2 : ¬ wo.heap.size = pst := by omega
                  clear hs hb hPG hPF hKP hrc
                  by_cases hz : j = 0 ∧ fr = false
                  · obtain ⟨hz1, hz2⟩ := hz
                    have d0 : decide ((0 : Int) < (j : Int)) = false := by simp; omega
                    have d1 : decide (0 < j) = false := by simp; omega
                    have HSW := HS
                    have HRW := Lib.hid HI3.out.hr
                    have HPW := Lib.hid (show KP (fun k => (k ≠ wo.heap.size ∧ k ≠ p5 ∧ k ≠ w.heap.size ∧ (Value.slice o n c).ownBlock ≠ some k) ∧ (Value.slice o2 j c2).ownBlock ≠ some k) wc (fun w' => PtIs w' p (.slice o5 p.names.length c5) (.slice o6 p.ends.length c6) (.slice o7 p.parts.length c7)) from HK.out.sub fun k _ hk => hk.1)
                    rw [hz2] at q1
                    have HZ := Lib.hid (And.intro hz1 hz2)
                    clear hz1 hz2
                    go_upto_region 20 with (fail)
                    clear q0 q1 q2 q3 s0 s1 s2 s3 s4 sf
                    have sW : wc.heap[pst]? = some (.cells #[.slice none 0 0, .int .i64 p.kind, .slice o5 p.names.length c5, .slice o6 p.ends.length c6, .slice o7 p.parts.length c7] 66 (0, 0)) := HSW.out
                    have s0 : wc.cell? ⟨pst, 0, none⟩ = some (.slice none 0 0) ∧ wc.cell? ⟨pst, 1, none⟩ = some (.int .i64 p.kind) ∧ wc.cell? ⟨pst, 2, none⟩ = some (.slice o5 p.names.length c5) ∧ wc.cell? ⟨pst, 3, none⟩ = some (.slice o6 p.ends.length c6) ∧ wc.cell? ⟨pst, 4, none⟩ = some (.slice o7 p.parts.length c7) := by simp [World.cell?, sW]
                    obtain ⟨s0, s1, s2, s3, s4⟩ := s0
                    have hrw : wc.heap[wo.heap.size]? = some (.cells #[.int .i64 (10 + (i : Int)), .bool fr, .slice o2 j c2] 64 (0, 0)) := HRW.out
                    have q0 : wc.cell? ⟨wo.heap.size, 0, none⟩ = some (.int .i64 (10 + (i : Int))) ∧ wc.cell? ⟨wo.heap.size, 1, none⟩ = some (.bool fr) ∧ wc.cell? ⟨wo.heap.size, 2, none⟩ = some (.slice o2 j c2) ∧ wc.frozen? ⟨wo.heap.size, 2, none⟩ = false := by simp [World.cell?, World.frozen?, hrw]
                    obtain ⟨q0, q1, q2, q3⟩ := q0
                    have HROW := Lib.hid (show wc.ownsRow wo.heap.size 66 5 (.slice o2 j c2) j (qs.flatMap five) from by have := HI.out.own.row; rw [HI.out.len] at this; exact owns_below this HB.out)
                    have hN : (Value.slice o2 j c2).ownBlock ≠ some wo.heap.size := own_far HROW.out hrw (by decide)
                    have hsz : wo.heap.size < wc.heap.size := hp_lt hrw
                    have n0 : ¬ wo.heap.size = wc.heap.size := by omega
                    have n1 : wo.heap.size < wc.heap.size + 1 := by omega
                    have hj2 : j ≤ 2 := by omega
                    have HW5 := Lib.hid HB.out
                    clear sW
                    go_wp2_with (
                      at_builtin; refine wpList_append_far _ rfl _ _ 62 rfl wo.heap.size 66 is _ 5 104 Tryz.underlying62 hs0 hs1 hs2 hs3 rfl (by decide) (.slice o2 j c2) j (qs.flatMap five) rfl (by repeat (first | exact HROW.out | refine World.ownsRow.alloc ?_ _ | refine owns_drew ?_)) _ 1 _ rfl (by first | exact row_new rfl (by simp)) rfl (by simp [Value.oneCell']) (by unfold maxLen; omega) (by omega) (by simp; omega) ?_; intro v9 w9 hown9 hg9 hf9 hb9; obtain ⟨o9, c9, rfl⟩ := owns_slice hown9
                      have hp9 : w9.heap[wo.heap.size]? = some (.cells #[.int .i64 (10 + (i : Int)), .bool fr, .slice o2 j c2] 64 (0, 0)) := by
                        rw [hg9.block _ (by simp; omega) (fun e => hN e.symm)]; exact bel_get (by repeat (first | exact Below.refl _ _ | refine Below.drew ?_ | refine bel_new ?_ _)) hrw
                      have z0 : w9.cell? ⟨wo.heap.size, 2, none⟩ = some (.slice o2 j c2) := by simp [World.cell?, hp9]
                      have z1 : w9.frozen? ⟨wo.heap.size, 2, none⟩ = false := by simp [World.frozen?, hp9])
                    obtain ⟨w5, hw5⟩ : ∃ w5, w5 = w9.setCell ⟨wo.heap.size, 2, none⟩ (.slice o9 (j + 1) c9) := ⟨_, rfl⟩
                    rw [← hw5]
                    have hL5 := HI.out.step (st := ⟨[], p⟩) (cv := .slice none 0 0) (nv := .slice o5 p.names.length c5) (ev := .slice o6 p.ends.length c6) (pv := .slice o7 p.parts.length c7) (by repeat (first | exact HW5.out | refine Below.drew ?_ | refine bel_new ?_ _))
                      ((kp_and (fun w' _ => Row.nil w') HPW.out (fun w' a b => And.intro a b)).to (.of (by repeat (first | exact Below.refl _ _ | refine Below.drew ?_ | refine bel_new ?_ _)))) ⟨.inl ⟨rfl, by simp [HZ.out.1, HZ.out.2]⟩, HPG.out⟩ hown9 rfl hg9 hf9
                    rw [← hw5] at hL5
                    obtain ⟨qs5, hL5⟩ := hL5
                    have HL5 := Lib.hid hL5
                    clear hw5 hL5 hown9 hg9 hf9 hb9 hp9 z0 z1
                    go_wp2_with fail
                    go_roundg g2
                    case measure => omega
                    case rel => exact ⟨j + 1, c9, o9, qs5, by omega, by simp, HL5.out.1, by rw [HL5.out.2, HQE.out, List.range_succ, List.map_append]; exact congrArg _ (stp_first HKF.out HFR.out HNF.out HPF.out HZ.out)⟩
                  · have HNZ := Lib.hid hz
                    have hz2 : (decide (j = 0) && !fr) = false := by
                      cases hfr : fr
                      · have : ¬ j = 0 := fun e => hz ⟨e, hfr⟩
                        simp [this]
                      · simp
                    rcases Nat.eq_zero_or_pos j with hj0 | hj0
                    · have hfr : fr = true := by
                        cases hfr : fr
                        · exact absurd ⟨hj0, hfr⟩ hz
                        · rfl
                      have d0 : decide ((0 : Int) < (j : Int)) = false := by simp; omega
                      have d1 : decide (0 < j) = false := by simp; omega
                      rw [hfr] at q1
                      clear hj0 hfr
                      obtain ⟨op, np, cp, ns, hnl, hrowc, hsub, hcall⟩ := pick_kp C (.slice (some ⟨cb, 0, none⟩) C.length C.length) (wrap64 (k.tdiv 4)) wc (names_kp (S := fun k => k = cb) HG3.out.hc rfl HMN.out.lens.1.1 HMN.out.lens.1.2) HMN.out.lens.1.1 HMN.out.lens.1.2
                      subst hnl
                      have HCR := Lib.hid (And.intro hrowc hsub)
                      have HCA := Lib.hid hcall
                      clear hrowc hsub hcall
                      go_upto_region 20 with (
                        go_at_call 45; with_reducible refine (HCA.out _).mono ?_; rintro e w3 ⟨rfl, hw3⟩; obtain rfl : wc = w3 := hw3.symm)
                      obtain ⟨w6, hw6⟩ : ∃ w6, w6 = wc.setCell ⟨pst, 0, none⟩ (.slice op ns.length cp) := ⟨_, rfl⟩
                      rw [← hw6]
                      have hb6 : Below wr.heap.size wr w6 := by rw [hw6]; exact HB.out.setCell hge _
                      have HSW := Lib.hid (show w6.heap[pst]? = some (.cells #[.slice op ns.length cp, .int .i64 p.kind, .slice o5 p.names.length c5, .slice o6 p.ends.length c6, .slice o7 p.parts.length c7] 66 (0, 0)) from by rw [hw6]; simp [World.setCell, Array.getElem?_modify, HS.out])
                      have HRW := Lib.hid (show w6.heap[wo.heap.size]? = some (.cells #[.int .i64 (10 + (i : Int)), .bool fr, .slice o2 j c2] 64 (0, 0)) from by rw [hw6, Below.heap_setCell _ _ _ _ (show wo.heap.size ≠ pst by omega)]; exact HI3.out.hr)
                      have hag6 : Ag (fun k => k ≠ pst) wc w6 := by rw [hw6]; exact (Ag.refl _ _).setCell (fun h => h rfl) _
                      have HPW := Lib.hid (show KP (fun k => (k ≠ wo.heap.size ∧ k ≠ p5 ∧ k ≠ w.heap.size ∧ (Value.slice o n c).ownBlock ≠ some k) ∧ (Value.slice o2 j c2).ownBlock ≠ some k) w6 (fun w' => PtIs w' p (.slice o5 p.names.length c5) (.slice o6 p.ends.length c6) (.slice o7 p.parts.length c7)) from (HK.out.to (hag6.sub fun k _ hk => hk.2)).sub fun k _ hk => hk.1)
                      have HRC := Lib.hid (show KP (fun k => (k ≠ wo.heap.size ∧ k ≠ p5 ∧ k ≠ w.heap.size ∧ (Value.slice o n c).ownBlock ≠ some k) ∧ (Value.slice o2 j c2).ownBlock ≠ some k) w6 (fun w' => Row w' (.slice op ns.length cp) ns.length (strs ns)) from (HCR.out.1.to (hag6.sub fun k _ hk => by subst hk; have := HG3.out.cB; have := HG.out.hB; omega)).sub fun k _ hk => by subst hk; exact cb_far HG3.out HI3.out HG.out.hB)
                      clear hw6 hag6 q0 q1 q2 q3 s0 s1 s2 s3 s4 sf
                      have sW : w6.heap[pst]? = some (.cells #[.slice op ns.length cp, .int .i64 p.kind, .slice o5 p.names.length c5, .slice o6 p.ends.length c6, .slice o7 p.parts.length c7] 66 (0, 0)) := HSW.out
                      have s0 : w6.cell? ⟨pst, 0, none⟩ = some (.slice op ns.length cp) ∧ w6.cell? ⟨pst, 1, none⟩ = some (.int .i64 p.kind) ∧ w6.cell? ⟨pst, 2, none⟩ = some (.slice o5 p.names.length c5) ∧ w6.cell? ⟨pst, 3, none⟩ = some (.slice o6 p.ends.length c6) ∧ w6.cell? ⟨pst, 4, none⟩ = some (.slice o7 p.parts.length c7) := by simp [World.cell?, sW]
                      obtain ⟨s0, s1, s2, s3, s4⟩ := s0
                      have hrw : w6.heap[wo.heap.size]? = some (.cells #[.int .i64 (10 + (i : Int)), .bool fr, .slice o2 j c2] 64 (0, 0)) := HRW.out
                      have q0 : w6.cell? ⟨wo.heap.size, 0, none⟩ = some (.int .i64 (10 + (i : Int))) ∧ w6.cell? ⟨wo.heap.size, 1, none⟩ = some (.bool fr) ∧ w6.cell? ⟨wo.heap.size, 2, none⟩ = some (.slice o2 j c2) ∧ w6.frozen? ⟨wo.heap.size, 2, none⟩ = false := by simp [World.cell?, World.frozen?, hrw]
                      obtain ⟨q0, q1, q2, q3⟩ := q0
                      have HROW := Lib.hid (show w6.ownsRow wo.heap.size 66 5 (.slice o2 j c2) j (qs.flatMap five) from by have := HI.out.own.row; rw [HI.out.len] at this; exact owns_below this hb6)
                      have hN : (Value.slice o2 j c2).ownBlock ≠ some wo.heap.size := own_far HROW.out hrw (by decide)
                      have hsz : wo.heap.size < w6.heap.size := hp_lt hrw
                      have n0 : ¬ wo.heap.size = w6.heap.size := by omega
                      have n1 : wo.heap.size < w6.heap.size + 1 := by omega
                      have hj2 : j ≤ 2 := by omega
                      have HW5 := Lib.hid hb6
                      clear sW
                      go_wp2_with (
                        at_builtin; refine wpList_append_far _ rfl _ _ 62 rfl wo.heap.size 66 is _ 5 104 Tryz.underlying62 hs0 hs1 hs2 hs3 rfl (by decide) (.slice o2 j c2) j (qs.flatMap five) rfl (by repeat (first | exact HROW.out | refine World.ownsRow.alloc ?_ _ | refine owns_drew ?_)) _ 1 _ rfl (by first | exact row_new rfl (by simp)) rfl (by simp [Value.oneCell']) (by unfold maxLen; omega) (by omega) (by simp; omega) ?_; intro v9 w9 hown9 hg9 hf9 hb9; obtain ⟨o9, c9, rfl⟩ := owns_slice hown9
                        have hp9 : w9.heap[wo.heap.size]? = some (.cells #[.int .i64 (10 + (i : Int)), .bool fr, .slice o2 j c2] 64 (0, 0)) := by
                          rw [hg9.block _ (by simp; omega) (fun e => hN e.symm)]; exact bel_get (by repeat (first | exact Below.refl _ _ | refine Below.drew ?_ | refine bel_new ?_ _)) hrw
                        have z0 : w9.cell? ⟨wo.heap.size, 2, none⟩ = some (.slice o2 j c2) := by simp [World.cell?, hp9]
                        have z1 : w9.frozen? ⟨wo.heap.size, 2, none⟩ = false := by simp [World.frozen?, hp9])
                      obtain ⟨w5, hw5⟩ : ∃ w5, w5 = w9.setCell ⟨wo.heap.size, 2, none⟩ (.slice o9 (j + 1) c9) := ⟨_, rfl⟩
                      rw [← hw5]
                      have hL5 := HI.out.step (st := ⟨ns, p⟩) (cv := .slice op ns.length cp) (nv := .slice o5 p.names.length c5) (ev := .slice o6 p.ends.length c6) (pv := .slice o7 p.parts.length c7) (by repeat (first | exact HW5.out | refine Below.drew ?_ | refine bel_new ?_ _))
                        ((kp_and HRC.out HPW.out (fun w' a b => And.intro a b)).to (.of (by repeat (first | exact Below.refl _ _ | refine Below.drew ?_ | refine bel_new ?_ _)))) ⟨.inr ⟨HMN.out.calls _ HCR.out.2.1, by simp [hz2]⟩, HPG.out⟩ hown9 rfl hg9 hf9
                      rw [← hw5] at hL5
                      obtain ⟨qs5, hL5⟩ := hL5
                      have HL5 := Lib.hid hL5
                      clear hw5 hL5 hown9 hg9 hf9 hb9 hp9 z0 z1
                      go_wp2_with fail
                      go_roundg g2
                      case measure => omega
                      case rel => exact ⟨j + 1, c9, o9, qs5, by omega, by simp, HL5.out.1, by rw [HL5.out.2, HQE.out, List.range_succ, List.map_append]; exact congrArg _ (stp_next HKF.out HFR.out HNF.out HPF.out HNZ.out HCR.out.2.2)⟩
                    · have d0 : decide ((0 : Int) < (j : Int)) = true := by simp; omega
                      have d1 : decide (0 < j) = true := by simp; omega
                      obtain ⟨op, np, cp, ns, hnl, hrowc, hsub, hcall⟩ := pick_kp C (.slice (some ⟨cb, 0, none⟩) C.length C.length) (wrap64 (k.tdiv 4)) wc (names_kp (S := fun k => k = cb) HG3.out.hc rfl HMN.out.lens.1.1 HMN.out.lens.1.2) HMN.out.lens.1.1 HMN.out.lens.1.2
                      subst hnl
                      have HCR := Lib.hid (And.intro hrowc hsub)
                      have HCA := Lib.hid hcall
                      clear hrowc hsub hcall
                      go_upto_region 20 with (
                        go_at_call 45; with_reducible refine (HCA.out _).mono ?_; rintro e w3 ⟨rfl, hw3⟩; obtain rfl : wc = w3 := hw3.symm)
                      obtain ⟨w6, hw6⟩ : ∃ w6, w6 = wc.setCell ⟨pst, 0, none⟩ (.slice op ns.length cp) := ⟨_, rfl⟩
                      rw [← hw6]
                      have hb6 : Below wr.heap.size wr w6 := by rw [hw6]; exact HB.out.setCell hge _
                      have HSW := Lib.hid (show w6.heap[pst]? = some (.cells #[.slice op ns.length cp, .int .i64 p.kind, .slice o5 p.names.length c5, .slice o6 p.ends.length c6, .slice o7 p.parts.length c7] 66 (0, 0)) from by rw [hw6]; simp [World.setCell, Array.getElem?_modify, HS.out])
                      have HRW := Lib.hid (show w6.heap[wo.heap.size]? = some (.cells #[.int .i64 (10 + (i : Int)), .bool fr, .slice o2 j c2] 64 (0, 0)) from by rw [hw6, Below.heap_setCell _ _ _ _ (show wo.heap.size ≠ pst by omega)]; exact HI3.out.hr)
                      have hag6 : Ag (fun k => k ≠ pst) wc w6 := by rw [hw6]; exact (Ag.refl _ _).setCell (fun h => h rfl) _
                      have HPW := Lib.hid (show KP (fun k => (k ≠ wo.heap.size ∧ k ≠ p5 ∧ k ≠ w.heap.size ∧ (Value.slice o n c).ownBlock ≠ some k) ∧ (Value.slice o2 j c2).ownBlock ≠ some k) w6 (fun w' => PtIs w' p (.slice o5 p.names.length c5) (.slice o6 p.ends.length c6) (.slice o7 p.parts.length c7)) from (HK.out.to (hag6.sub fun k _ hk => hk.2)).sub fun k _ hk => hk.1)
                      have HRC := Lib.hid (show KP (fun k => (k ≠ wo.heap.size ∧ k ≠ p5 ∧ k ≠ w.heap.size ∧ (Value.slice o n c).ownBlock ≠ some k) ∧ (Value.slice o2 j c2).ownBlock ≠ some k) w6 (fun w' => Row w' (.slice op ns.length cp) ns.length (strs ns)) from (HCR.out.1.to (hag6.sub fun k _ hk => by subst hk; have := HG3.out.cB; have := HG.out.hB; omega)).sub fun k _ hk => by subst hk; exact cb_far HG3.out HI3.out HG.out.hB)
                      clear hw6 hag6 q0 q1 q2 q3 s0 s1 s2 s3 s4 sf
                      have sW : w6.heap[pst]? = some (.cells #[.slice op ns.length cp, .int .i64 p.kind, .slice o5 p.names.length c5, .slice o6 p.ends.length c6, .slice o7 p.parts.length c7] 66 (0, 0)) := HSW.out
                      have s0 : w6.cell? ⟨pst, 0, none⟩ = some (.slice op ns.length cp) ∧ w6.cell? ⟨pst, 1, none⟩ = some (.int .i64 p.kind) ∧ w6.cell? ⟨pst, 2, none⟩ = some (.slice o5 p.names.length c5) ∧ w6.cell? ⟨pst, 3, none⟩ = some (.slice o6 p.ends.length c6) ∧ w6.cell? ⟨pst, 4, none⟩ = some (.slice o7 p.parts.length c7) := by simp [World.cell?, sW]
                      obtain ⟨s0, s1, s2, s3, s4⟩ := s0
                      have hrw : w6.heap[wo.heap.size]? = some (.cells #[.int .i64 (10 + (i : Int)), .bool fr, .slice o2 j c2] 64 (0, 0)) := HRW.out
                      have q0 : w6.cell? ⟨wo.heap.size, 0, none⟩ = some (.int .i64 (10 + (i : Int))) ∧ w6.cell? ⟨wo.heap.size, 1, none⟩ = some (.bool fr) ∧ w6.cell? ⟨wo.heap.size, 2, none⟩ = some (.slice o2 j c2) ∧ w6.frozen? ⟨wo.heap.size, 2, none⟩ = false := by simp [World.cell?, World.frozen?, hrw]
                      obtain ⟨q0, q1, q2, q3⟩ := q0
                      have HROW := Lib.hid (show w6.ownsRow wo.heap.size 66 5 (.slice o2 j c2) j (qs.flatMap five) from by have := HI.out.own.row; rw [HI.out.len] at this; exact owns_below this hb6)
                      have hN : (Value.slice o2 j c2).ownBlock ≠ some wo.heap.size := own_far HROW.out hrw (by decide)
                      have hsz : wo.heap.size < w6.heap.size := hp_lt hrw
                      have n0 : ¬ wo.heap.size = w6.heap.size := by omega
                      have n1 : wo.heap.size < w6.heap.size + 1 := by omega
                      have hj2 : j ≤ 2 := by omega
                      have HW5 := Lib.hid hb6
                      clear sW
                      go_wp2_with (
                        at_builtin; refine wpList_append_far _ rfl _ _ 62 rfl wo.heap.size 66 is _ 5 104 Tryz.underlying62 hs0 hs1 hs2 hs3 rfl (by decide) (.slice o2 j c2) j (qs.flatMap five) rfl (by repeat (first | exact HROW.out | refine World.ownsRow.alloc ?_ _ | refine owns_drew ?_)) _ 1 _ rfl (by first | exact row_new rfl (by simp)) rfl (by simp [Value.oneCell']) (by unfold maxLen; omega) (by omega) (by simp; omega) ?_; intro v9 w9 hown9 hg9 hf9 hb9; obtain ⟨o9, c9, rfl⟩ := owns_slice hown9
                        have hp9 : w9.heap[wo.heap.size]? = some (.cells #[.int .i64 (10 + (i : Int)), .bool fr, .slice o2 j c2] 64 (0, 0)) := by
                          rw [hg9.block _ (by simp; omega) (fun e => hN e.symm)]; exact bel_get (by repeat (first | exact Below.refl _ _ | refine Below.drew ?_ | refine bel_new ?_ _)) hrw
                        have z0 : w9.cell? ⟨wo.heap.size, 2, none⟩ = some (.slice o2 j c2) := by simp [World.cell?, hp9]
                        have z1 : w9.frozen? ⟨wo.heap.size, 2, none⟩ = false := by simp [World.frozen?, hp9])
                      obtain ⟨w5, hw5⟩ : ∃ w5, w5 = w9.setCell ⟨wo.heap.size, 2, none⟩ (.slice o9 (j + 1) c9) := ⟨_, rfl⟩
                      rw [← hw5]
                      have hL5 := HI.out.step (st := ⟨ns, p⟩) (cv := .slice op ns.length cp) (nv := .slice o5 p.names.length c5) (ev := .slice o6 p.ends.length c6) (pv := .slice o7 p.parts.length c7) (by repeat (first | exact HW5.out | refine Below.drew ?_ | refine bel_new ?_ _))
                        ((kp_and HRC.out HPW.out (fun w' a b => And.intro a b)).to (.of (by repeat (first | exact Below.refl _ _ | refine Below.drew ?_ | refine bel_new ?_ _)))) ⟨.inr ⟨HMN.out.calls _ HCR.out.2.1, by simp [hz2]⟩, HPG.out⟩ hown9 rfl hg9 hf9
                      rw [← hw5] at hL5
                      obtain ⟨qs5, hL5⟩ := hL5
                      have HL5 := Lib.hid hL5
                      clear hw5 hL5 hown9 hg9 hf9 hb9 hp9 z0 z1
                      go_wp2_with fail
                      go_roundg g2
                      case measure => omega
                      case rel => exact ⟨j + 1, c9, o9, qs5, by omega, by simp, HL5.out.1, by rw [HL5.out.2, HQE.out, List.range_succ, List.map_append]; exact congrArg _ (stp_next HKF.out HFR.out HNF.out HPF.out HNZ.out HCR.out.2.2)⟩
        · have hx : (¬ i < L.length) ∨ (i < L.length ∧ i = 3) := by omega
          clear hi
          rcases hx with hx | ⟨hx, rfl⟩
          · have hd1 : decide ((i : Int) < (L.length : Int)) = false := by simp; omega
            have hd1b : decide (i < L.length) = false := by simpa using hx
            go_wp2_with fail
            simp [bodyPost, results, Tryz.results16, go_sem, r0, r1, r2, r3]
            exact HG.out.fin HMN.out hn3 (mkf_of HMF.out HPS.out (by omega) (.inl (by omega))) _ _
          · have hd1 : decide ((3 : Int) < (L.length : Int)) = true := by simp; omega
            have hd1b : decide (3 < L.length) = true := by simpa using hx
            go_wp2_with fail
            simp [bodyPost, results, Tryz.results16, go_sem, r0, r1, r2, r3]
            exact HG.out.fin HMN.out hn3 (mkf_of HMF.out HPS.out (by omega) (.inr rfl)) _ _
end Go.Proofs.YtbanmggkfpnalaaGreatDoor
