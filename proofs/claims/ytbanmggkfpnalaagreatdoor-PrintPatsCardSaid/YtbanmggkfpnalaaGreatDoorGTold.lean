/- gobolaw11.told. -/
import Derived.Test.YtbanmggkfpnalaaGreatDoorGSame
import Derived.Deep.RegionHeld
import Derived.Deep.DeepCutAuto
import Derived.Deep.RegionHeld3
import Derived.Deep.RegionLaw
import Derived.Test.YtbanmggkfpnalaaGreatDoorOwn
set_option linter.unusedVariables false
set_option linter.unusedSimpArgs false
namespace Go.Proofs.YtbanmggkfpnalaaGreatDoor
open Go.RowKit Ru

set_option maxHeartbeats 8000000 in
set_option maxRecDepth 100000 in
theorem one_exact (r : Int) (w : World) :
    Calls Tryz.prog 19 #[.int .i32 r] w fun e w' => e = .returned (.agg #[.int .i64 2, .slice (some ⟨w.heap.size + 1, 0, none⟩) 1 1, .slice none 0 0]) ∧ w' = (w.alloc (.cells #[.int .i64 2, .slice (some ⟨w.heap.size + 1, 0, none⟩) 1 1, .slice none 0 0] 25)).alloc (.cells #[.int .i32 r, .int .i32 r] 53) := by
  go_enter Tryz.func19, Tryz.ntmps19
  go_wp2_with fail
  simp [bodyPost, results, Tryz.results19, go_sem]
  trace_state
theorem allocs_old : ∀ (l : List Obj) (w : World) (k : Nat), k < w.heap.size → (l.foldl World.alloc w).heap[k]? = w.heap[k]? := by
  intro l
  induction l with
  | nil => intro w k h; rfl
  | cons o l ih =>
    intro w k h
    rw [List.foldl_cons, ih _ _ (by simp; omega)]
    exact Below.heap_alloc _ _ _ h
theorem allocs_heap : ∀ (l : List Obj) (w : World) (i : Nat), i < l.length → (l.foldl World.alloc w).heap[w.heap.size + i]? = l[i]? := by
  intro l
  induction l with
  | nil => intro w i h; simp at h
  | cons o l ih =>
    intro w i h
    rw [List.foldl_cons]
    cases i with
    | zero => rw [allocs_old _ _ _ (by simp), Nat.add_zero]; exact heap_alloc_new _ _
    | succ i =>
      have := ih (w.alloc o) i (by simpa using h)
      rw [show w.heap.size + (i + 1) = (w.alloc o).heap.size + i by simp; omega, this]
      simp
theorem chain5 (W : World) (a b c d e : Obj) : ((((((W.alloc a).alloc b).alloc c).alloc d).alloc e).drew).heap[W.heap.size]? = some a ∧ ((((((W.alloc a).alloc b).alloc c).alloc d).alloc e).drew).heap[W.heap.size + 1]? = some b ∧ ((((((W.alloc a).alloc b).alloc c).alloc d).alloc e).drew).heap[W.heap.size + 1 + 1]? = some c ∧
    ((((((W.alloc a).alloc b).alloc c).alloc d).alloc e).drew).heap[W.heap.size + 1 + 1 + 1]? = some d ∧ ((((((W.alloc a).alloc b).alloc c).alloc d).alloc e).drew).heap[W.heap.size + 1 + 1 + 1 + 1]? = some e ∧ Below W.heap.size W ((((((W.alloc a).alloc b).alloc c).alloc d).alloc e).drew) := by
  refine ⟨?_, ?_, ?_, ?_, ?_, (bel_new (bel_new (bel_new (bel_new (bel_new (Below.refl _ _) _) _) _) _) _).drew⟩
  · rw [drew_heap, Below.heap_alloc _ _ _ (by simp <;> omega), Below.heap_alloc _ _ _ (by simp <;> omega), Below.heap_alloc _ _ _ (by simp <;> omega), Below.heap_alloc _ _ _ (by simp <;> omega)]; exact heap_alloc_new _ _
  · rw [drew_heap, Below.heap_alloc _ _ _ (by simp <;> omega), Below.heap_alloc _ _ _ (by simp <;> omega), Below.heap_alloc _ _ _ (by simp)]; have := heap_alloc_new (W.alloc a) b; simpa using this
  · rw [drew_heap, Below.heap_alloc _ _ _ (by simp <;> omega), Below.heap_alloc _ _ _ (by simp)]; have := heap_alloc_new ((W.alloc a).alloc b) c; simpa using this
  · rw [drew_heap, Below.heap_alloc _ _ _ (by simp)]; have := heap_alloc_new (((W.alloc a).alloc b).alloc c) d; simpa using this
  · rw [drew_heap]; have := heap_alloc_new ((((W.alloc a).alloc b).alloc c).alloc d) e; simpa using this
/-- the cells of Make's four tokens -/
abbrev t0cells (ra rb rc rd : Nat) : Array Value := #[.string ⟨#[97]⟩, .int .i64 0, .int .i64 1, .int .i64 2, .slice (some ⟨ra, 0, none⟩) 1 1, .slice none 0 0, .string ⟨#[98]⟩, .int .i64 0, .int .i64 2, .int .i64 2, .slice (some ⟨rb, 0, none⟩) 2 2, .slice none 0 0,
    .string ⟨#[111]⟩, .int .i64 1, .int .i64 3, .int .i64 2, .slice (some ⟨rc, 0, none⟩) 1 1, .slice none 0 0, .string ⟨#[99]⟩, .int .i64 2, .int .i64 4, .int .i64 2, .slice (some ⟨rd, 0, none⟩) 1 1, .slice none 0 0]
/-- the grammar of the four tokens, in memory above a base -/
structure Mk0 (w w' : World) (pt ra rb rc rd : Nat) : Prop where
  bel : Below w.heap.size w w'
  ge : w.heap.size ≤ pt
  ht : w'.heap[pt]? = some (.cells (t0cells ra rb rc rd) 61 (0, 0))
  ha : w'.heap[ra]? = some (.cells #[.int .i32 97, .int .i32 97] 53 (0, 0))
  hb : w'.heap[rb]? = some (.cells #[.int .i32 10, .int .i32 10, .int .i32 98, .int .i32 98] 53 (0, 0))
  hc : w'.heap[rc]? = some (.cells #[.int .i32 99, .int .i32 99] 53 (0, 0))
  hd : w'.heap[rd]? = some (.cells #[.int .i32 100, .int .i32 100] 53 (0, 0))
/-- behind region 2 of Make: the grammar of the four tokens -/
def Mk0At (w W wx : World) (s5 : Value) : Prop := ∃ p5 pt pa pb : Nat, s5 = .pointer (some ⟨p5, 0, none⟩) ∧ W.heap.size ≤ p5 ∧ W.heap.size ≤ pt ∧ p5 ≠ pt ∧ Below W.heap.size W wx ∧
  wx.heap[p5]? = some (.cells #[.slice (some ⟨pt, 0, none⟩) 4 4, .slice none 0 0] 35 (0, 0)) ∧
  wx.heap[pt]? = some (.cells #[.string ⟨#[97]⟩, .int .i64 0, .int .i64 1, .int .i64 2, .slice (some ⟨pa, 0, none⟩) 1 1, .slice none 0 0, .string ⟨#[98]⟩, .int .i64 0, .int .i64 2, .int .i64 2, .slice (some ⟨pb, 0, none⟩) 2 2, .slice none 0 0,
    .string ⟨#[111]⟩, .int .i64 1, .int .i64 3, .int .i64 2, .slice (some ⟨w.heap.size + 1 + 1, 0, none⟩) 1 1, .slice none 0 0, .string ⟨#[99]⟩, .int .i64 2, .int .i64 4, .int .i64 2, .slice (some ⟨w.heap.size + 1 + 1 + 1 + 1, 0, none⟩) 1 1, .slice none 0 0] 61 (0, 0)) ∧
  wx.heap[pa]? = some (.cells #[.int .i32 97, .int .i32 97] 53 (0, 0)) ∧ wx.heap[pb]? = some (.cells #[.int .i32 10, .int .i32 10, .int .i32 98, .int .i32 98] 53 (0, 0))
theorem mk0_of {w W : World} {a b c d e : Obj} {s5 : Value} (h : ∀ wx : World, (wx.heap[W.heap.size]? = some a ∧ wx.heap[W.heap.size + 1]? = some b ∧ wx.heap[W.heap.size + 1 + 1]? = some c ∧ wx.heap[W.heap.size + 1 + 1 + 1]? = some d ∧ wx.heap[W.heap.size + 1 + 1 + 1 + 1]? = some e ∧ Below W.heap.size W wx) → Mk0At w W wx s5) :
    Mk0At w W ((((((W.alloc a).alloc b).alloc c).alloc d).alloc e).drew) s5 := h _ (chain5 W a b c d e)
set_option maxHeartbeats 8000000 in
set_option maxRecDepth 100000 in
theorem mk0_any (w : World) :
    Calls Tryz.prog 16 #[.slice none 0 0] w fun e w' => ∃ pt ra rb rc rd : Nat, e = .returned (.agg #[.slice (some ⟨pt, 0, none⟩) 4 4, .slice none 0 0]) ∧ Mk0 w w' pt ra rb rc rd := by
  go_enter Tryz.func16, Tryz.ntmps16
  go_upto_region 2 with (go_at_call 19; refine (one_exact _ _).mono ?_; rintro e w2 ⟨rfl, rfl⟩)
  obtain ⟨W, hW⟩ : ∃ W, W = (((((((w.alloc (.cells #[.slice none 0 0, .slice none 0 0] 35)).alloc (.cells #[.int .i64 2, .slice (some ⟨w.heap.size + 1 + 1, 0, none⟩) 1 1, .slice none 0 0] 25)).alloc (.cells #[.int .i32 99, .int .i32 99] 53)).alloc (.cells #[.int .i64 2, .slice (some ⟨w.heap.size + 1 + 1 + 1 + 1, 0, none⟩) 1 1, .slice none 0 0] 25)).alloc (.cells #[.int .i32 100, .int .i32 100] 53)).alloc (.cells #[.int .i64 2, .slice (some ⟨w.heap.size + 1 + 1, 0, none⟩) 1 1, .slice none 0 0] 25)).alloc (.cells #[.int .i64 2, .slice (some ⟨w.heap.size + 1 + 1 + 1 + 1, 0, none⟩) 1 1, .slice none 0 0] 25)) := ⟨_, rfl⟩
  rw [← hW]
  have c0 : W.cell? ⟨w.heap.size + 1 + 1 + 1 + 1 + 1, 0, none⟩ = some (.int .i64 2) ∧ W.cell? ⟨w.heap.size + 1 + 1 + 1 + 1 + 1, 1, none⟩ = some (.slice (some ⟨w.heap.size + 1 + 1, 0, none⟩) 1 1) ∧ W.cell? ⟨w.heap.size + 1 + 1 + 1 + 1 + 1, 2, none⟩ = some (.slice none 0 0) := by rw [hW]; simp [go_sem]
  have c1 : W.cell? ⟨w.heap.size + 1 + 1 + 1 + 1 + 1 + 1, 0, none⟩ = some (.int .i64 2) ∧ W.cell? ⟨w.heap.size + 1 + 1 + 1 + 1 + 1 + 1, 1, none⟩ = some (.slice (some ⟨w.heap.size + 1 + 1 + 1 + 1, 0, none⟩) 1 1) ∧ W.cell? ⟨w.heap.size + 1 + 1 + 1 + 1 + 1 + 1, 2, none⟩ = some (.slice none 0 0) := by rw [hW]; simp [go_sem]
  have hWs : W.heap.size = w.heap.size + 7 := by rw [hW]; simp
  have hWb : Below w.heap.size w W := by rw [hW]; exact bel_new (bel_new (bel_new (bel_new (bel_new (bel_new (bel_new (Below.refl _ _) _) _) _) _) _) _) _
  have hW0 : W.heap[w.heap.size]? = some (.cells #[.slice none 0 0, .slice none 0 0] 35 (0, 0)) ∧ W.heap[w.heap.size + 1 + 1]? = some (.cells #[.int .i32 99, .int .i32 99] 53 (0, 0)) ∧ W.heap[w.heap.size + 1 + 1 + 1 + 1]? = some (.cells #[.int .i32 100, .int .i32 100] 53 (0, 0)) := by
    have h := allocs_heap [.cells #[.slice none 0 0, .slice none 0 0] 35, .cells #[.int .i64 2, .slice (some ⟨w.heap.size + 1 + 1, 0, none⟩) 1 1, .slice none 0 0] 25, .cells #[.int .i32 99, .int .i32 99] 53, .cells #[.int .i64 2, .slice (some ⟨w.heap.size + 1 + 1 + 1 + 1, 0, none⟩) 1 1, .slice none 0 0] 25, .cells #[.int .i32 100, .int .i32 100] 53, .cells #[.int .i64 2, .slice (some ⟨w.heap.size + 1 + 1, 0, none⟩) 1 1, .slice none 0 0] 25, .cells #[.int .i64 2, .slice (some ⟨w.heap.size + 1 + 1 + 1 + 1, 0, none⟩) 1 1, .slice none 0 0] 25] w
    rw [hW]
    exact ⟨h 0 (by simp), h 2 (by simp), h 4 (by simp)⟩
  have HW := Lib.hid (And.intro hWb hW0)
  clear hWb hW0
  clear hW
  obtain ⟨pc, hpc⟩ : ∃ p, p = w.heap.size + 1 + 1 + 1 + 1 + 1 := ⟨_, rfl⟩
  obtain ⟨pd, hpd⟩ : ∃ p, p = w.heap.size + 1 + 1 + 1 + 1 + 1 + 1 := ⟨_, rfl⟩
  rw [← hpd] at c1 ⊢
  rw [← hpc] at c0 ⊢
  obtain ⟨c00, c01, c02⟩ := c0
  obtain ⟨c10, c11, c12⟩ := c1
  have hpcl : pc < W.heap.size := by omega
  have hpdl : pd < W.heap.size := by omega
  have hpcn : ¬ pc = W.heap.size := by omega
  have hpdn : ¬ pd = W.heap.size := by omega
  have hpcn1 : ¬ pc = W.heap.size + 1 := by omega
  have hpdn1 : ¬ pd = W.heap.size + 1 := by omega
  have HP := Lib.hid (And.intro hpc (And.intro hpd hWs))
  clear hpc hpd hWs
  go_cut [5] (fun s5 wx => Mk0At w W wx s5)
  case first =>
    go_region_held3 (fun w' => w'.cell? ⟨pc, 0, none⟩ = some (.int .i64 2) ∧ w'.cell? ⟨pc, 1, none⟩ = some (.slice (some ⟨w.heap.size + 1 + 1, 0, none⟩) 1 1) ∧ w'.cell? ⟨pc, 2, none⟩ = some (.slice none 0 0) ∧ w'.cell? ⟨pd, 0, none⟩ = some (.int .i64 2) ∧ w'.cell? ⟨pd, 1, none⟩ = some (.slice (some ⟨w.heap.size + 1 + 1 + 1 + 1, 0, none⟩) 1 1) ∧ w'.cell? ⟨pd, 2, none⟩ = some (.slice none 0 0)) (first | trivial | (refine ⟨?_, ?_, ?_, ?_, ?_, ?_⟩ <;> refine (Below.cell (w := W) ?_ (by assumption)).trans (by assumption) <;> repeat (first | exact Below.refl _ _ | refine Below.drew ?_ | refine bel_new ?_ _ | (refine Below.setCell ?_ (by first | omega | (simp <;> omega)) _))))
      (first | (go_at_call 19; refine (one_exact _ _).mono ?_; rintro e w2 ⟨rfl, rfl⟩))
    all_goals (go_wp2_with (fail))
    all_goals go_meet
    all_goals (
      refine mk0_of fun wx hch => ?_
      unfold Mk0At
      apply Exists.intro
      apply Exists.intro
      apply Exists.intro
      apply Exists.intro
      refine ⟨rfl, ?_, ?_, ?_, hch.2.2.2.2.2, ?_, ?_, ?_, ?_⟩
      rotate_left 3
      · first | exact hch.2.2.2.2.1 | exact hch.2.2.2.1 | exact hch.2.2.1 | exact hch.2.1 | exact hch.1
      · first | exact hch.2.2.2.2.1 | exact hch.2.2.2.1 | exact hch.2.2.1 | exact hch.2.1 | exact hch.1
      · first | exact hch.2.2.2.2.1 | exact hch.2.2.2.1 | exact hch.2.2.1 | exact hch.2.1 | exact hch.1
      · first | exact hch.2.2.2.2.1 | exact hch.2.2.2.1 | exact hch.2.2.1 | exact hch.2.1 | exact hch.1
      all_goals omega)
  case rest =>
    obtain ⟨p5, pt, pa, pb, rfl, h5, ht, h5t, hbel, g5, gt, ga, gb⟩ := hcut
    have HG := Lib.hid (And.intro h5 (And.intro ht (And.intro h5t (And.intro hbel (And.intro g5 (And.intro gt (And.intro ga gb)))))))
    clear h5 ht h5t hbel g5 gt ga gb
    go_wp2_with fail
    obtain ⟨W4, hW4⟩ : ∃ W4, W4 = (wc.alloc (.cells #[.string ⟨#[111]⟩] 9)).alloc (.cells #[.string ⟨#[99]⟩] 9) := ⟨_, rfl⟩
    rw [← hW4]
    have hb4 : Below wc.heap.size wc W4 := by rw [hW4]; exact bel_new (bel_new (Below.refl _ _) _) _
    have HB4 := Lib.hid hb4
    clear hW4 hb4
    go_loopg [8] 0 (fun g s wx => g = 0 ∧ s = .int .i64 0 ∧ wx = W4)
    case atStart => exact ⟨rfl, rfl, rfl⟩
    case round =>
      obtain ⟨hg0, rfl, rfl⟩ := hrel
      obtain ⟨h5, ht, h5t, hbel, g5, gt, ga, gb⟩ := HG.out
      have hbb := bel_then hbel HB4.out
      have hp5 : p5 ≠ w.heap.size := by have := HP.out.2.2; omega
      have hr0 := bel_get hbb HW.out.2.1
      have hr5 := bel_get HB4.out g5
      have e5 : ∀ w' : World, w'.heap[p5]? = some (.cells #[.slice (some ⟨pt, 0, none⟩) 4 4, .slice none 0 0] 35 (0, 0)) → w'.cell? ⟨p5, 0, none⟩ = some (.slice (some ⟨pt, 0, none⟩) 4 4) ∧ w'.cell? ⟨p5, 1, none⟩ = some (.slice none 0 0) := fun w' h => by simp [World.cell?, h]
      obtain ⟨k0, k1⟩ := e5 _ hr5
      have z0 : wr.cell? ⟨w.heap.size, 0, none⟩ = some (.slice none 0 0) ∧ wr.cell? ⟨w.heap.size, 1, none⟩ = some (.slice none 0 0) ∧ wr.frozen? ⟨w.heap.size, 0, none⟩ = false ∧ wr.frozen? ⟨w.heap.size, 1, none⟩ = false := by simp [World.cell?, World.frozen?, hr0]
      obtain ⟨z0, z1, z2, z3⟩ := z0
      clear h5 ht h5t hbel g5 gt ga gb hbb hr0 hr5 e5
      go_wp2
      simp [bodyPost, results, Tryz.results16, go_sem, z0, z1, z2, z3]
      obtain ⟨h5, ht, h5t, hbel, g5, gt, ga, gb⟩ := HG.out
      have hws := HP.out.2.2
      have hoth : ∀ k, k ≠ w.heap.size → ((wr.setCell ⟨w.heap.size, 0, none⟩ (.slice (some ⟨pt, 0, none⟩) 4 4)).setCell ⟨w.heap.size, 1, none⟩ (.slice none 0 0)).heap[k]? = wr.heap[k]? := fun k hk => by
        rw [Below.heap_setCell _ _ _ _ (by simpa using hk), Below.heap_setCell _ _ _ _ (by simpa using hk)]
      have hlt : ∀ {k : Nat} {o : Obj}, W.heap[k]? = some o → k < w.heap.size + 7 := fun h => by have := hp_lt h; omega
      have hwb : ∀ {k : Nat} {o : Obj}, W.heap[k]? = some o → wr.heap[k]? = some o := fun h => bel_get (bel_then hbel HB4.out) h
      have hpa : pa ≠ w.heap.size := fun e => by
        have h1 := bel_get hbel HW.out.2.1
        rw [e, h1] at ga; simp at ga
      have hpb : pb ≠ w.heap.size := fun e => by
        have h1 := bel_get hbel HW.out.2.1
        rw [e, h1] at gb; simp at gb
      refine ⟨pa, pb, w.heap.size + 1 + 1, w.heap.size + 1 + 1 + 1 + 1, ((bel_then (bel_then HW.out.1 hbel) HB4.out).setCell (by simp) _).setCell (by simp) _, by omega, ?_, ?_, ?_, ?_, ?_⟩
      · rw [hoth _ (by omega)]; exact bel_get HB4.out gt
      · rw [hoth _ hpa]; exact bel_get HB4.out ga
      · rw [hoth _ hpb]; exact bel_get HB4.out gb
      · rw [hoth _ (by omega)]; exact hwb HW.out.2.2.1
      · rw [hoth _ (by omega)]; exact hwb HW.out.2.2.2
end Go.Proofs.YtbanmggkfpnalaaGreatDoor

set_option linter.unusedVariables false
set_option linter.unusedSimpArgs false
namespace Go.Proofs.YtbanmggkfpnalaaGreatDoor
open Go.RowKit Ru

/-- Make's four tokens -/
def tkA : TK := ⟨⟨#[97]⟩, 0, 1, .mk 2 [(97, 97)] []⟩
def T0 : List TK := [tkA, ⟨⟨#[98]⟩, 0, 2, .mk 2 [(10, 10), (98, 98)] []⟩, ⟨⟨#[111]⟩, 1, 3, .mk 2 [(99, 99)] []⟩, ⟨⟨#[99]⟩, 2, 4, .mk 2 [(100, 100)] []⟩]
theorem row_block {w : World} {g n size : Nat} {cs : Array Value} {e : TypeId} (h : w.heap[g]? = some (.cells cs e (0, 0))) (hs : cs.size = n * size) (hn : n ≤ maxLen) : w.ownsRow g e size (.slice (some ⟨g, 0, none⟩) n n) n cs.toList :=
  ⟨by simpa using hs, .inr ⟨g, n, cs, rfl, Nat.le_refl _, h, Nat.le_refl _, hn, hs, List.take_of_length_le (by simp [hs])⟩⟩
theorem re_set {w : World} {p : Nat} (s : List (Int × Int)) (n : Nat) (hn : n = s.length) (hl : n ≤ 1000) (h : w.heap[p]? = some (.cells (flatK .i32 s).toArray 53 (0, 0))) : ReIs w (.mk 2 s []) (.slice (some ⟨p, 0, none⟩) n n) (.slice none 0 0) := by
  subst hn
  have hz : (flatK .i32 s).length = s.length * 2 := by
    clear h hl
    induction s with
    | nil => rfl
    | cons a l ih => simp [flatK] at *; omega
  have hr := Row.owned (row_block (n := s.length) (size := 2) h (by simpa using hz) (by unfold maxLen; omega))
  exact .mk 2 s [] _ _ [] (by simpa using hr) (Row.nil w) rfl (fun i e p h => by simp at h) (fun i e p h => by simp at h)
theorem Mk0.owns {w w' : World} {pt ra rb rc rd : Nat} (h : Mk0 w w' pt ra rb rc rd) : w'.ownsRow w.heap.size 61 6 (.slice (some ⟨pt, 0, none⟩) 4 4) 4 (t0cells ra rb rc rd).toList :=
  owns_base (row_block h.ht (by simp) (by decide)) h.ge
theorem Mk0.toks {w w' : World} {pt ra rb rc rd : Nat} (h : Mk0 w w' pt ra rb rc rd) : TksAre w' (.slice (some ⟨pt, 0, none⟩) 4 4) T0 := by
  refine ⟨[(tkA, .slice (some ⟨ra, 0, none⟩) 1 1, .slice none 0 0), (⟨⟨#[98]⟩, 0, 2, .mk 2 [(10, 10), (98, 98)] []⟩, .slice (some ⟨rb, 0, none⟩) 2 2, .slice none 0 0), (⟨⟨#[111]⟩, 1, 3, .mk 2 [(99, 99)] []⟩, .slice (some ⟨rc, 0, none⟩) 1 1, .slice none 0 0), (⟨⟨#[99]⟩, 2, 4, .mk 2 [(100, 100)] []⟩, .slice (some ⟨rd, 0, none⟩) 1 1, .slice none 0 0)], rfl, Row.owned h.owns, ?_⟩
  intro i p hp
  match i, hp with
  | 0, hp => cases hp; exact re_set [(97, 97)] 1 rfl (by decide) h.ha
  | 1, hp => cases hp; exact re_set [(10, 10), (98, 98)] 2 rfl (by decide) h.hb
  | 2, hp => cases hp; exact re_set [(99, 99)] 1 rfl (by decide) h.hc
  | 3, hp => cases hp; exact re_set [(100, 100)] 1 rfl (by decide) h.hd
  | (n + 4), hp => simp at hp
theorem Mk0.moved {w w' w'' : World} {pt ra rb rc rd : Nat} (h : Mk0 w w' pt ra rb rc rd) (hb : Below w'.heap.size w' w'') : Mk0 w w'' pt ra rb rc rd :=
  ⟨bel_then h.bel hb, h.ge, bel_get hb h.ht, bel_get hb h.ha, bel_get hb h.hb, bel_get hb h.hc, bel_get hb h.hd⟩
theorem re_fit {k : Int} {s : List (Int × Int)} (hi : i32s s) (h : s.length ≤ 1000) : (RE.mk k s []).Fit := .mk k s [] hi h (by simp) (fun i e h => by simp at h)
theorem T0_fit : TFit T0 := by
  intro i t ht
  match i, ht with
  | 0, ht => cases ht; exact ⟨by decide, re_fit (by unfold i32s; decide) (by decide)⟩
  | 1, ht => cases ht; exact ⟨by decide, re_fit (by unfold i32s; decide) (by decide)⟩
  | 2, ht => cases ht; exact ⟨by decide, re_fit (by unfold i32s; decide) (by decide)⟩
  | 3, ht => cases ht; exact ⟨by decide, re_fit (by unfold i32s; decide) (by decide)⟩
  | (n + 4), ht => simp [T0] at ht
theorem toks_nil (w : World) : TksAre w (.slice none 0 0) [] := ⟨[], rfl, Row.nil w, fun i p h => by simp at h⟩
theorem rules_nil (w : World) : RusAre w (.slice none 0 0) [] := ⟨[], rfl, Row.nil w, fun i p h => by simp at h⟩
theorem tfit_nil : TFit [] := fun i t h => by simp at h
theorem rfit_nil : RFit [] := fun i t h => by simp at h
theorem infoToken : ∃ i, Tryz.prog.info? 61 = some i ∧ i.zero = some (.agg #[.string ⟨#[]⟩, .int .i64 0, .int .i64 0, .int .i64 0, .slice none 0 0, .slice none 0 0]) ∧ i.size = 6 ∧ i.bytes = 88 := info_parts (by kernel_rfl)
theorem chk_e : chkE [] [] = (6, 0) := rfl
theorem chk_0 : chkE T0 [] = (0, 0) := by kernel_rfl
theorem chk_h : chkE (T0 ++ [tkA]) [] = (4, 4) := by kernel_rfl
theorem nam_1 : namB ⟨#[97, 98, 49]⟩ = true := by kernel_rfl
theorem nam_2 : namB ⟨#[116, 111, 107]⟩ = false := by kernel_rfl
theorem nam_3 : namB ⟨#[49, 97]⟩ = false := by kernel_rfl
theorem find_b : findB T0 ⟨#[98]⟩ = 1 := by kernel_rfl
theorem find_z : findB T0 ⟨#[122, 122]⟩ = -1 := by kernel_rfl
theorem same_0 : (allS TK.same T0 T0 && allS RU.same [] []) = true := by kernel_rfl
theorem same_h : (allS TK.same T0 (T0 ++ [tkA]) && allS RU.same [] []) = false := by kernel_rfl
def ptWell : PT := .mk 4 [] [] []
def ptStar : PT := .mk 7 [] [] [ptWell]
theorem cnt_s : ptStar.cnt 1 0 0 = (2, 2) := by kernel_rfl
theorem emp_w : ptWell.emp = true := by kernel_rfl
/-- g in memory -/
structure TW (w wi : World) (pg pt ra rb rc rd : Nat) : Prop where
  m0 : Mk0 w wi pt ra rb rc rd
  hg : wi.heap[pg]? = some (.cells #[.slice (some ⟨pt, 0, none⟩) 4 4, .slice none 0 0] 35 (0, 0))
  ge : w.heap.size ≤ pg
theorem TW.moved {w wi wj : World} {pg pt ra rb rc rd : Nat} (h : TW w wi pg pt ra rb rc rd) (hb : Below wi.heap.size wi wj) : TW w wj pg pt ra rb rc rd := ⟨h.m0.moved hb, bel_get hb h.hg, h.ge⟩
theorem TW.cells {w wi : World} {pg pt ra rb rc rd : Nat} (h : TW w wi pg pt ra rb rc rd) : wi.cell? ⟨pg, 0, none⟩ = some (.slice (some ⟨pt, 0, none⟩) 4 4) ∧ wi.cell? ⟨pg, 1, none⟩ = some (.slice none 0 0) ∧ pg < wi.heap.size ∧ pt < wi.heap.size := by
  have := h.hg
  exact ⟨by simp [World.cell?, this], by simp [World.cell?, this], hp_lt this, hp_lt h.m0.ht⟩
theorem TW.first {w wi : World} {pg pt ra rb rc rd : Nat} (h : TW w wi pg pt ra rb rc rd) : wi.cell? ⟨pt, 0, none⟩ = some (.string ⟨#[97]⟩) ∧ wi.cell? ⟨pt, 1, none⟩ = some (.int .i64 0) ∧ wi.cell? ⟨pt, 2, none⟩ = some (.int .i64 1) ∧ wi.cell? ⟨pt, 3, none⟩ = some (.int .i64 2) ∧ wi.cell? ⟨pt, 4, none⟩ = some (.slice (some ⟨ra, 0, none⟩) 1 1) ∧ wi.cell? ⟨pt, 5, none⟩ = some (.slice none 0 0) := by
  have := h.m0.ht
  simp [World.cell?, this]
theorem pt_well (w : World) : PtIs w ptWell (.slice none 0 0) (.slice none 0 0) (.slice none 0 0) :=
  .mk 4 [] [] [] _ _ _ [] (Row.nil w) (Row.nil w) (Row.nil w) rfl (fun i c p h => by simp at h) (fun i c p h => by simp at h)
theorem pt_star {w : World} {p : Nat} (h : w.heap[p]? = some (.cells #[.int .i64 4, .slice none 0 0, .slice none 0 0, .slice none 0 0] 47 (0, 0))) : PtIs w ptStar (.slice none 0 0) (.slice none 0 0) (.slice (some ⟨p, 0, none⟩) 1 1) := by
  refine .mk 7 [] [] [ptWell] _ _ _ [(4, .slice none 0 0, .slice none 0 0, .slice none 0 0)] (Row.nil w) (Row.nil w) (Row.owned (row_block (n := 1) (size := 4) h rfl (by decide))) rfl ?_ ?_
  · intro i c p hc hp
    match i, hc, hp with
    | 0, hc, hp => cases hc; cases hp; rfl
    | (n + 1), hc, hp => simp at hc
  · intro i c p hc hp
    match i, hc, hp with
    | 0, hc, hp => cases hc; cases hp; exact pt_well w
    | (n + 1), hc, hp => simp at hc
theorem well_fit : ptWell.Fit := .mk 4 [] [] [] (by decide) (by decide) (by decide) (fun i p h => by simp at h)
theorem star_fit : ptStar.Fit := .mk 7 [] [] [ptWell] (by decide) (by decide) (by decide) (fun i p h => by
  match i, h with
  | 0, h => cases h; exact well_fit
  | (n + 1), h => simp at h)
theorem own0 {w : World} {e : TypeId} {base size g : Nat} (hg : g = w.heap.size) (hb : base ≤ w.heap.size) : (w.alloc (.cells #[] e)).ownsRow base e size (.slice (some ⟨g, 0, none⟩) 0 0) 0 [] := by
  subst hg; exact World.ownsRow_lit w #[] 0 hb (by decide) (by simp)
theorem row_six {w : World} {e : TypeId} {g : Nat} {cs : Array Value} (hs : cs.size = 6) (h : w.heap[g]? = some (.cells cs e (0, 0))) : Row w (.slice (some ⟨g, 0, none⟩) 1 1) 1 cs.toList :=
  Row.owned (row_block (n := 1) (size := 6) h (by simpa using hs) (by decide))
theorem row_six_new {w : World} {e : TypeId} {g : Nat} {cs : Array Value} (hs : cs.size = 6) (hg : g = w.heap.size) : Row (w.alloc (.cells cs e)) (.slice (some ⟨g, 0, none⟩) 1 1) 1 cs.toList := by
  subst hg; exact row_six hs (heap_alloc_new w _)
theorem row_drew {w : World} {v : Value} {n : Nat} {cs : List Value} (h : Row w v n cs) : Row w.drew v n cs := h.below (Below.refl _ _).drew
abbrev sixA (ra : Nat) : Array Value := #[.string ⟨#[97]⟩, .int .i64 0, .int .i64 1, .int .i64 2, .slice (some ⟨ra, 0, none⟩) 1 1, .slice none 0 0]
theorem six_at {w8 W : World} {row : Option Nat} {g ra : Nat} {e : TypeId} (hg8 : W.grownBy w8 row) (hW : W.heap[g]? = some (.cells (sixA ra) e (0, 0))) (hr : row ≠ some g) : Row w8 (.slice (some ⟨g, 0, none⟩) 1 1) 1 (sixA ra).toList :=
  row_six rfl (by rw [hg8.block g (Array.getElem?_eq_some_iff.1 hW).1 (fun e => hr e.symm)]; exact hW)
theorem al_snd (w : World) (a b : Obj) : ((w.alloc a).alloc b).drew.heap[w.heap.size + 1]? = some b := by
  have := heap_alloc_new (w.alloc a) b
  rw [drew_heap]
  simpa using this
theorem al_fst (w : World) (a b : Obj) : ((w.alloc a).alloc b).drew.heap[w.heap.size]? = some a := by
  rw [drew_heap, Below.heap_alloc _ _ _ (by simp)]; exact heap_alloc_new w a
/-- behind region 5: h in memory too -/
def Told5 (w wx : World) (pg pt ra rb rc rd ph : Nat) : Prop := TW w wx pg pt ra rb rc rd ∧ ∃ v9, wx.heap[ph]? = some (.cells #[v9, .slice none 0 0] 35 (0, 0)) ∧ TksAre wx v9 (T0 ++ [tkA])
theorem told5_of {w w6 w7 X : World} {pg pt ra rb rc rd ph n : Nat} {v9 : Value} (ht : TW w w6 pg pt ra rb rc rd) (hp : w6.heap.size ≤ ph) (hb7 : Below w6.heap.size w6 w7) (h7 : w7.heap[ph]? = some (.cells #[.slice (some ⟨pt, 0, none⟩) 4 4, .slice none 0 0] 35 (0, 0)))
    (hb : Below w7.heap.size w7 X) (ho : X.ownsRow w7.heap.size 61 6 v9 n ((t0cells ra rb rc rd).toList ++ (sixA ra).toList)) (hn : n = 5) : Told5 w (X.setCell ⟨ph, 0, none⟩ v9) pg pt ra rb rc rd ph := by
  subst hn
  have hX := bel_get hb h7
  have hlt := hp_lt h7
  have hbe : Below w6.heap.size w6 (X.setCell ⟨ph, 0, none⟩ v9) := (bel_then hb7 hb).setCell hp v9
  have hT := ht.moved hbe
  refine ⟨hT, v9, by simp [World.setCell, Array.getElem?_modify, hX], ?_⟩
  have ho2 : (X.setCell ⟨ph, 0, none⟩ v9).ownsRow w7.heap.size 61 6 v9 5 ((t0cells ra rb rc rd).toList ++ (sixA ra).toList) := by
    refine owns_ag (S := fun k => w7.heap.size ≤ k) ho ((Ag.refl _ X).setCell (by simpa using hlt) v9) (fun j hj => (ho.lt j hj).1)
  refine ⟨[(tkA, .slice (some ⟨ra, 0, none⟩) 1 1, .slice none 0 0), (⟨⟨#[98]⟩, 0, 2, .mk 2 [(10, 10), (98, 98)] []⟩, .slice (some ⟨rb, 0, none⟩) 2 2, .slice none 0 0), (⟨⟨#[111]⟩, 1, 3, .mk 2 [(99, 99)] []⟩, .slice (some ⟨rc, 0, none⟩) 1 1, .slice none 0 0), (⟨⟨#[99]⟩, 2, 4, .mk 2 [(100, 100)] []⟩, .slice (some ⟨rd, 0, none⟩) 1 1, .slice none 0 0), (tkA, .slice (some ⟨ra, 0, none⟩) 1 1, .slice none 0 0)], rfl, Row.owned ho2, ?_⟩
  intro i p hp
  match i, hp with
  | 0, hp => cases hp; exact re_set [(97, 97)] 1 rfl (by decide) hT.m0.ha
  | 1, hp => cases hp; exact re_set [(10, 10), (98, 98)] 2 rfl (by decide) hT.m0.hb
  | 2, hp => cases hp; exact re_set [(99, 99)] 1 rfl (by decide) hT.m0.hc
  | 3, hp => cases hp; exact re_set [(100, 100)] 1 rfl (by decide) hT.m0.hd
  | 4, hp => cases hp; exact re_set [(97, 97)] 1 rfl (by decide) hT.m0.ha
  | (n + 5), hp => simp at hp
/-- g and h in memory -/
structure TH (w wx : World) (pg pt ra rb rc rd ph : Nat) (o9 : Option Addr) (c9 : Nat) : Prop where
  tw : TW w wx pg pt ra rb rc rd
  hh : wx.heap[ph]? = some (.cells #[.slice o9 5 c9, .slice none 0 0] 35 (0, 0))
  th : TksAre wx (.slice o9 5 c9) (T0 ++ [tkA])
theorem TH.moved {w wi wj : World} {pg pt ra rb rc rd ph c9 : Nat} {o9 : Option Addr} (h : TH w wi pg pt ra rb rc rd ph o9 c9) (hb : Below wi.heap.size wi wj) : TH w wj pg pt ra rb rc rd ph o9 c9 := ⟨h.tw.moved hb, bel_get hb h.hh, h.th.moved hb⟩
theorem TH.cells {w wi : World} {pg pt ra rb rc rd ph c9 : Nat} {o9 : Option Addr} (h : TH w wi pg pt ra rb rc rd ph o9 c9) : wi.cell? ⟨ph, 0, none⟩ = some (.slice o9 5 c9) ∧ wi.cell? ⟨ph, 1, none⟩ = some (.slice none 0 0) := by
  have := h.hh
  exact ⟨by simp [World.cell?, this], by simp [World.cell?, this]⟩
theorem TH_fit : TFit (T0 ++ [tkA]) := by
  intro i t ht
  match i, ht with
  | 0, ht => cases ht; exact ⟨by decide, re_fit (by unfold i32s; decide) (by decide)⟩
  | 1, ht => cases ht; exact ⟨by decide, re_fit (by unfold i32s; decide) (by decide)⟩
  | 2, ht => cases ht; exact ⟨by decide, re_fit (by unfold i32s; decide) (by decide)⟩
  | 3, ht => cases ht; exact ⟨by decide, re_fit (by unfold i32s; decide) (by decide)⟩
  | 4, ht => cases ht; exact ⟨by decide, re_fit (by unfold i32s; decide) (by decide)⟩
  | (n + 5), ht => simp [T0] at ht
theorem may_0 : decide ((chkE T0 []).1 = 0) = true := by kernel_rfl
end Go.Proofs.YtbanmggkfpnalaaGreatDoor
