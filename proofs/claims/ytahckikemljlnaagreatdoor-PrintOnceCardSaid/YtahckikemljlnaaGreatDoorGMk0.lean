/- gobolaw6.One; gobolaw11.Make(nil). -/
import Derived.Test.YtahckikemljlnaaGreatDoorGSame
import Derived.Deep.RegionHeld
import Derived.Deep.DeepCutAuto
import Derived.Deep.RegionHeld3
set_option linter.unusedVariables false
set_option linter.unusedSimpArgs false
namespace Go.Proofs.YtahckikemljlnaaGreatDoor
open Go.RowKit Ru

set_option maxHeartbeats 8000000 in
set_option maxRecDepth 100000 in
theorem one_exact (r : Int) (w : World) :
    Calls Tryz.prog 19 #[.int .i32 r] w fun e w' => e = .returned (.agg #[.int .i64 2, .slice (some ⟨w.heap.size + 1, 0, none⟩) 1 1, .slice none 0 0]) ∧ w' = (w.alloc (.cells #[.int .i64 2, .slice (some ⟨w.heap.size + 1, 0, none⟩) 1 1, .slice none 0 0] 35)).alloc (.cells #[.int .i32 r, .int .i32 r] 86) := by
  go_enter Tryz.func19, Tryz.ntmps19
  go_wp2_with fail
  simp [bodyPost, results, Tryz.results19, go_sem]
  trace_state
theorem allocs_old : ∀ (l : List Obj) (w : World) (k : Nat), k < w.heap.size → (l.foldl World.alloc w).heap[k]? = w.heap[k]? := by
  intro l
  induction l with
  | nil => intro w k h; rfl
  | cons o l ih =>
    intro w k h
    rw [List.foldl_cons, ih _ _ (by simp; omega)]
    exact Below.heap_alloc _ _ _ h
theorem allocs_heap : ∀ (l : List Obj) (w : World) (i : Nat), i < l.length → (l.foldl World.alloc w).heap[w.heap.size + i]? = l[i]? := by
  intro l
  induction l with
  | nil => intro w i h; simp at h
  | cons o l ih =>
    intro w i h
    rw [List.foldl_cons]
    cases i with
    | zero => rw [allocs_old _ _ _ (by simp), Nat.add_zero]; exact heap_alloc_new _ _
    | succ i =>
      have := ih (w.alloc o) i (by simpa using h)
      rw [show w.heap.size + (i + 1) = (w.alloc o).heap.size + i by simp; omega, this]
      simp
theorem chain5 (W : World) (a b c d e : Obj) : ((((((W.alloc a).alloc b).alloc c).alloc d).alloc e).drew).heap[W.heap.size]? = some a ∧ ((((((W.alloc a).alloc b).alloc c).alloc d).alloc e).drew).heap[W.heap.size + 1]? = some b ∧ ((((((W.alloc a).alloc b).alloc c).alloc d).alloc e).drew).heap[W.heap.size + 1 + 1]? = some c ∧
    ((((((W.alloc a).alloc b).alloc c).alloc d).alloc e).drew).heap[W.heap.size + 1 + 1 + 1]? = some d ∧ ((((((W.alloc a).alloc b).alloc c).alloc d).alloc e).drew).heap[W.heap.size + 1 + 1 + 1 + 1]? = some e ∧ Below W.heap.size W ((((((W.alloc a).alloc b).alloc c).alloc d).alloc e).drew) := by
  refine ⟨?_, ?_, ?_, ?_, ?_, (bel_new (bel_new (bel_new (bel_new (bel_new (Below.refl _ _) _) _) _) _) _).drew⟩
  · rw [drew_heap, Below.heap_alloc _ _ _ (by simp <;> omega), Below.heap_alloc _ _ _ (by simp <;> omega), Below.heap_alloc _ _ _ (by simp <;> omega), Below.heap_alloc _ _ _ (by simp <;> omega)]; exact heap_alloc_new _ _
  · rw [drew_heap, Below.heap_alloc _ _ _ (by simp <;> omega), Below.heap_alloc _ _ _ (by simp <;> omega), Below.heap_alloc _ _ _ (by simp)]; have := heap_alloc_new (W.alloc a) b; simpa using this
  · rw [drew_heap, Below.heap_alloc _ _ _ (by simp <;> omega), Below.heap_alloc _ _ _ (by simp)]; have := heap_alloc_new ((W.alloc a).alloc b) c; simpa using this
  · rw [drew_heap, Below.heap_alloc _ _ _ (by simp)]; have := heap_alloc_new (((W.alloc a).alloc b).alloc c) d; simpa using this
  · rw [drew_heap]; have := heap_alloc_new ((((W.alloc a).alloc b).alloc c).alloc d) e; simpa using this
/-- the cells of Make's four tokens -/
abbrev t0cells (ra rb rc rd : Nat) : Array Value := #[.string ⟨#[97]⟩, .int .i64 0, .int .i64 1, .int .i64 2, .slice (some ⟨ra, 0, none⟩) 1 1, .slice none 0 0, .string ⟨#[98]⟩, .int .i64 0, .int .i64 2, .int .i64 2, .slice (some ⟨rb, 0, none⟩) 2 2, .slice none 0 0,
    .string ⟨#[111]⟩, .int .i64 1, .int .i64 3, .int .i64 2, .slice (some ⟨rc, 0, none⟩) 1 1, .slice none 0 0, .string ⟨#[99]⟩, .int .i64 2, .int .i64 4, .int .i64 2, .slice (some ⟨rd, 0, none⟩) 1 1, .slice none 0 0]
/-- the grammar of the four tokens, in memory above a base -/
structure Mk0 (w w' : World) (pt ra rb rc rd : Nat) : Prop where
  bel : Below w.heap.size w w'
  ge : w.heap.size ≤ pt
  ht : w'.heap[pt]? = some (.cells (t0cells ra rb rc rd) 61 (0, 0))
  ha : w'.heap[ra]? = some (.cells #[.int .i32 97, .int .i32 97] 86 (0, 0))
  hb : w'.heap[rb]? = some (.cells #[.int .i32 10, .int .i32 10, .int .i32 98, .int .i32 98] 86 (0, 0))
  hc : w'.heap[rc]? = some (.cells #[.int .i32 99, .int .i32 99] 86 (0, 0))
  hd : w'.heap[rd]? = some (.cells #[.int .i32 100, .int .i32 100] 86 (0, 0))
/-- behind region 2 of Make: the grammar of the four tokens -/
def Mk0At (w W wx : World) (s5 : Value) : Prop := ∃ p5 pt pa pb : Nat, s5 = .pointer (some ⟨p5, 0, none⟩) ∧ W.heap.size ≤ p5 ∧ W.heap.size ≤ pt ∧ p5 ≠ pt ∧ Below W.heap.size W wx ∧
  wx.heap[p5]? = some (.cells #[.slice (some ⟨pt, 0, none⟩) 4 4, .slice none 0 0] 26 (0, 0)) ∧
  wx.heap[pt]? = some (.cells #[.string ⟨#[97]⟩, .int .i64 0, .int .i64 1, .int .i64 2, .slice (some ⟨pa, 0, none⟩) 1 1, .slice none 0 0, .string ⟨#[98]⟩, .int .i64 0, .int .i64 2, .int .i64 2, .slice (some ⟨pb, 0, none⟩) 2 2, .slice none 0 0,
    .string ⟨#[111]⟩, .int .i64 1, .int .i64 3, .int .i64 2, .slice (some ⟨w.heap.size + 1 + 1, 0, none⟩) 1 1, .slice none 0 0, .string ⟨#[99]⟩, .int .i64 2, .int .i64 4, .int .i64 2, .slice (some ⟨w.heap.size + 1 + 1 + 1 + 1, 0, none⟩) 1 1, .slice none 0 0] 61 (0, 0)) ∧
  wx.heap[pa]? = some (.cells #[.int .i32 97, .int .i32 97] 86 (0, 0)) ∧ wx.heap[pb]? = some (.cells #[.int .i32 10, .int .i32 10, .int .i32 98, .int .i32 98] 86 (0, 0))
theorem mk0_of {w W : World} {a b c d e : Obj} {s5 : Value} (h : ∀ wx : World, (wx.heap[W.heap.size]? = some a ∧ wx.heap[W.heap.size + 1]? = some b ∧ wx.heap[W.heap.size + 1 + 1]? = some c ∧ wx.heap[W.heap.size + 1 + 1 + 1]? = some d ∧ wx.heap[W.heap.size + 1 + 1 + 1 + 1]? = some e ∧ Below W.heap.size W wx) → Mk0At w W wx s5) :
    Mk0At w W ((((((W.alloc a).alloc b).alloc c).alloc d).alloc e).drew) s5 := h _ (chain5 W a b c d e)
set_option maxHeartbeats 8000000 in
set_option maxRecDepth 100000 in
theorem mk0_any (w : World) :
    Calls Tryz.prog 20 #[.slice none 0 0] w fun e w' => ∃ pt ra rb rc rd : Nat, e = .returned (.agg #[.slice (some ⟨pt, 0, none⟩) 4 4, .slice none 0 0]) ∧ Mk0 w w' pt ra rb rc rd := by
  go_enter Tryz.func20, Tryz.ntmps20
  go_upto_region 2 with (go_at_call 19; refine (one_exact _ _).mono ?_; rintro e w2 ⟨rfl, rfl⟩)
  obtain ⟨W, hW⟩ : ∃ W, W = (((((((w.alloc (.cells #[.slice none 0 0, .slice none 0 0] 26)).alloc (.cells #[.int .i64 2, .slice (some ⟨w.heap.size + 1 + 1, 0, none⟩) 1 1, .slice none 0 0] 35)).alloc (.cells #[.int .i32 99, .int .i32 99] 86)).alloc (.cells #[.int .i64 2, .slice (some ⟨w.heap.size + 1 + 1 + 1 + 1, 0, none⟩) 1 1, .slice none 0 0] 35)).alloc (.cells #[.int .i32 100, .int .i32 100] 86)).alloc (.cells #[.int .i64 2, .slice (some ⟨w.heap.size + 1 + 1, 0, none⟩) 1 1, .slice none 0 0] 35)).alloc (.cells #[.int .i64 2, .slice (some ⟨w.heap.size + 1 + 1 + 1 + 1, 0, none⟩) 1 1, .slice none 0 0] 35)) := ⟨_, rfl⟩
  rw [← hW]
  have c0 : W.cell? ⟨w.heap.size + 1 + 1 + 1 + 1 + 1, 0, none⟩ = some (.int .i64 2) ∧ W.cell? ⟨w.heap.size + 1 + 1 + 1 + 1 + 1, 1, none⟩ = some (.slice (some ⟨w.heap.size + 1 + 1, 0, none⟩) 1 1) ∧ W.cell? ⟨w.heap.size + 1 + 1 + 1 + 1 + 1, 2, none⟩ = some (.slice none 0 0) := by rw [hW]; simp [go_sem]
  have c1 : W.cell? ⟨w.heap.size + 1 + 1 + 1 + 1 + 1 + 1, 0, none⟩ = some (.int .i64 2) ∧ W.cell? ⟨w.heap.size + 1 + 1 + 1 + 1 + 1 + 1, 1, none⟩ = some (.slice (some ⟨w.heap.size + 1 + 1 + 1 + 1, 0, none⟩) 1 1) ∧ W.cell? ⟨w.heap.size + 1 + 1 + 1 + 1 + 1 + 1, 2, none⟩ = some (.slice none 0 0) := by rw [hW]; simp [go_sem]
  have hWs : W.heap.size = w.heap.size + 7 := by rw [hW]; simp
  have hWb : Below w.heap.size w W := by rw [hW]; exact bel_new (bel_new (bel_new (bel_new (bel_new (bel_new (bel_new (Below.refl _ _) _) _) _) _) _) _) _
  have hW0 : W.heap[w.heap.size]? = some (.cells #[.slice none 0 0, .slice none 0 0] 26 (0, 0)) ∧ W.heap[w.heap.size + 1 + 1]? = some (.cells #[.int .i32 99, .int .i32 99] 86 (0, 0)) ∧ W.heap[w.heap.size + 1 + 1 + 1 + 1]? = some (.cells #[.int .i32 100, .int .i32 100] 86 (0, 0)) := by
    have h := allocs_heap [.cells #[.slice none 0 0, .slice none 0 0] 26, .cells #[.int .i64 2, .slice (some ⟨w.heap.size + 1 + 1, 0, none⟩) 1 1, .slice none 0 0] 35, .cells #[.int .i32 99, .int .i32 99] 86, .cells #[.int .i64 2, .slice (some ⟨w.heap.size + 1 + 1 + 1 + 1, 0, none⟩) 1 1, .slice none 0 0] 35, .cells #[.int .i32 100, .int .i32 100] 86, .cells #[.int .i64 2, .slice (some ⟨w.heap.size + 1 + 1, 0, none⟩) 1 1, .slice none 0 0] 35, .cells #[.int .i64 2, .slice (some ⟨w.heap.size + 1 + 1 + 1 + 1, 0, none⟩) 1 1, .slice none 0 0] 35] w
    rw [hW]
    exact ⟨h 0 (by simp), h 2 (by simp), h 4 (by simp)⟩
  have HW := Lib.hid (And.intro hWb hW0)
  clear hWb hW0
  clear hW
  obtain ⟨pc, hpc⟩ : ∃ p, p = w.heap.size + 1 + 1 + 1 + 1 + 1 := ⟨_, rfl⟩
  obtain ⟨pd, hpd⟩ : ∃ p, p = w.heap.size + 1 + 1 + 1 + 1 + 1 + 1 := ⟨_, rfl⟩
  rw [← hpd] at c1 ⊢
  rw [← hpc] at c0 ⊢
  obtain ⟨c00, c01, c02⟩ := c0
  obtain ⟨c10, c11, c12⟩ := c1
  have hpcl : pc < W.heap.size := by omega
  have hpdl : pd < W.heap.size := by omega
  have hpcn : ¬ pc = W.heap.size := by omega
  have hpdn : ¬ pd = W.heap.size := by omega
  have hpcn1 : ¬ pc = W.heap.size + 1 := by omega
  have hpdn1 : ¬ pd = W.heap.size + 1 := by omega
  have HP := Lib.hid (And.intro hpc (And.intro hpd hWs))
  clear hpc hpd hWs
  go_cut [5] (fun s5 wx => Mk0At w W wx s5)
  case first =>
    go_region_held3 (fun w' => w'.cell? ⟨pc, 0, none⟩ = some (.int .i64 2) ∧ w'.cell? ⟨pc, 1, none⟩ = some (.slice (some ⟨w.heap.size + 1 + 1, 0, none⟩) 1 1) ∧ w'.cell? ⟨pc, 2, none⟩ = some (.slice none 0 0) ∧ w'.cell? ⟨pd, 0, none⟩ = some (.int .i64 2) ∧ w'.cell? ⟨pd, 1, none⟩ = some (.slice (some ⟨w.heap.size + 1 + 1 + 1 + 1, 0, none⟩) 1 1) ∧ w'.cell? ⟨pd, 2, none⟩ = some (.slice none 0 0)) (first | trivial | (refine ⟨?_, ?_, ?_, ?_, ?_, ?_⟩ <;> refine (Below.cell (w := W) ?_ (by assumption)).trans (by assumption) <;> repeat (first | exact Below.refl _ _ | refine Below.drew ?_ | refine bel_new ?_ _ | (refine Below.setCell ?_ (by first | omega | (simp <;> omega)) _))))
      (first | (go_at_call 19; refine (one_exact _ _).mono ?_; rintro e w2 ⟨rfl, rfl⟩))
    all_goals (go_wp2_with (fail))
    all_goals go_meet
    all_goals (
      refine mk0_of fun wx hch => ?_
      unfold Mk0At
      apply Exists.intro
      apply Exists.intro
      apply Exists.intro
      apply Exists.intro
      refine ⟨rfl, ?_, ?_, ?_, hch.2.2.2.2.2, ?_, ?_, ?_, ?_⟩
      rotate_left 3
      · first | exact hch.2.2.2.2.1 | exact hch.2.2.2.1 | exact hch.2.2.1 | exact hch.2.1 | exact hch.1
      · first | exact hch.2.2.2.2.1 | exact hch.2.2.2.1 | exact hch.2.2.1 | exact hch.2.1 | exact hch.1
      · first | exact hch.2.2.2.2.1 | exact hch.2.2.2.1 | exact hch.2.2.1 | exact hch.2.1 | exact hch.1
      · first | exact hch.2.2.2.2.1 | exact hch.2.2.2.1 | exact hch.2.2.1 | exact hch.2.1 | exact hch.1
      all_goals omega)
  case rest =>
    obtain ⟨p5, pt, pa, pb, rfl, h5, ht, h5t, hbel, g5, gt, ga, gb⟩ := hcut
    have HG := Lib.hid (And.intro h5 (And.intro ht (And.intro h5t (And.intro hbel (And.intro g5 (And.intro gt (And.intro ga gb)))))))
    clear h5 ht h5t hbel g5 gt ga gb
    go_wp2_with fail
    obtain ⟨W4, hW4⟩ : ∃ W4, W4 = (wc.alloc (.cells #[.string ⟨#[111]⟩] 9)).alloc (.cells #[.string ⟨#[99]⟩] 9) := ⟨_, rfl⟩
    rw [← hW4]
    have hb4 : Below wc.heap.size wc W4 := by rw [hW4]; exact bel_new (bel_new (Below.refl _ _) _) _
    have HB4 := Lib.hid hb4
    clear hW4 hb4
    go_loopg [8] 0 (fun g s wx => g = 0 ∧ s = .int .i64 0 ∧ wx = W4)
    case atStart => exact ⟨rfl, rfl, rfl⟩
    case round =>
      obtain ⟨hg0, rfl, rfl⟩ := hrel
      obtain ⟨h5, ht, h5t, hbel, g5, gt, ga, gb⟩ := HG.out
      have hbb := bel_then hbel HB4.out
      have hp5 : p5 ≠ w.heap.size := by have := HP.out.2.2; omega
      have hr0 := bel_get hbb HW.out.2.1
      have hr5 := bel_get HB4.out g5
      have e5 : ∀ w' : World, w'.heap[p5]? = some (.cells #[.slice (some ⟨pt, 0, none⟩) 4 4, .slice none 0 0] 26 (0, 0)) → w'.cell? ⟨p5, 0, none⟩ = some (.slice (some ⟨pt, 0, none⟩) 4 4) ∧ w'.cell? ⟨p5, 1, none⟩ = some (.slice none 0 0) := fun w' h => by simp [World.cell?, h]
      obtain ⟨k0, k1⟩ := e5 _ hr5
      have z0 : wr.cell? ⟨w.heap.size, 0, none⟩ = some (.slice none 0 0) ∧ wr.cell? ⟨w.heap.size, 1, none⟩ = some (.slice none 0 0) ∧ wr.frozen? ⟨w.heap.size, 0, none⟩ = false ∧ wr.frozen? ⟨w.heap.size, 1, none⟩ = false := by simp [World.cell?, World.frozen?, hr0]
      obtain ⟨z0, z1, z2, z3⟩ := z0
      clear h5 ht h5t hbel g5 gt ga gb hbb hr0 hr5 e5
      go_wp2
      simp [bodyPost, results, Tryz.results20, go_sem, z0, z1, z2, z3]
      obtain ⟨h5, ht, h5t, hbel, g5, gt, ga, gb⟩ := HG.out
      have hws := HP.out.2.2
      have hoth : ∀ k, k ≠ w.heap.size → ((wr.setCell ⟨w.heap.size, 0, none⟩ (.slice (some ⟨pt, 0, none⟩) 4 4)).setCell ⟨w.heap.size, 1, none⟩ (.slice none 0 0)).heap[k]? = wr.heap[k]? := fun k hk => by
        rw [Below.heap_setCell _ _ _ _ (by simpa using hk), Below.heap_setCell _ _ _ _ (by simpa using hk)]
      have hlt : ∀ {k : Nat} {o : Obj}, W.heap[k]? = some o → k < w.heap.size + 7 := fun h => by have := hp_lt h; omega
      have hwb : ∀ {k : Nat} {o : Obj}, W.heap[k]? = some o → wr.heap[k]? = some o := fun h => bel_get (bel_then hbel HB4.out) h
      have hpa : pa ≠ w.heap.size := fun e => by
        have h1 := bel_get hbel HW.out.2.1
        rw [e, h1] at ga; simp at ga
      have hpb : pb ≠ w.heap.size := fun e => by
        have h1 := bel_get hbel HW.out.2.1
        rw [e, h1] at gb; simp at gb
      refine ⟨pa, pb, w.heap.size + 1 + 1, w.heap.size + 1 + 1 + 1 + 1, ((bel_then (bel_then HW.out.1 hbel) HB4.out).setCell (by simp) _).setCell (by simp) _, by omega, ?_, ?_, ?_, ?_, ?_⟩
      · rw [hoth _ (by omega)]; exact bel_get HB4.out gt
      · rw [hoth _ hpa]; exact bel_get HB4.out ga
      · rw [hoth _ hpb]; exact bel_get HB4.out gb
      · rw [hoth _ (by omega)]; exact hwb HW.out.2.2.1
      · rw [hoth _ (by omega)]; exact hwb HW.out.2.2.2
end Go.Proofs.YtahckikemljlnaaGreatDoor
