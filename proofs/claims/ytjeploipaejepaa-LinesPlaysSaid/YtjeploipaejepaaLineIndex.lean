/- package lines' Index. -/
import Derived.Test.YtjeploipaejepaaLineEnds4
import Derived.Deep.RegionHeld3
import Derived.Deep.RegionLaw
set_option linter.unusedVariables false
set_option linter.unusedSimpArgs false
namespace Go.Proofs.Ytjeploipaejepaa
open Go.RowKit

/-- block p is an Index of a text of n bytes whose lines behind the first begin at zs -/
def Idx (w : World) (base p n : Nat) (zs : List Int) : Prop :=
  base ≤ p ∧ ∃ v, w.heap[p]? = some (.cells #[.int .i64 n, v] 60 (0, 0)) ∧ w.ownsRow base 3 1 v zs.length (zs.map (Value.int .i64))

theorem new_any (w : World) : Calls Try.prog 21 #[] w fun e w' => e = .returned (.pointer (some ⟨w.heap.size, 0, none⟩)) ∧ Idx w' w.heap.size w.heap.size 0 [] ∧ Below w.heap.size w w' := by
  go_enter Try.func21, Try.ntmps21
  go_wp2
  go_ret
  refine ⟨rfl, ⟨Nat.le_refl _, .slice none 0 0, ?_, World.ownsRow_nil _ _ _ _⟩, by repeat (first | exact Below.refl _ _ | assumption | (refine Below.drew ?_) | (refine below_drewN ?_ _) | (refine bel_new ?_ _) | (refine bel_then ?_ (by assumption)))⟩
  exact heap_alloc_new w _

theorem cells_of {w : World} {p : Nat} {a b : Value} {t : TypeId} (h : w.heap[p]? = some (.cells #[a, b] t (0, 0))) : w.cell? ⟨p, 0, none⟩ = some a ∧ w.cell? ⟨p, 1, none⟩ = some b ∧ w.frozen? ⟨p, 0, none⟩ = false ∧ w.frozen? ⟨p, 1, none⟩ = false := by
  simp [World.cell?, World.frozen?, h]

theorem idx_keep {w w3 w1 : World} {p i : Nat} {x : Value} (hp : p < w.heap.size) (k : Below w3.heap.size w3 w1) (h : Below w.heap.size w w3) (c : w3.cell? ⟨p, i, none⟩ = some x) : w1.cell? ⟨p, i, none⟩ = some x := by
  rw [k.cell (Nat.lt_of_lt_of_le hp h.size)]; exact c
theorem idx_lt {w : World} {p : Nat} {o : Obj} (h : w.heap[p]? = some o) : p < w.heap.size := by
  rcases Nat.lt_or_ge p w.heap.size with h1 | h1
  · exact h1
  · rw [Array.getElem?_eq_none h1] at h; cases h

/-- the block of an Index is not the block of its breaks -/
theorem idx_far {w : World} {base p m : Nat} {a y z : Value} {xs : List Value} (hh : w.heap[p]? = some (.cells #[a, y] 60 (0, 0))) (hown : w.ownsRow base 3 1 z m xs) : some p ≠ z.ownBlock := by
  obtain ⟨h1, ⟨rfl, rfl⟩ | ⟨g, cap, cur, rfl, hg, hb, h2⟩⟩ := hown
  · simp [Value.ownBlock]
  · simp only [Value.ownBlock, ne_eq, Option.some.injEq]
    rintro rfl
    rw [hh] at hb
    simp at hb

theorem owns_blocks {w w' : World} {base size n p : Nat} {e : TypeId} {v : Value} {xs : List Value} (h : w.ownsRow base e size v n xs) (hne : some p ≠ v.ownBlock) (hk : ∀ k, k ≠ p → w'.heap[k]? = w.heap[k]?) : w'.ownsRow base e size v n xs := by
  obtain ⟨h1, ⟨rfl, rfl⟩ | ⟨g, cap, cur, rfl, hg, hh, hr⟩⟩ := h
  · exact ⟨h1, .inl ⟨rfl, rfl⟩⟩
  · refine ⟨h1, .inr ⟨g, cap, cur, rfl, hg, ?_, hr⟩⟩
    rw [hk g (by intro e; subst e; simp [Value.ownBlock] at hne)]
    exact hh

theorem set1 {w : World} {p : Nat} {a b : Value} {t : TypeId} (h : w.heap[p]? = some (.cells #[a, b] t (0, 0))) (x : Value) : (w.setCell ⟨p, 1, none⟩ x).heap[p]? = some (.cells #[a, x] t (0, 0)) := by
  simp [World.setCell, Array.getElem?_modify, h]
theorem set0 {w : World} {p : Nat} {a b : Value} {t : TypeId} (h : w.heap[p]? = some (.cells #[a, b] t (0, 0))) (x : Value) : (w.setCell ⟨p, 0, none⟩ x).heap[p]? = some (.cells #[x, b] t (0, 0)) := by
  simp [World.setCell, Array.getElem?_modify, h]
theorem set_at {w w' : World} (a : Addr) (x : Value) (e : w' = w.setCell a x) : ∀ k, k ≠ a.block → w'.heap[k]? = w.heap[k]? := by
  subst e; exact fun k hk => Below.heap_setCell w a x k hk

theorem Row.slice {w : World} {v : Value} {n : Nat} {cs : List Value} (h : Row w v n cs) : ∃ o c, v = .slice o n c := by
  obtain ⟨o, cap, rfl, _⟩ := h
  exact ⟨_, _, rfl⟩
theorem owns_slice {w : World} {base size n : Nat} {e : TypeId} {v : Value} {xs : List Value} (h : w.ownsRow base e size v n xs) : ∃ o c, v = .slice o n c := by
  obtain ⟨h1, ⟨rfl, rfl⟩ | ⟨g, cap, cur, rfl, h2⟩⟩ := h
  · exact ⟨_, _, rfl⟩
  · exact ⟨_, _, rfl⟩

theorem idx_grown {w w' : World} {p i : Nat} {x : Value} {row : Option Nat} (hp : p < w.heap.size) (hne : some p ≠ row) (hg : w.grownBy w' row) (c : w.cell? ⟨p, i, none⟩ = some x) : w'.cell? ⟨p, i, none⟩ = some x := hg.cell c hne

set_option maxHeartbeats 1000000 in
set_option maxRecDepth 1000000 in
theorem feed_any (base p n : Nat) (zs bs : List Int) (v : Value) (w : World) (hI : Idx w base p n zs) (hn : n ≤ 1000000) (hz : zs.length ≤ 1000000) (hb : bs.length ≤ 100000)
    (hr : Row w v bs.length (bs.map (Value.int .u8))) (hu : ∀ x ∈ bs, 0 ≤ x ∧ x < 256) :
    Calls Try.prog 22 #[.pointer (some ⟨p, 0, none⟩), v] w fun e w' => e = .returned (.tuple #[]) ∧ Idx w' base p (n + bs.length) (zs ++ brk bs n bs.length) ∧ Below base w w' := by
  obtain ⟨i0, hi, hz0, hz1, hz2⟩ := infoInt
  obtain ⟨hbp, z, hh, hown⟩ := hI
  obtain ⟨c0, c1, f0, f1⟩ := cells_of hh
  have hplt := idx_lt hh
  have hfar := idx_far hh hown
  have hbrk := brk_le bs n bs.length
  obtain ⟨ov, cv, rfl⟩ := hr.slice
  go_enter Try.func22, Try.ntmps22
  go_wp2_with fail
  go_region_law
    (first
     | (go_simp; go_at_call 43; refine (breaks_any n bs _ _ ⟨by omega, by omega⟩ hb (hr.below (by repeat (first | exact Below.refl _ _ | assumption | (refine Below.drew ?_) | (refine below_drewN ?_ _) | (refine bel_new ?_ _) | (refine bel_then ?_ (by assumption))))) hu).mono ?_; rintro e w1 ⟨u, rfl, hownu, hb1⟩; have q0 := idx_keep (i := 0) (x := .int .i64 n) hplt hb1 (by first | assumption | exact (Below.refl _ _).drew) (by assumption); have q1 := idx_keep (i := 1) (x := z) hplt hb1 (by first | assumption | exact (Below.refl _ _).drew) (by assumption); have q2 : Below w.heap.size w w1 := bel_then (by first | assumption | exact (Below.refl _ _).drew) hb1; have q3 : p < w1.heap.size := Nat.lt_of_lt_of_le hplt q2.size)
     | (refine step_append_row _ rfl _ _ 23 rfl base 3 i0 (.int .i64 0) 1 8 Try.underlying23 hi hz0 hz1 hz2 rfl (by decide) _ _ _ rfl (owns_below hown (by assumption)) _ _ _ rfl (Row.owned hownu) (by simp) (ints_one _ _) (by unfold maxLen; omega) (by omega) (by have := (by assumption : Below w.heap.size w _).size; omega) ?_; intro v' w2 hown2 hg2; obtain ⟨o2, c2, rfl⟩ := owns_slice hown2; have g2 : w2.heap[p]? = some (.cells #[.int .i64 n, z] 60 (0, 0)) := (hg2.block p q3 hfar).trans ((q2.block p hplt).trans hh); obtain ⟨d0, d1, e0, e1⟩ := cells_of g2))
  all_goals (
    clear q0 q1 d0 d1 e0 e1 c0 c1
    obtain ⟨w3, hw3⟩ : ∃ x, x = w2.setCell ⟨p, 1, none⟩ (.slice o2 (zs.length + (brk bs n bs.length).length) c2) := ⟨_, rfl⟩
    rw [← hw3]
    have g3 : w3.heap[p]? = some (.cells #[.int .i64 n, .slice o2 (zs.length + (brk bs n bs.length).length) c2] 60 (0, 0)) := by rw [hw3]; exact set1 g2 _
    have o3 := set_at _ _ hw3
    obtain ⟨d0, d1, e0, e1⟩ := cells_of g3
    have far2 := idx_far g2 hown2
    have hown3 := owns_blocks hown2 far2 o3
    have hb3 : Below base w w3 := by rw [hw3]; exact ((q2.mono (by omega)).grown hg2 (by have := q2.size; omega) (fun j hj => (hown.lt j hj).1)).setCell hbp _
    have G := Lib.hid (And.intro g3 (And.intro hown3 hb3))
    clear hw3 g3 o3 far2 hown3 hb3 hown2 hg2 hownu hown hh
    go_wp2
    refine bodyPost_end (results_none rfl _ _ _) rfl ?_
    obtain ⟨g3, hown3, hb3⟩ := G.out
    refine ⟨rfl, ⟨hbp, .slice o2 (zs.length + (brk bs n bs.length).length) c2, ?_, ?_⟩, hb3.setCell hbp _⟩
    · rw [set0 g3]; simp
    · rw [List.length_append, List.map_append]; exact owns_blocks hown3 (idx_far g3 hown3) (fun k hk => Below.heap_setCell w3 _ _ k hk))

set_option maxHeartbeats 1000000 in
set_option maxRecDepth 1000000 in
theorem idxStarts_any (base p n : Nat) (zs : List Int) (w : World) (hI : Idx w base p n zs) (hz : zs.length ≤ 1000000) :
    Calls Try.prog 24 #[.pointer (some ⟨p, 0, none⟩)] w fun e w' => ∃ u, e = .returned u ∧ w'.ownsRow w.heap.size 3 1 u (0 :: zs).length ((0 :: zs).map (Value.int .i64)) ∧ Below w.heap.size w w' := by
  obtain ⟨i0, hi, hz0, hz1, hz2⟩ := infoInt
  obtain ⟨hbp, z, hh, hown⟩ := hI
  obtain ⟨c0, c1, f0, f1⟩ := cells_of hh
  have hplt := idx_lt hh
  go_enter Try.func24, Try.ntmps24
  have hown0 := World.ownsRow_lit (e := 3) (base := w.heap.size) (size := 1) w #[.int .i64 0] 1 (Nat.le_refl _) (by decide) rfl
  have hownz := hown.alloc (.cells #[.int .i64 0] 3)
  clear hh hown
  go_wp2_with (first
    | (at_builtin; refine wpList_append_row _ rfl _ _ 23 rfl w.heap.size 3 i0 (.int .i64 0) 1 8 Try.underlying23 hi hz0 hz1 hz2 rfl (by decide) _ _ _ rfl hown0 _ _ _ rfl (Row.owned hownz) (by simp) (ints_one _ _) (by unfold maxLen; omega) (by omega) (by simp) ?_; intro v' w2 hown2 hg2)
    | go_in)
  go_ret
  refine ⟨_, rfl, ?_, ?_⟩
  · simpa [Nat.add_comm] using hown2
  · exact bel_grown (by repeat (first | exact Below.refl _ _ | assumption | (refine Below.drew ?_) | (refine below_drewN ?_ _) | (refine bel_new ?_ _) | (refine bel_then ?_ (by assumption)))) hg2 (fun j hj => (hown0.lt j hj).1)

theorem idxStarts_nil (w : World) : Calls Try.prog 24 #[.pointer none] w fun e w' => e = .returned (.slice none 0 0) ∧ w' = w := by
  go_enter Try.func24, Try.ntmps24
  go_wp2
  go_ret
  exact ⟨rfl, rfl⟩
theorem splice_nil (a b c : Value) (d : Value) (w : World) : Calls Try.prog 23 #[.pointer none, a, b, c, d] w fun e w' => e = .returned (.int .i64 10) ∧ w' = w := by
  go_enter Try.func23, Try.ntmps23
  go_wp2
  go_ret
  exact ⟨rfl, rfl⟩
theorem splice_out (base p n : Nat) (zs : List Int) (a d : Int) (c e : Value) (w : World) (hI : Idx w base p n zs) (hn : n ≤ 1000000) (hout : a < 0 ∨ d < 0 ∨ n < a ∨ n - a < d) :
    Calls Try.prog 23 #[.pointer (some ⟨p, 0, none⟩), .int .i64 a, .int .i64 d, c, e] w fun e w' => e = .returned (.int .i64 9) ∧ w' = w := by
  obtain ⟨hbp, z, hh, hown⟩ := hI
  obtain ⟨c0, c1, f0, f1⟩ := cells_of hh
  clear hh hown
  go_enter Try.func23, Try.ntmps23
  by_cases h1 : a < 0
  · go_wp2
    go_ret
    exact ⟨rfl, rfl⟩
  by_cases h2 : d < 0
  · go_wp2
    go_ret
    exact ⟨rfl, rfl⟩
  by_cases h3 : n < a
  · go_wp2
    go_ret
    exact ⟨rfl, rfl⟩
  have h4 : n - a < d := by omega
  go_wp2
  go_ret
  exact ⟨rfl, rfl⟩
end Go.Proofs.Ytjeploipaejepaa
