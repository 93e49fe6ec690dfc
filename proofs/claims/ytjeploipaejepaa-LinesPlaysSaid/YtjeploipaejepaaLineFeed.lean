/- Feed, with what it leaves alone. -/
import Derived.Test.YtjeploipaejepaaLineBytes
import Derived.Deep.RegionLaw
set_option linter.unusedVariables false
set_option linter.unusedSimpArgs false
namespace Go.Proofs.Ytjeploipaejepaa
open Go.RowKit

set_option maxHeartbeats 1000000 in
set_option maxRecDepth 1000000 in
theorem feedF_any (base p n : Nat) (zs bs : List Int) (v : Value) (w : World) (hI : Idx w base p n zs) (hn : n ≤ 1000000) (hz : zs.length ≤ 1000000) (hb : bs.length ≤ 100000)
    (hr : Row w v bs.length (bs.map (Value.int .u8))) (hu : ∀ x ∈ bs, 0 ≤ x ∧ x < 256) :
    Calls Try.prog 22 #[.pointer (some ⟨p, 0, none⟩), v] w fun e w' => e = .returned (.tuple #[]) ∧ Idx w' base p (n + bs.length) (zs ++ brk bs n bs.length) ∧ Below base w w' ∧
      (∀ k cs t fr, w.heap[k]? = some (.cells cs t fr) → t ≠ 3 → k ≠ p → w'.heap[k]? = some (.cells cs t fr)) := by
  obtain ⟨i0, hi, hz0, hz1, hz2⟩ := infoInt
  obtain ⟨hbp, z, hh, hown⟩ := hI
  obtain ⟨c0, c1, f0, f1⟩ := cells_of hh
  have hplt := idx_lt hh
  have hfar := idx_far hh hown
  have hoth : ∀ k cs t fr, w.heap[k]? = some (.cells cs t fr) → t ≠ 3 → some k ≠ z.ownBlock := by
    intro k cs t fr hk ht
    obtain ⟨_, ⟨rfl, _⟩ | ⟨g, cap, cur, rfl, _, hb, _⟩⟩ := hown
    · simp [Value.ownBlock]
    · simp only [Value.ownBlock, ne_eq, Option.some.injEq]
      rintro rfl
      rw [hk] at hb
      simp at hb
      exact ht hb.2.1
  have HO := Lib.hid hoth
  clear hoth
  have hbrk := brk_le bs n bs.length
  obtain ⟨ov, cv, rfl⟩ := hr.slice
  go_enter Try.func22, Try.ntmps22
  go_wp2_with fail
  go_region_law
    (first
     | (go_simp; go_at_call 43; refine (breaks_any n bs _ _ ⟨by omega, by omega⟩ hb (hr.below (by repeat (first | exact Below.refl _ _ | assumption | (refine Below.drew ?_) | (refine below_drewN ?_ _) | (refine bel_new ?_ _) | (refine bel_then ?_ (by assumption))))) hu).mono ?_; rintro e w1 ⟨u, rfl, hownu, hb1⟩; have q0 := idx_keep (i := 0) (x := .int .i64 n) hplt hb1 (by first | assumption | exact (Below.refl _ _).drew) (by assumption); have q1 := idx_keep (i := 1) (x := z) hplt hb1 (by first | assumption | exact (Below.refl _ _).drew) (by assumption); have q2 : Below w.heap.size w w1 := bel_then (by first | assumption | exact (Below.refl _ _).drew) hb1; have q3 : p < w1.heap.size := Nat.lt_of_lt_of_le hplt q2.size)
     | (refine step_append_row _ rfl _ _ 23 rfl base 3 i0 (.int .i64 0) 1 8 Try.underlying23 hi hz0 hz1 hz2 rfl (by decide) _ _ _ rfl (owns_below hown (by assumption)) _ _ _ rfl (Row.owned hownu) (by simp) (ints_one _ _) (by unfold maxLen; omega) (by omega) (by have := (by assumption : Below w.heap.size w _).size; omega) ?_; intro v' w2 hown2 hg2; obtain ⟨o2, c2, rfl⟩ := owns_slice hown2; have g2 : w2.heap[p]? = some (.cells #[.int .i64 n, z] 60 (0, 0)) := (hg2.block p q3 hfar).trans ((q2.block p hplt).trans hh); obtain ⟨d0, d1, e0, e1⟩ := cells_of g2))
  all_goals (
    clear q0 q1 d0 d1 e0 e1 c0 c1
    obtain ⟨w3, hw3⟩ : ∃ x, x = w2.setCell ⟨p, 1, none⟩ (.slice o2 (zs.length + (brk bs n bs.length).length) c2) := ⟨_, rfl⟩
    rw [← hw3]
    have g3 : w3.heap[p]? = some (.cells #[.int .i64 n, .slice o2 (zs.length + (brk bs n bs.length).length) c2] 60 (0, 0)) := by rw [hw3]; exact set1 g2 _
    have o3 := set_at _ _ hw3
    obtain ⟨d0, d1, e0, e1⟩ := cells_of g3
    have far2 := idx_far g2 hown2
    have hown3 := owns_blocks hown2 far2 o3
    have hfr : ∀ k cs t fr, w.heap[k]? = some (.cells cs t fr) → t ≠ 3 → k ≠ p → w3.heap[k]? = some (.cells cs t fr) := by
      intro k cs t fr hk ht hkp
      have hks := idx_lt hk
      rw [o3 k hkp, hg2.block k (Nat.lt_of_lt_of_le hks q2.size) (HO.out k cs t fr hk ht), q2.block k hks]; exact hk
    have hb3 : Below base w w3 := by rw [hw3]; exact ((q2.mono (by omega)).grown hg2 (by have := q2.size; omega) (fun j hj => (hown.lt j hj).1)).setCell hbp _
    have G := Lib.hid (And.intro g3 (And.intro hown3 (And.intro hb3 hfr)))
    clear hw3 g3 o3 far2 hown3 hb3 hfr hown2 hg2 hownu hown hh
    go_wp2
    refine bodyPost_end (results_none rfl _ _ _) rfl ?_
    obtain ⟨g3, hown3, hb3, hfr⟩ := G.out
    refine ⟨rfl, ⟨hbp, .slice o2 (zs.length + (brk bs n bs.length).length) c2, ?_, ?_⟩, hb3.setCell hbp _, fun k cs t fr hk ht hkp => by rw [Below.heap_setCell w3 _ _ k hkp]; exact hfr k cs t fr hk ht hkp⟩
    · rw [set0 g3]; simp
    · rw [List.length_append, List.map_append]; exact owns_blocks hown3 (idx_far g3 hown3) (fun k hk => Below.heap_setCell w3 _ _ k hk))


theorem feedBF_any (base p : Nat) (bs ins : List Int) (v : Value) (w : World) (hI : IdxB w base p bs) (hn : bs.length ≤ 100000) (hb : ins.length ≤ 100000)
    (hr : Row w v ins.length (ins.map (Value.int .u8))) (hu : ∀ x ∈ ins, 0 ≤ x ∧ x < 256) :
    Calls Try.prog 22 #[.pointer (some ⟨p, 0, none⟩), v] w fun e w' => e = .returned (.tuple #[]) ∧ IdxB w' base p (bs ++ ins) ∧ Below base w w' ∧
      (∀ k cs t fr, w.heap[k]? = some (.cells cs t fr) → t ≠ 3 → k ≠ p → w'.heap[k]? = some (.cells cs t fr)) := by
  have hle := brk_le bs 0 bs.length
  refine (feedF_any base p bs.length (brk bs 0 bs.length) ins v w hI (by omega) (by omega) hb hr hu).mono ?_
  rintro e w' ⟨rfl, h1, h2, h3⟩
  refine ⟨rfl, ?_, h2, h3⟩
  unfold IdxB
  rw [brk_all, List.length_append]
  simpa using h1
end Go.Proofs.Ytjeploipaejepaa
