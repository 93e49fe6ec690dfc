/- forest: the law's own examples. -/
import Derived.Test.YtjeploipaejepaaForestMay
set_option linter.unusedVariables false
set_option linter.unusedSimpArgs false
namespace Go.Proofs.Ytjeploipaejepaa
open Go.RowKit Fo

def tw : List (Int × Int) := [(0, 1), (0, 2), (0, 2), (0, 1)]
theorem tw1 : prsRow tw = [.int .i64 1, .int .i64 0, .int .i64 (-1), .int .i64 (-1)] := by rfl
theorem tw2 : alone tw 1 = [3] := by decide
theorem tw3 : alone tw 2 = [2] := by decide
theorem tw4 : wellB tw = false := by decide
theorem tw5 : wellB (tw.take 2) = true := by decide
theorem tw6 : dp (kns tw) tw.length = 1 := by decide
theorem tw7 : mayB tw = true := by decide
theorem tw8 : mayB [(-2, 0)] = false := by decide
/-- a literal slice of symbols -/
theorem Syms.lit (w : World) (e : TypeId) (l : List (Int × Int)) (n : Nat) (h : l.length = n) (hm : n ≤ maxLen) : Syms (w.alloc (.cells (flat l).toArray e)) (.slice (some ⟨w.heap.size, 0, none⟩) n n) l := by
  subst h
  refine ⟨_, _, rfl, Nat.le_refl _, hm, .inr ⟨w.heap.size, 0, rfl, by simp, fun j u hu => ?_⟩⟩
  rw [Nat.zero_add, World.cell?_alloc_mark]
  simpa using hu
theorem Syms.front {w : World} {b off n cap m : Nat} {l : List (Int × Int)} (h : Syms w (.slice (some ⟨b, off, none⟩) n cap) l) (hb : b < w.heap.size) (hm : m ≤ l.length) (hmc : m ≤ cap) : Syms w (.slice (some ⟨b, off, none⟩) m cap) (l.take m) := by
  obtain ⟨o', c', e, h1, h2, h3⟩ := h
  simp only [Value.slice.injEq] at e
  obtain ⟨rfl, rfl, rfl⟩ := e
  have hl : (l.take m).length = m := by simp; omega
  unfold Syms
  rw [hl, ← flat_take]
  refine ⟨_, _, rfl, by omega, h2, ?_⟩
  rcases h3 with ⟨h0, _⟩ | ⟨b', off', e', hlt, hc⟩
  · exact .inl ⟨by omega, fun h => by cases h⟩
  · simp only [Option.some.injEq, Addr.mk.injEq, and_true] at e'
    obtain ⟨rfl, rfl⟩ := e'
    refine .inr ⟨_, _, rfl, hlt, fun j u hj => ?_⟩
    rw [List.getElem?_take] at hj
    split at hj
    · exact hc j u hj
    · cases hj

set_option maxHeartbeats 1000000 in
set_option maxRecDepth 1000000 in
theorem told15_any (w : World) : Calls Try.prog 25 #[] w fun e w' => e = .returned (.bool true) ∧ Below w.heap.size w w' := by
  have hS := Syms.lit w 47 tw 4 rfl (by decide)
  have hS0 : Syms (w.alloc (.cells #[.int .i64 0, .int .i64 1, .int .i64 0, .int .i64 2, .int .i64 0, .int .i64 2, .int .i64 0, .int .i64 1] 47)) (.slice (some ⟨w.heap.size, 0, none⟩) 4 4) tw := hS
  clear hS
  go_enter Try.func25, Try.ntmps25
  go_wp2_with fail
  refine (pairs_any tw _ _ hS0 (by decide)).mono ?_
  rintro e w1 ⟨u1, rfl, hown1, hb1⟩
  obtain ⟨g1, c1, e1⟩ := Joins.ownsRow_form hown1 (by decide)
  subst e1
  rw [tw1] at hown1
  have hw0 : w.heap.size < (w.alloc (.cells #[.int .i64 0, .int .i64 1, .int .i64 0, .int .i64 2, .int .i64 0, .int .i64 2, .int .i64 0, .int .i64 1] 47)).heap.size := by simp
  have hS1 := hS0.below hb1
  have hB1 : Below w.heap.size w w1 := bel_then (by repeat (first | exact Below.refl _ _ | assumption | (refine Below.drew ?_) | (refine below_drewN ?_ _) | (refine bel_new ?_ _) | (refine bel_then ?_ (by assumption)))) hb1
  have hw1 := Nat.lt_of_lt_of_le hw0 hb1.size
  clear hS0 hb1 hw0
  go_wp2_with fail
  refine (open_any tw _ _ hS1 (by decide)).mono ?_
  rintro e w2 ⟨u2, rfl, hown2, hb2⟩
  rw [tw2] at hown2
  obtain ⟨g2, c2, e2⟩ := Joins.ownsRow_form hown2 (by decide)
  subst e2
  have hS2 := hS1.below hb2
  have hB2 : Below w.heap.size w w2 := bel_then hB1 hb2
  have hw2 := Nat.lt_of_lt_of_le hw1 hb2.size
  have hown1' := owns_below hown1 hb2
  clear hS1 hb2 hown1 hB1 hw1
  go_wp2_with fail
  refine (lost_any tw _ _ hS2 (by decide)).mono ?_
  rintro e w3 ⟨u3, rfl, hown3, hb3⟩
  rw [tw3] at hown3
  obtain ⟨g3, c3, e3⟩ := Joins.ownsRow_form hown3 (by decide)
  subst e3
  have hS3 := hS2.below hb3
  have hB3 : Below w.heap.size w w3 := bel_then hB2 hb3
  have hw3 := Nat.lt_of_lt_of_le hw2 hb3.size
  have hown1 := owns_below hown1' hb3
  have hown2' := owns_below hown2 hb3
  have k10 : w3.cell? ⟨g1, 0, none⟩ = some (.int .i64 1) := cell_add (hown1.cells rfl) 0 _ rfl
  have k11 : w3.cell? ⟨g1, 1, none⟩ = some (.int .i64 0) := cell_add (hown1.cells rfl) 1 _ rfl
  have k12 : w3.cell? ⟨g1, 2, none⟩ = some (.int .i64 (-1)) := cell_add (hown1.cells rfl) 2 _ rfl
  have k20 : w3.cell? ⟨g2, 0, none⟩ = some (.int .i64 3) := cell_add (hown2'.cells rfl) 0 _ rfl
  have k30 : w3.cell? ⟨g3, 0, none⟩ = some (.int .i64 2) := cell_add (hown3.cells rfl) 0 _ rfl
  have hl : tw.length = 4 := rfl
  rw [hl]
  clear hS2 hb3 hown1' hB2 hw2 hown1 hown2 hown2' hown3 hl
  go_wp2_with fail
  refine (well_any (tw.take 2) _ _ (Syms.front hS3 hw3 (by decide) (by decide)) (by decide)).mono ?_
  rintro e w4 ⟨rfl, hb4⟩
  rw [tw5]
  have hS4 := hS3.below hb4
  have hB4 : Below w.heap.size w w4 := bel_then hB3 hb4
  clear hS3 hb4 hB3 k10 k11 k12 k20 k30
  go_wp2_with fail
  refine (well_any tw _ _ hS4 (by decide)).mono ?_
  rintro e w5 ⟨rfl, hb5⟩
  rw [tw4]
  have hS5 := hS4.below hb5
  have hB5 : Below w.heap.size w w5 := bel_then hB4 hb5
  clear hS4 hb5 hB4
  go_wp2_with fail
  refine (deep_any tw _ _ hS5 (by decide)).mono ?_
  rintro e w6 ⟨rfl, hb6⟩
  rw [tw6]
  have hS6 := hS5.below hb6
  have hB6 : Below w.heap.size w w6 := bel_then hB5 hb6
  clear hS5 hb6 hB5
  go_wp2_with fail
  refine (may_any tw _ _ hS6 (by decide)).mono ?_
  rintro e w7 ⟨rfl, hb7⟩
  rw [tw7]
  have hB7 : Below w.heap.size w w7 := bel_then hB6 hb7
  clear hS6 hb7 hB6
  go_wp2_with fail
  refine (may_any [(-2, 0)] _ _ (Syms.lit w7 47 [(-2, 0)] 1 rfl (by decide)) (by decide)).mono ?_
  rintro e w8 ⟨rfl, hb8⟩
  rw [tw8]
  have hB8 : Below w.heap.size w w8 := bel_then (by repeat (first | exact Below.refl _ _ | assumption | (refine Below.drew ?_) | (refine below_drewN ?_ _) | (refine bel_new ?_ _) | (refine bel_then ?_ (by assumption)))) hb8
  clear hb8 hB7
  go_wp2
  go_ret
  exact ⟨rfl, hB8⟩
end Go.Proofs.Ytjeploipaejepaa
