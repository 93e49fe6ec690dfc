/- runes, the reference: Norm, Not, Or, And. -/
import Derived.Test.YtjhfncmeiaogaaaRefRune3
set_option linter.unusedVariables false
set_option linter.unusedSimpArgs false
namespace Go.Proofs.Ytjhfncmeiaogaaa
open Go.RowKit Ru

theorem rowNil (w : World) : Row w (.slice none 0 0) 0 [] := ⟨none, 0, rfl, Nat.le_refl _, by decide, .inl ⟨rfl, fun _ => rfl⟩⟩
namespace Ru
/-- what the reference picks is the set in normal form -/
theorem pick_eq (g : Bool → Bool → Bool) (a b T : List Pc) (hT : nrm T = T) (h : ∀ p, inR T p ↔ 0 ≤ p ∧ p < 1112064 ∧ g (inB (raw a) p) (inB (raw b) p) = true) :
    rngs (pickP (fun x => g (inB (raw a) x) (inB (raw b) x)) (raw a) (raw b)) = T ∧ (pickP (fun x => g (inB (raw a) x) (inB (raw b) x)) (raw a) (raw b)).length = T.length := by
  obtain ⟨h1, h2⟩ := pick_all g (raw a) (raw b) (fun q hq => raw_mem hq) (fun q hq => raw_mem hq)
  obtain ⟨D, hD⟩ : ∃ D, D = pickP (fun x => g (inB (raw a) x) (inB (raw b) x)) (raw a) (raw b) := ⟨_, rfl⟩
  rw [← hD] at h1 h2 ⊢
  have hb : Bd D := fun q hq => by
    have hp := h1.pos q hq
    have := (h2 (q.2 - 1)).1 ⟨q, hq, by omega, by omega⟩
    omega
  have e : rngs D = T := norm_ext (by unfold nrm; rw [pcs_rngs h1 hb]) hT (fun p => by rw [inR_rngs h1 hb, h2, h])
  exact ⟨e, by rw [← e, rngs_len]⟩
theorem inB_raw (a : List Pc) (p : Int) : inB (raw a) p = true ↔ inR a p := by rw [inB_iff, inP_raw]
end Ru

set_option maxHeartbeats 1000000 in
theorem refNorm_any (a : List Pc) (va : Value) (w : World) (ha : Row w va a.length (flatK .i32 a)) (za : i32s a) (na : a.length ≤ 5000) :
    Calls Try.prog 32 #[va] w fun e w' => ∃ u, e = .returned u ∧ w'.ownsRow w.heap.size 59 2 u (nrm a).length (flatK .i32 (nrm a)) ∧ Below w.heap.size w w' := by
  have hpk := pick_eq (fun x _ => x) a [] (nrm a) (nrm_norm a) (fun p => by
    rw [inR_nrm, inB_raw]; exact ⟨fun h => ⟨(inR_range h).1, (inR_range h).2, h⟩, fun h => h.2.2⟩)
  go_enter Try.func32, Try.ntmps32
  go_wp2_with (first
    | (go_at_call 56; refine (refCells_any a va _ ha za (by omega)).mono ?_; rintro e w1 ⟨u1, rfl, hown1, hb1⟩)
    | (go_at_call 55; refine (refPick_any (raw a) (raw []) _ _ 1 (fun x _ => x) _ (Row.owned hown1) (rowNil _) (fun q hq => raw_mem hq) (fun q hq => raw_mem hq) (by have := raw_le a; omega) (by decide) (.inl ⟨rfl, rfl⟩)).mono ?_; rintro e w2 ⟨u2, rfl, hown2, hb2⟩))
  go_ret
  rw [hpk.1, hpk.2] at hown2
  exact ⟨_, rfl, Joins.ownsRow_le hown2 hb1.size, bel_then hb1 hb2⟩

set_option maxHeartbeats 1000000 in
theorem refNot_any (a : List Pc) (va : Value) (w : World) (ha : Row w va a.length (flatK .i32 a)) (za : i32s a) (na : a.length ≤ 5000) :
    Calls Try.prog 40 #[va] w fun e w' => ∃ u, e = .returned u ∧ w'.ownsRow w.heap.size 59 2 u (nt a).length (flatK .i32 (nt a)) ∧ Below w.heap.size w w' := by
  have hpk := pick_eq (fun x _ => !x) a [] (nt a) (nt_norm a) (fun p => by
    rw [inR_nt, Bool.not_eq_true', ← Bool.not_eq_true, inB_raw])
  go_enter Try.func40, Try.ntmps40
  go_wp2_with (first
    | (go_at_call 56; refine (refCells_any a va _ ha za (by omega)).mono ?_; rintro e w1 ⟨u1, rfl, hown1, hb1⟩)
    | (go_at_call 55; refine (refPick_any (raw a) (raw []) _ _ 5 (fun x _ => !x) _ (Row.owned hown1) (rowNil _) (fun q hq => raw_mem hq) (fun q hq => raw_mem hq) (by have := raw_le a; omega) (by decide) (.inr (.inr (.inr ⟨rfl, rfl⟩)))).mono ?_; rintro e w2 ⟨u2, rfl, hown2, hb2⟩))
  go_ret
  rw [hpk.1, hpk.2] at hown2
  exact ⟨_, rfl, Joins.ownsRow_le hown2 hb1.size, bel_then hb1 hb2⟩

set_option maxHeartbeats 1000000 in
theorem refOr_any (a b : List Pc) (va vb : Value) (w : World) (ha : Row w va a.length (flatK .i32 a)) (hb : Row w vb b.length (flatK .i32 b)) (za : i32s a) (zb : i32s b) (na : a.length ≤ 5000) (nb : b.length ≤ 5000) :
    Calls Try.prog 36 #[va, vb] w fun e w' => ∃ u, e = .returned u ∧ w'.ownsRow w.heap.size 59 2 u (orF a b).length (flatK .i32 (orF a b)) ∧ Below w.heap.size w w' := by
  have hpk := pick_eq (fun x y => x || y) a b (orF a b) (nrm_norm _) (fun p => by
    rw [inR_or, Bool.or_eq_true, inB_raw, inB_raw]; exact ⟨fun h => ⟨(h.elim inR_range inR_range).1, (h.elim inR_range inR_range).2, h⟩, fun h => h.2.2⟩)
  go_enter Try.func36, Try.ntmps36
  go_wp2_with (first
    | (go_at_call 55; refine (refPick_any (raw a) (raw b) _ _ 3 (fun x y => x || y) _ (Row.owned (owns_below hown1 hb2)) (Row.owned hown2) (fun q hq => raw_mem hq) (fun q hq => raw_mem hq) (by have := raw_le a; omega) (by have := raw_le b; omega) (.inr (.inl ⟨rfl, rfl⟩))).mono ?_; rintro e w3 ⟨u3, rfl, hown3, hb3⟩)
    | (go_at_call 56; refine (refCells_any b vb _ (hb.below hb1) zb (by omega)).mono ?_; rintro e w2 ⟨u2, rfl, hown2, hb2⟩)
    | (go_at_call 56; refine (refCells_any a va _ ha za (by omega)).mono ?_; rintro e w1 ⟨u1, rfl, hown1, hb1⟩))
  go_ret
  rw [hpk.1, hpk.2] at hown3
  have hB2 := bel_then hb1 hb2
  exact ⟨_, rfl, Joins.ownsRow_le hown3 hB2.size, bel_then hB2 hb3⟩

set_option maxHeartbeats 1000000 in
theorem refAnd_any (a b : List Pc) (va vb : Value) (w : World) (ha : Row w va a.length (flatK .i32 a)) (hb : Row w vb b.length (flatK .i32 b)) (za : i32s a) (zb : i32s b) (na : a.length ≤ 5000) (nb : b.length ≤ 5000) :
    Calls Try.prog 38 #[va, vb] w fun e w' => ∃ u, e = .returned u ∧ w'.ownsRow w.heap.size 59 2 u (andF a b).length (flatK .i32 (andF a b)) ∧ Below w.heap.size w w' := by
  have hpk := pick_eq (fun x y => x && y) a b (andF a b) (nt_norm _) (fun p => by
    rw [inR_and, Bool.and_eq_true, inB_raw, inB_raw]; exact ⟨fun h => ⟨(inR_range h.1).1, (inR_range h.1).2, h⟩, fun h => h.2.2⟩)
  go_enter Try.func38, Try.ntmps38
  go_wp2_with (first
    | (go_at_call 55; refine (refPick_any (raw a) (raw b) _ _ 4 (fun x y => x && y) _ (Row.owned (owns_below hown1 hb2)) (Row.owned hown2) (fun q hq => raw_mem hq) (fun q hq => raw_mem hq) (by have := raw_le a; omega) (by have := raw_le b; omega) (.inr (.inr (.inl ⟨rfl, rfl⟩)))).mono ?_; rintro e w3 ⟨u3, rfl, hown3, hb3⟩)
    | (go_at_call 56; refine (refCells_any b vb _ (hb.below hb1) zb (by omega)).mono ?_; rintro e w2 ⟨u2, rfl, hown2, hb2⟩)
    | (go_at_call 56; refine (refCells_any a va _ ha za (by omega)).mono ?_; rintro e w1 ⟨u1, rfl, hown1, hb1⟩))
  go_ret
  rw [hpk.1, hpk.2] at hown3
  have hB2 := bel_then hb1 hb2
  exact ⟨_, rfl, Joins.ownsRow_le hown3 hB2.size, bel_then hB2 hb3⟩
end Go.Proofs.Ytjhfncmeiaogaaa
