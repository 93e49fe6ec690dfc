/- forest: Pairs. -/
import Derived.Test.YtjeploipaejepaaForestNext
import Derived.Test.YtjeploipaejepaaForestMath2
set_option linter.unusedVariables false
set_option linter.unusedSimpArgs false
namespace Go.Proofs.Ytjeploipaejepaa
open Go.RowKit Fo

/-- the cells of a slice of symbols -/
def flat (l : List (Int × Int)) : List Value := l.flatMap fun p => [.int .i64 p.1, .int .i64 p.2]
theorem flat_len (l : List (Int × Int)) : (flat l).length = l.length * 2 := by
  induction l with
  | nil => rfl
  | cons p l ih => simp only [flat, List.flatMap_cons, List.length_append, List.length_cons] at ih ⊢; simp at ih ⊢; omega
def tks (l : List (Int × Int)) : List Int := l.map (·.1)
def kns (l : List (Int × Int)) : List Int := l.map (·.2)
theorem flat_get : ∀ (l : List (Int × Int)) (i : Nat), i < l.length → (flat l)[i * 2]? = some (.int .i64 ((tks l).getD i 0)) ∧ (flat l)[i * 2 + 1]? = some (.int .i64 ((kns l).getD i 0))
  | [], i, h => by simp at h
  | p :: l, 0, _ => by simp [flat, tks, kns]
  | p :: l, i + 1, h => by
    have := flat_get l i (by simpa using h)
    have e1 : (i + 1) * 2 = (i * 2) + 2 := by omega
    have e2 : flat (p :: l) = .int .i64 p.1 :: .int .i64 p.2 :: flat l := rfl
    rw [e1, e2]
    simpa [tks, kns] using this

/-- out behind k rounds -/
def outAt (ks : List Int) (n k : Nat) : List Value := (List.range n).map fun j => Value.int .i64 (if j < k then prs ks k j else 0)
theorem outAt_len (ks : List Int) (n k : Nat) : (outAt ks n k).length = n := by simp [outAt]
theorem outAt_zero (ks : List Int) (n : Nat) : outAt ks n 0 = List.replicate n (.int .i64 0) := by
  apply List.ext_getElem?
  intro j
  by_cases h : j < n <;> simp [outAt, h]
theorem outAt_end (ks : List Int) (n : Nat) : outAt ks n n = (List.range n).map fun j => Value.int .i64 (prs ks n j) := by
  refine List.map_congr_left fun j hj => ?_
  rw [if_pos (by simpa using hj)]
theorem outAt_next (ks : List Int) (n k : Nat) (hk : k < n) :
    (nextS (ks.getD k 0) k (stk ks k)).2 = stk ks (k + 1) ∧
      (((nextS (ks.getD k 0) k (stk ks k)).1 = -1 ∧ (outAt ks n k).set k (.int .i64 (-1)) = outAt ks n (k + 1)) ∨
       ∃ c : Nat, c < k ∧ (nextS (ks.getD k 0) k (stk ks k)).1 = (c : Int) ∧ ((outAt ks n k).set k (.int .i64 c)).set c (.int .i64 k) = outAt ks n (k + 1)) := by
  have hout : ∀ (f g : Nat → Int), (∀ j, j < n → (if j = k then f k else if j < k then f j else 0) = (if j < k + 1 then g j else 0)) → (∀ j, j < k → f j = prs ks k j) →
      (outAt ks n k).set k (.int .i64 (f k)) = (List.range n).map fun j => Value.int .i64 (if j < k + 1 then g j else 0) := by
    intro f g h hf
    apply List.ext_getElem?
    intro j
    by_cases hj : j < n
    · by_cases e : k = j
      · subst e
        have := h k hj
        rw [if_pos rfl] at this
        simp [List.getElem?_set, outAt, hj, this]
      · have := h j hj
        rw [if_neg (fun h => e h.symm)] at this
        simp only [List.getElem?_set, if_neg e, outAt, List.getElem?_map, List.getElem?_range hj, Option.map_some]
        rw [← this]
        by_cases h2 : j < k
        · rw [if_pos h2, if_pos h2, hf j h2]
        · rw [if_neg h2, if_neg h2]
    · simp [outAt, hj, List.getElem?_eq_none]
  by_cases h1 : ks.getD k 0 = 1
  · have e : nextS (ks.getD k 0) k (stk ks k) = (-1, k :: stk ks k) := by simp only [nextS]; rw [if_pos h1]
    rw [e, stk_call h1]
    refine ⟨rfl, .inl ⟨rfl, ?_⟩⟩
    have hp : prs ks (k + 1) = prs ks k := prs_other (by omega)
    have := hout (fun j => if j = k then -1 else prs ks k j) (prs ks (k + 1)) (fun j hj => by
      rw [hp]
      by_cases e : j = k
      · subst e; simp [prs_out ks j j (Nat.le_refl _)]
      · rw [if_neg e, if_neg e]
        by_cases h2 : j < k
        · rw [if_pos h2, if_pos (by omega)]
        · rw [if_neg h2, if_neg (by omega)]) (fun j hj => if_neg (by omega))
    simpa [outAt] using this
  · by_cases h2 : ks.getD k 0 = 2
    · cases hs : stk ks k with
      | nil =>
        have e : nextS (ks.getD k 0) k [] = (-1, []) := by simp only [nextS]; rw [if_neg h1, if_pos h2]
        rw [e, stk_ret h2, hs]
        refine ⟨rfl, .inl ⟨rfl, ?_⟩⟩
        have hp : prs ks (k + 1) = prs ks k := prs_lost h2 hs
        have := hout (fun j => if j = k then -1 else prs ks k j) (prs ks (k + 1)) (fun j hj => by
          rw [hp]
          by_cases e : j = k
          · subst e; simp [prs_out ks j j (Nat.le_refl _)]
          · rw [if_neg e, if_neg e]
            by_cases h2 : j < k
            · rw [if_pos h2, if_pos (by omega)]
            · rw [if_neg h2, if_neg (by omega)]) (fun j hj => if_neg (by omega))
        simpa [outAt] using this
      | cons c r =>
        have hc := stk_lt ks k c (by rw [hs]; simp)
        have e : nextS (ks.getD k 0) k (c :: r) = ((c : Int), r) := by simp only [nextS]; rw [if_neg h1, if_pos h2]
        rw [e, stk_ret h2, hs]
        refine ⟨rfl, .inr ⟨c, hc, rfl, ?_⟩⟩
        apply List.ext_getElem?
        intro j
        by_cases hj : j < n
        · simp only [List.getElem?_set, outAt, List.getElem?_map, List.length_set, List.length_map, List.length_range, List.getElem?_range hj, Option.map_some]
          have hp := prs_ret h2 hs
          by_cases e1 : c = j
          · subst e1
            rw [if_pos rfl, if_pos hj, if_pos (by omega), hp]
            simp [upd]
          · rw [if_neg e1]
            by_cases e2 : k = j
            · subst e2
              rw [if_pos rfl, if_pos hj, if_pos (by omega), hp]
              unfold upd; rw [if_neg (by omega), if_pos rfl]
            · rw [if_neg e2]
              by_cases e3 : j < k
              · rw [if_pos e3, if_pos (by omega), hp]
                unfold upd; rw [if_neg (by omega), if_neg (by omega)]
              · rw [if_neg e3, if_neg (by omega)]
        · simp [outAt, hj, List.getElem?_eq_none]
    · have e : nextS (ks.getD k 0) k (stk ks k) = (-1, stk ks k) := by simp only [nextS]; rw [if_neg h1, if_neg h2]
      rw [e, stk_int h1 h2]
      refine ⟨rfl, .inl ⟨rfl, ?_⟩⟩
      have hp : prs ks (k + 1) = prs ks k := prs_other h2
      have := hout (fun j => if j = k then -1 else prs ks k j) (prs ks (k + 1)) (fun j hj => by
        rw [hp]
        by_cases e : j = k
        · subst e; simp [prs_out ks j j (Nat.le_refl _)]
        · rw [if_neg e, if_neg e]
          by_cases h2 : j < k
          · rw [if_pos h2, if_pos (by omega)]
          · rw [if_neg h2, if_neg (by omega)]) (fun j hj => if_neg (by omega))
      simpa [outAt] using this
end Go.Proofs.Ytjeploipaejepaa
