/- Nested words: what has no partner, how deep, fronts, nesting. No Go in sight. -/
import Derived.Test.YtjeploipaejepaaForestMath
set_option linter.unusedVariables false
set_option linter.unusedSimpArgs false
namespace Go.Proofs.Ytjeploipaejepaa.Fo

theorem sorted_ext : ∀ (a b : List Nat), a.Pairwise (· < ·) → b.Pairwise (· < ·) → (∀ x, x ∈ a ↔ x ∈ b) → a = b
  | [], [], _, _, _ => rfl
  | [], y :: b, _, _, h => absurd ((h y).2 (by simp)) (by simp)
  | x :: a, [], _, _, h => absurd ((h x).1 (by simp)) (by simp)
  | x :: a, y :: b, ha, hb, h => by
    have ha' := List.pairwise_cons.1 ha
    have hb' := List.pairwise_cons.1 hb
    have e : x = y := by
      rcases List.mem_cons.1 ((h x).1 (by simp)) with e | e
      · exact e
      · rcases List.mem_cons.1 ((h y).2 (by simp)) with e2 | e2
        · exact e2.symm
        · have := ha'.1 y e2; have := hb'.1 x e; omega
    subst e
    rw [sorted_ext a b ha'.2 hb'.2 fun z => ?_]
    constructor
    · intro hz
      rcases List.mem_cons.1 ((h z).1 (List.mem_cons_of_mem _ hz)) with e | e
      · have := ha'.1 z hz; omega
      · exact e
    · intro hz
      rcases List.mem_cons.1 ((h z).2 (List.mem_cons_of_mem _ hz)) with e | e
      · have := hb'.1 z hz; omega
      · exact e

theorem prs_neg (ks : List Int) (n j : Nat) : prs ks n j < 0 ↔ prs ks n j = -1 := by
  rcases prs_sym ks n j with h | ⟨k, h, _⟩ <;> omega

/-- the places below k of a kind that have no partner within n -/
def alo (ks : List Int) (K : Int) (n k : Nat) : List Nat := (List.range k).filter fun j => decide (prs ks n j < 0) && decide (ks.getD j 0 = K)
theorem alo_succ (ks : List Int) (K : Int) (n k : Nat) : alo ks K n (k + 1) = if prs ks n k < 0 ∧ ks.getD k 0 = K then alo ks K n k ++ [k] else alo ks K n k := by
  unfold alo
  rw [List.range_succ, List.filter_append]
  by_cases h : prs ks n k < 0 ∧ ks.getD k 0 = K
  · rw [if_pos h]
    have : (decide (prs ks n k < 0) && decide (ks.getD k 0 = K)) = true := by rw [Bool.and_eq_true]; exact ⟨decide_eq_true h.1, decide_eq_true h.2⟩
    simp only [List.filter_cons, List.filter_nil, this, if_true]
  · rw [if_neg h]
    have : (decide (prs ks n k < 0) && decide (ks.getD k 0 = K)) = false := by
      cases e : (decide (prs ks n k < 0) && decide (ks.getD k 0 = K)) with
      | false => rfl
      | true => rw [Bool.and_eq_true] at e; exact absurd ⟨of_decide_eq_true e.1, of_decide_eq_true e.2⟩ h
    simp only [List.filter_cons, List.filter_nil, this, if_neg Bool.false_ne_true, List.append_nil]
theorem alo_mem (ks : List Int) (K : Int) (n k x : Nat) : x ∈ alo ks K n k ↔ x < k ∧ prs ks n x = -1 ∧ ks.getD x 0 = K := by
  simp [alo, prs_neg]
theorem alo_sorted (ks : List Int) (K : Int) (n k : Nat) : (alo ks K n k).Pairwise (· < ·) := List.Pairwise.filter _ List.pairwise_lt_range
theorem alo_le (ks : List Int) (K : Int) (n k : Nat) : (alo ks K n k).length ≤ k := by
  have := List.length_filter_le (fun j => decide (prs ks n j < 0) && decide (ks.getD j 0 = K)) (List.range k)
  simpa [alo] using this
/-- the open Calls are the stack, the first one first -/
theorem alo_open (ks : List Int) (n : Nat) : alo ks 1 n n = (stk ks n).reverse := by
  refine sorted_ext _ _ (alo_sorted ks 1 n n) ?_ fun x => ?_
  · rw [List.pairwise_reverse]; exact stk_sorted ks n
  · rw [alo_mem, List.mem_reverse, stk_iff]
    constructor
    · rintro ⟨a, b, c⟩; exact ⟨a, c, b⟩
    · rintro ⟨a, b, c⟩; exact ⟨a, c, b⟩

theorem fo_congr {ks ls : List Int} : ∀ (i : Nat), (∀ j, j < i → ks.getD j 0 = ls.getD j 0) → stk ks i = stk ls i ∧ prs ks i = prs ls i
  | 0, _ => ⟨rfl, rfl⟩
  | i + 1, h => by
    obtain ⟨h1, h2⟩ := fo_congr i fun j hj => h j (by omega)
    have e := h i (by omega)
    constructor
    · simp only [stk, e, h1]
    · simp only [prs, e, h1, h2]

/-- how many Calls are open at the same time, at most -/
def dp (ks : List Int) : Nat → Nat
  | 0 => 0
  | i + 1 => max (dp ks i) (stk ks (i + 1)).length
theorem dp_mono (ks : List Int) : ∀ (i n : Nat), i ≤ n → dp ks i ≤ dp ks n := by
  intro i n h
  induction n with
  | zero => have : i = 0 := by omega
            subst this; exact Nat.le_refl _
  | succ n ih =>
    by_cases e : i = n + 1
    · subst e; exact Nat.le_refl _
    · have := ih (by omega); simp only [dp]; omega
theorem dp_congr {ks ls : List Int} : ∀ (i : Nat), (∀ j, j < i → ks.getD j 0 = ls.getD j 0) → dp ks i = dp ls i
  | 0, _ => rfl
  | i + 1, h => by simp only [dp]; rw [dp_congr i fun j hj => h j (by omega), (fo_congr (i + 1) h).1]
theorem stk_len (ks : List Int) : ∀ (i : Nat), (stk ks i).length ≤ i
  | 0 => Nat.le_refl _
  | i + 1 => by
    have := stk_len ks i
    simp only [stk]
    split
    · simp; omega
    · split
      · simp; omega
      · omega
theorem dp_le (ks : List Int) : ∀ (i : Nat), dp ks i ≤ i
  | 0 => Nat.le_refl _
  | i + 1 => by
    have := dp_le ks i; have := stk_len ks (i + 1); simp only [dp]; omega

/-- a front's partners are the whole's, as far as both are in it -/
theorem prs_front (ks : List Int) (i k n : Nat) (hi : i < k) (hk : k ≤ n) : (if (k : Int) ≤ prs ks n i then -1 else prs ks n i) = prs ks k i := by
  by_cases h : prs ks k i = -1
  · rcases prs_sym ks n i with h1 | ⟨m, h1, hm, hin, h2, h3⟩
    · rw [h1, h, if_neg (by omega)]
    · by_cases hmk : m < k
      · exfalso
        rcases h3 with ⟨a, b, c⟩ | ⟨a, b, c⟩
        · have e1 := prs_return ks m (by omega) n hm
          have e2 := prs_return ks m (by omega) k hmk
          rcases prs_sym ks k m with h4 | ⟨p, h4, hp, _, h5, _⟩
          · omega
          · have : p = i := by omega
            subst this; omega
        · have e1 := prs_return ks i (by omega) n hin
          have e2 := prs_return ks i (by omega) k hi
          omega
      · rw [if_pos (by omega), h]
  · have e := prs_later ks k i h n hk
    rcases prs_sym ks k i with h1 | ⟨m, h1, hm, _⟩
    · exact absurd h1 h
    · rw [e, h1, if_neg (by omega)]

/-- who is open at the end was open since -/
theorem prs_earlier (ks : List Int) (i j n : Nat) (h : prs ks n i = -1) (hj : j ≤ n) : prs ks j i = -1 := by
  by_cases e : prs ks j i = -1
  · exact e
  · have := prs_later ks j i e n hj; omega
/-- what is lost stands ahead of what is open -/
theorem lost_open (ks : List Int) (n i j : Nat) (hi : i < n) (hj : j < n) (hik : ks.getD i 0 = 1) (hip : prs ks n i = -1) (hjk : ks.getD j 0 = 2) (hjp : prs ks n j = -1) : j < i := by
  rcases Nat.lt_or_ge j i with h | h
  · exact h
  · exfalso
    have hne : i ≠ j := by rintro rfl; omega
    have hm := (stk_iff ks j i).2 ⟨by omega, hik, prs_earlier ks i j n hip (by omega)⟩
    cases hs : stk ks j with
    | nil => rw [hs] at hm; cases hm
    | cons c r =>
      have hc := stk_lt ks j c (by rw [hs]; simp)
      have e := prs_ret hjk hs
      have e2 : prs ks (j + 1) j = c := by rw [e]; unfold upd; rw [if_neg (by omega), if_pos rfl]
      have e3 := prs_later ks (j + 1) j (by omega) n (by omega)
      omega
/-- what stands between two partners has its partners there -/
theorem prs_nest (ks : List Int) (n i k j : Nat) (hp : prs ks n i = (k : Int)) (hik : i < k) (h1 : i < j) (h2 : j < k) (hj : ks.getD j 0 = 1 ∨ ks.getD j 0 = 2) : ∃ m : Nat, prs ks n j = (m : Int) ∧ i < m ∧ m < k := by
  rcases prs_sym ks n i with h | ⟨k', e1, hk', hin, e2, h3⟩
  · omega
  obtain rfl : k' = k := by omega
  obtain ⟨hci, hrk⟩ : ks.getD i 0 = 1 ∧ ks.getD k' 0 = 2 := by
    rcases h3 with h | ⟨_, _, h⟩
    · exact ⟨h.1, h.2.1⟩
    · omega
  have ek := prs_return ks k' (by omega) n hk'
  cases hs : stk ks k' with
  | nil =>
    rw [prs_lost hrk hs, prs_out ks k' k' (Nat.le_refl _)] at ek
    omega
  | cons c r =>
    have hc := stk_lt ks k' c (by rw [hs]; simp)
    have e2' : prs ks (k' + 1) k' = c := by rw [prs_ret hrk hs]; unfold upd; rw [if_neg (by omega), if_pos rfl]
    obtain rfl : c = i := by omega
    rcases hj with hj | hj
    · have hnm : j ∉ stk ks k' := by
        have hsd := stk_sorted ks k'
        rw [hs] at hsd ⊢
        intro hm
        rcases List.mem_cons.1 hm with e | e
        · omega
        · have := (List.pairwise_cons.1 hsd).1 j e; omega
      have hne : prs ks k' j ≠ -1 := fun h => hnm ((stk_iff ks k' j).2 ⟨h2, hj, h⟩)
      have el := prs_later ks k' j hne n (by omega)
      rcases prs_sym ks k' j with h | ⟨m, hm1, hm2, hm3, hm4, hm5⟩
      · exact absurd h hne
      · refine ⟨m, by omega, ?_, hm2⟩
        rcases hm5 with ⟨_, _, h⟩ | ⟨h, _, _⟩ <;> omega
    · have hci2 : prs ks j c = -1 := by
        by_cases e : prs ks j c = -1
        · exact e
        · have := prs_later ks j c e n (by omega)
          rcases prs_sym ks j c with h | ⟨m, hm1, hm2, _⟩ <;> omega
      have hm := (stk_iff ks j c).2 ⟨h1, hci, hci2⟩
      cases hs2 : stk ks j with
      | nil => rw [hs2] at hm; cases hm
      | cons d r2 =>
        have hd := stk_lt ks j d (by rw [hs2]; simp)
        have e4 : prs ks (j + 1) j = d := by rw [prs_ret hj hs2]; unfold upd; rw [if_neg (by omega), if_pos rfl]
        have e5 := prs_later ks (j + 1) j (by omega) n (by omega)
        have hsd := stk_sorted ks j
        rw [hs2] at hsd hm
        refine ⟨d, by omega, ?_, by omega⟩
        rcases List.mem_cons.1 hm with e | e
        · exfalso
          subst e
          have e6 : prs ks (j + 1) c = j := by rw [prs_ret hj hs2]; unfold upd; rw [if_pos rfl]
          have := prs_later ks (j + 1) c (by omega) n (by omega)
          omega
        · have := (List.pairwise_cons.1 hsd).1 c e; omega
end Go.Proofs.Ytjeploipaejepaa.Fo
