/- Nested words one behind another. No Go in sight. -/
import Derived.Test.YtjeploipaejepaaForestMath2
set_option linter.unusedVariables false
set_option linter.unusedSimpArgs false
namespace Go.Proofs.Ytjeploipaejepaa.Fo

/-- no Return stands where nothing is open -/
def calm (ks : List Int) (n : Nat) : Prop := ∀ j, j < n → ks.getD j 0 = 2 → 0 < (stk ks j).length
theorem lost_iff (ks : List Int) (n j : Nat) (hj : j < n) (hk : ks.getD j 0 = 2) : prs ks n j = -1 ↔ stk ks j = [] := by
  rw [prs_return ks j (by omega) n hj]
  cases hs : stk ks j with
  | nil => rw [prs_lost hk hs, prs_out ks j j (Nat.le_refl _)]; simp
  | cons c r =>
    rw [prs_ret hk hs]
    unfold upd
    have hc := stk_lt ks j c (by rw [hs]; simp)
    rw [if_neg (by omega), if_pos rfl]
    constructor
    · intro h; omega
    · intro h; cases h
theorem alo_lost (ks : List Int) (n : Nat) : alo ks 2 n n = [] ↔ calm ks n := by
  constructor
  · intro h j hj hk
    cases hs : stk ks j with
    | nil =>
      have : j ∈ alo ks 2 n n := (alo_mem _ _ _ _ _).2 ⟨hj, (lost_iff ks n j hj hk).2 hs, hk⟩
      rw [h] at this; cases this
    | cons c r => simp
  · intro h
    cases e : alo ks 2 n n with
    | nil => rfl
    | cons x r =>
      obtain ⟨a, b, c⟩ := (alo_mem _ _ _ _ x).1 (by rw [e]; simp)
      have := h x a c
      rw [(lost_iff ks n x a c).1 b] at this
      simp at this

theorem getD_append_left {a b : List Int} {j : Nat} (h : j < a.length) : (a ++ b).getD j 0 = a.getD j 0 := by
  simp [List.getD, List.getElem?_append_left h]
theorem getD_append_right {a b : List Int} (j : Nat) : (a ++ b).getD (a.length + j) 0 = b.getD j 0 := by
  simp [List.getD, List.getElem?_append_right (show a.length ≤ a.length + j by omega)]

/-- a word behind another one: its calls lie upon those of the first one, as long as it loses none of its Returns -/
theorem stk_upon (a b : List Int) (n : Nat) (hc : calm b n) : ∀ i, i ≤ n → stk (a ++ b) (a.length + i) = (stk b i).map (a.length + ·) ++ stk a a.length
  | 0, _ => by
    simp only [Nat.add_zero, stk, List.map_nil, List.nil_append]
    exact (fo_congr a.length fun j hj => getD_append_left hj).1
  | i + 1, h => by
    have ih := stk_upon a b n hc i (by omega)
    have e : (a ++ b).getD (a.length + i) 0 = b.getD i 0 := getD_append_right i
    rw [← Nat.add_assoc]
    by_cases h1 : b.getD i 0 = 1
    · rw [stk_call (by rw [e]; exact h1), stk_call h1, ih]; simp
    · by_cases h2 : b.getD i 0 = 2
      · rw [stk_ret (by rw [e]; exact h2), stk_ret h2, ih]
        have hp := hc i (by omega) h2
        cases hs : stk b i with
        | nil => rw [hs] at hp; simp at hp
        | cons c r => simp
      · rw [stk_int (by rw [e]; exact h1) (by rw [e]; exact h2), stk_int h1 h2, ih]
theorem len_upon (a b : List Int) (n : Nat) (hc : calm b n) (i : Nat) (hi : i ≤ n) : (stk (a ++ b) (a.length + i)).length = (stk b i).length + (stk a a.length).length := by
  rw [stk_upon a b n hc i hi]; simp
theorem dp_front (a b : List Int) (i : Nat) (hi : i ≤ a.length) : dp (a ++ b) i = dp a i := dp_congr i fun j hj => getD_append_left (by omega)
theorem dp_ge (ks : List Int) : ∀ i, (stk ks i).length ≤ dp ks i
  | 0 => Nat.le_refl _
  | i + 1 => by simp only [dp]; omega
theorem dp_upon (a b : List Int) (n : Nat) (hc : calm b n) : ∀ i, i ≤ n → dp (a ++ b) (a.length + i) = max (dp a a.length) (dp b i + (stk a a.length).length)
  | 0, _ => by
    have := dp_ge a a.length
    rw [Nat.add_zero, dp_front a b _ (Nat.le_refl _)]; simp only [dp]; omega
  | i + 1, h => by
    have ih := dp_upon a b n hc i (by omega)
    have e := len_upon a b n hc (i + 1) h
    rw [← Nat.add_assoc] at e ⊢
    simp only [dp]
    rw [ih, e]
    omega
theorem calm_front (a b : List Int) (n : Nat) (h : calm a a.length) (hb : calm b n) : calm (a ++ b) (a.length + n) := by
  intro j hj hk
  by_cases hja : j < a.length
  · rw [getD_append_left hja] at hk
    rw [(fo_congr (ks := a ++ b) (ls := a) j fun i hi => getD_append_left (by omega)).1]
    exact h j hja hk
  · obtain ⟨i, rfl⟩ : ∃ i, j = a.length + i := ⟨j - a.length, by omega⟩
    rw [getD_append_right] at hk
    rw [len_upon a b n hb i (by omega)]
    have := hb i (by omega) hk
    omega
end Go.Proofs.Ytjeploipaejepaa.Fo
