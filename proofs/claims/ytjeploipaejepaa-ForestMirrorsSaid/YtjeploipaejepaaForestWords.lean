/- Words that are made up: so many calls and returns. No program's numbers but the slices' of symbols. -/
import Derived.Test.YtjeploipaejepaaForestWell
set_option linter.unusedVariables false
set_option linter.unusedSimpArgs false
namespace Go.Proofs.Ytjeploipaejepaa
open Go.RowKit Fo

/-- the word of n symbols whose kinds are f 0, f 1, .. -/
def wF (f : Nat → Int) (n : Nat) : List (Int × Int) := (List.range n).map fun j => ((0 : Int), f j)
theorem wF_len (f : Nat → Int) (n : Nat) : (wF f n).length = n := by simp [wF]
theorem wF_succ (f : Nat → Int) (n : Nat) : wF f (n + 1) = wF f n ++ [(0, f n)] := by simp [wF, List.range_succ]
theorem wF_flat (f : Nat → Int) (n : Nat) : flat (wF f (n + 1)) = flat (wF f n) ++ [.int .i64 0, .int .i64 (f n)] := by rw [wF_succ]; simp [flat]
theorem wF_kns (f : Nat → Int) (n j : Nat) (hj : j < n) : (kns (wF f n)).getD j 0 = f j := by simp [kns, wF, List.getD, hj]

/-- how many are open -/
def sl (f : Nat → Int) : Nat → Nat
  | 0 => 0
  | i + 1 => if f i = 1 then sl f i + 1 else if f i = 2 then sl f i - 1 else sl f i
theorem sl_stk (f : Nat → Int) (n : Nat) : ∀ i, i ≤ n → (stk (kns (wF f n)) i).length = sl f i
  | 0, _ => rfl
  | i + 1, h => by
    have ih := sl_stk f n i (by omega)
    have e := wF_kns f n i (by omega)
    simp only [stk, sl, e]
    by_cases h1 : f i = 1
    · rw [if_pos h1, if_pos h1, List.length_cons, ih]
    · rw [if_neg h1, if_neg h1]
      by_cases h2 : f i = 2
      · rw [if_pos h2, if_pos h2, List.length_tail, ih]
      · rw [if_neg h2, if_neg h2, ih]
/-- a Return is lost where nothing is open -/
theorem lost_of (ks : List Int) (n j : Nat) (hj : j < n) (hk : ks.getD j 0 = 2) (h : prs ks n j = -1) : stk ks j = [] := by
  rw [prs_return ks j (by omega) n hj] at h
  cases hs : stk ks j with
  | nil => rfl
  | cons c r =>
    rw [prs_ret hk hs] at h
    unfold upd at h
    have hc := stk_lt ks j c (by rw [hs]; simp)
    rw [if_neg (by omega), if_pos rfl] at h
    omega
theorem well_of (f : Nat → Int) (n : Nat) (h1 : sl f n = 0) (h2 : ∀ j, j < n → f j = 2 → 0 < sl f j) : wellB (wF f n) = true := by
  have e1 : (alone (wF f n) 1).length = 0 := by
    rw [alone_len, wF_len, alo_open, List.length_reverse, sl_stk f n n (Nat.le_refl _)]; exact h1
  have e2 : alo (kns (wF f n)) 2 n n = [] := by
    cases e : alo (kns (wF f n)) 2 n n with
    | nil => rfl
    | cons x r =>
      obtain ⟨a, b, c⟩ := (alo_mem _ _ _ _ x).1 (by rw [e]; simp)
      have hs := lost_of _ n x a c b
      have hl := sl_stk f n x (by omega)
      rw [hs] at hl
      have := h2 x a (by rw [← wF_kns f n x a]; exact c)
      simp at hl
      omega
  unfold wellB
  rw [e1, alone_len, wF_len, e2]
  rfl
def dpf (f : Nat → Int) : Nat → Nat
  | 0 => 0
  | i + 1 => max (dpf f i) (sl f (i + 1))
theorem dpf_dp (f : Nat → Int) (n : Nat) : ∀ i, i ≤ n → dp (kns (wF f n)) i = dpf f i
  | 0, _ => rfl
  | i + 1, h => by simp only [dp, dpf]; rw [dpf_dp f n i (by omega), sl_stk f n (i + 1) h]

/-- call, return, call, return .. -/
def fS (j : Nat) : Int := if j % 2 = 0 then 1 else 2
theorem slS : ∀ i, sl fS i = i % 2
  | 0 => rfl
  | i + 1 => by
    simp only [sl, slS i, fS]
    rcases Nat.mod_two_eq_zero_or_one i with h | h <;> simp [h] <;> omega
theorem dpS : ∀ i, dpf fS i = min i 1
  | 0 => rfl
  | i + 1 => by simp only [dpf, dpS i, slS]; omega
theorem wellS (k : Nat) : wellB (wF fS (2 * k)) = true := well_of fS _ (by rw [slS]; omega) (fun j _ hj => by
  rw [slS]; unfold fS at hj
  by_cases h : j % 2 = 0
  · rw [if_pos h] at hj; omega
  · omega)
theorem deepS (k : Nat) : dp (kns (wF fS (2 * k))) (2 * k) = min k 1 := by rw [dpf_dp fS _ _ (Nat.le_refl _), dpS]; omega
/-- k calls, then returns -/
def fN (k j : Nat) : Int := if j < k then 1 else 2
theorem slN (k : Nat) : ∀ i, sl (fN k) i = if i ≤ k then i else 2 * k - i
  | 0 => by simp [sl]
  | i + 1 => by
    simp only [sl, slN k i, fN]
    by_cases h : i < k
    · simp [h, show i ≤ k by omega, show i + 1 ≤ k by omega]
    · rw [if_neg h, if_neg (by omega), if_pos rfl, if_neg (show ¬ i + 1 ≤ k by omega)]
      by_cases h2 : i ≤ k
      · rw [if_pos h2]; omega
      · rw [if_neg h2]; omega
theorem dpN (k : Nat) : ∀ i, dpf (fN k) i = min i k
  | 0 => by simp [dpf]
  | i + 1 => by
    simp only [dpf, dpN k i, slN]
    by_cases h : i + 1 ≤ k
    · rw [if_pos h]; omega
    · rw [if_neg h]; omega
theorem wellN (k : Nat) : wellB (wF (fN k) (k + k)) = true := well_of (fN k) _ (by rw [slN]; split <;> omega) (fun j hj h => by
  rw [slN]; unfold fN at h
  by_cases h1 : j < k
  · rw [if_pos h1] at h; omega
  · split <;> omega)
theorem deepN (k : Nat) : dp (kns (wF (fN k) (k + k))) (k + k) = k := by rw [dpf_dp (fN k) _ _ (Nat.le_refl _), dpN]; omega
end Go.Proofs.Ytjeploipaejepaa
