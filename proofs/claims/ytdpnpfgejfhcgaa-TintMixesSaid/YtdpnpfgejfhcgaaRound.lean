/- How an exact number is rounded to a word: monotone, exact where it may be, with its error. -/
import Derived.Test.YtdpnpfgejfhcgaaFloat
set_option linter.unusedVariables false
set_option linter.unusedSimpArgs false
namespace Go.Proofs.Ytdpnpfgejfhcgaa.Fl
open Ieee

/-- n / g, to the nearest, between two the even one. -/
def rhe (n g : Nat) : Nat := n / g + (if g < 2 * (n % g) ∨ (2 * (n % g) = g ∧ n / g % 2 = 1) then 1 else 0)

theorem rhe_mono {m n g : Nat} (hg : 0 < g) (h : m ≤ n) : rhe m g ≤ rhe n g := by
  have hd : m / g ≤ n / g := Nat.div_le_div_right h
  unfold rhe
  by_cases e : m / g = n / g
  · have h1 := Nat.div_add_mod m g
    have h2 := Nat.div_add_mod n g
    rw [e] at h1
    rw [e]
    split <;> split <;> omega
  · split <;> split <;> omega
theorem rhe_scale {n g c : Nat} (hc : 0 < c) : rhe (n * c) (g * c) = rhe n g := by
  unfold rhe
  rw [Nat.mul_div_mul_right _ _ hc, Nat.mul_mod_mul_right]
  have e1 : g * c < 2 * (n % g * c) ↔ g < 2 * (n % g) := by
    rw [← Nat.mul_assoc]; exact Nat.mul_lt_mul_right hc
  have e2 : 2 * (n % g * c) = g * c ↔ 2 * (n % g) = g := by
    rw [← Nat.mul_assoc]
    exact ⟨fun h => Nat.eq_of_mul_eq_mul_right hc h, fun h => by rw [h]⟩
  simp only [e1, e2]
theorem rhe_exact {k g : Nat} (hg : 0 < g) : rhe (k * g) g = k := by
  unfold rhe
  rw [Nat.mul_div_cancel _ hg, Nat.mul_mod_left]
  rw [if_neg (by omega)]; rfl
theorem rhe_err (n g : Nat) (hg : 0 < g) : 2 * (rhe n g * g) ≤ 2 * n + g ∧ 2 * n ≤ 2 * (rhe n g * g) + g := by
  have h := Nat.div_add_mod n g
  have hm := Nat.mod_lt n hg
  unfold rhe
  rw [Nat.add_mul, Nat.mul_comm (n / g) g]
  generalize g * (n / g) = t at *
  split
  · rw [Nat.one_mul]; omega
  · rw [Nat.zero_mul]; omega

theorem cut_even (neg : Bool) (n d : Nat) : Toward.even.cut neg n d = rhe n (2 ^ d) := by
  unfold Toward.cut
  simp only [Nat.shiftLeft_eq, Nat.one_mul]
  by_cases h : d ≤ n.log2 + 2
  · rw [Nat.min_eq_left h]
    unfold rhe
    congr 1
    by_cases c : 2 ^ d < 2 * (n % 2 ^ d) ∨ (2 * (n % 2 ^ d) = 2 ^ d ∧ n / 2 ^ d % 2 = 1)
    · rw [if_pos c]
      rcases c with c | ⟨c, c'⟩
      · simp [c]
      · simp [c, c']
    · rw [if_neg c]
      have c1 : ¬ 2 ^ d < 2 * (n % 2 ^ d) := fun x => c (.inl x)
      have c2 : ¬ (2 ^ d = 2 * (n % 2 ^ d) ∧ n / 2 ^ d % 2 = 1) := fun x => c (.inr ⟨x.1.symm, x.2⟩)
      have : (decide (2 ^ d < 2 * (n % 2 ^ d)) || (2 ^ d == 2 * (n % 2 ^ d) && n / 2 ^ d % 2 == 1)) = false := by
        simp only [Bool.or_eq_false_iff, decide_eq_false_iff_not, Bool.and_eq_false_iff]
        refine ⟨c1, ?_⟩
        by_cases x : 2 ^ d = 2 * (n % 2 ^ d)
        · right
          have : ¬ n / 2 ^ d % 2 = 1 := fun y => c2 ⟨x, y⟩
          simpa using this
        · left; simpa using x
      rw [this]; rfl
  · have hd : n.log2 + 2 ≤ d := by omega
    rw [Nat.min_eq_right hd]
    have hlt : n < 2 ^ (n.log2 + 1) := Nat.lt_log2_self
    have h2 : 2 ^ (n.log2 + 2) = 2 * 2 ^ (n.log2 + 1) := by rw [Nat.pow_succ]; omega
    have h3 : 2 ^ (n.log2 + 2) ≤ 2 ^ d := Nat.pow_le_pow_right (by decide) hd
    have a1 : n / 2 ^ (n.log2 + 2) = 0 := Nat.div_eq_of_lt (by omega)
    have a2 : n % 2 ^ (n.log2 + 2) = n := Nat.mod_eq_of_lt (by omega)
    have a3 : n / 2 ^ d = 0 := Nat.div_eq_of_lt (by omega)
    have a4 : n % 2 ^ d = n := Nat.mod_eq_of_lt (by omega)
    unfold rhe
    rw [a1, a2, a3, a4, if_neg (by omega)]
    have : ¬ 2 ^ (n.log2 + 2) < 2 * n := by omega
    simp [this]

/-- The place of the last digit that is kept, in units of 2^(-1074 - c). -/
def lastOf (c n : Nat) : Nat := max (n.log2 - 52) c
/-- The rung nearest to n * 2^(-1074 - c). -/
def rq (c n : Nat) : Nat := if n = 0 then 0 else min ((lastOf c n - c) * B + rhe n (2 ^ lastOf c n)) INF

theorem log2_mul_pow (m k : Nat) (hm : m ≠ 0) : (m * 2 ^ k).log2 = m.log2 + k := by
  rw [Nat.log2_eq_iff (Nat.mul_ne_zero hm (Nat.ne_of_gt (Nat.two_pow_pos k)))]
  have h1 := Nat.log2_self_le hm
  have h2 : m < 2 ^ (m.log2 + 1) := Nat.lt_log2_self
  constructor
  · rw [Nat.pow_add]; exact Nat.mul_le_mul_right _ h1
  · rw [show m.log2 + k + 1 = (m.log2 + 1) + k by omega, Nat.pow_add]
    exact (Nat.mul_lt_mul_right (Nat.two_pow_pos k)).2 h2

/-- 'nearest' is 'rq', whatever the unit, if it is fine enough. -/
theorem nearest_eq (neg : Bool) (m : Nat) (p : Int) (c : Nat) (h : -1074 - (c : Int) ≤ p) :
    double.nearest neg m p = double.word neg (rq c (m * 2 ^ (p + 1074 + c).toNat)) := by
  unfold Format.nearest
  by_cases hm : m = 0
  · subst hm; simp [rq]
  · rw [if_neg hm]
    have hN : m * 2 ^ (p + 1074 + c).toNat ≠ 0 := Nat.mul_ne_zero hm (Nat.ne_of_gt (Nat.two_pow_pos _))
    simp only [dbl_binade, dbl_inf, dbl_least, cut_even, show double.fractionBits = 52 from rfl]
    refine congrArg (double.word neg) ?_
    unfold rq
    rw [if_neg hN]
    refine congrArg (fun x => min x INF) ?_
    obtain ⟨u, hu⟩ : ∃ u : Nat, p = (u : Int) - 1074 - c := ⟨(p + 1074 + c).toNat, by omega⟩
    subst hu
    have e1 : ((u : Int) - 1074 - c + 1074 + c).toNat = u := by omega
    rw [e1]
    have hl : lastOf c (m * 2 ^ u) = max (m.log2 + u - 52) c := by unfold lastOf; rw [log2_mul_pow _ _ hm]
    rw [hl]
    generalize hL : max (m.log2 + u - 52) c = L
    have eL : max ((u : Int) - 1074 - c + (m.log2 : Nat) - (52 : Nat)) (-1074) = (L : Int) - 1074 - c := by omega
    rw [eL]
    have e0 : ((L : Int) - 1074 - c - -1074).toNat = L - c := by omega
    rw [e0]
    refine congrArg (fun x => (L - c) * B + x) ?_
    · have e2 : ((u : Int) - 1074 - c - ((L : Int) - 1074 - c)).toNat = u - L := by omega
      have e3 : ((L : Int) - 1074 - c - ((u : Int) - 1074 - c)).toNat = L - u := by omega
      rw [e2, e3, Nat.shiftLeft_eq]
      by_cases hul : u ≤ L
      · rw [show u - L = 0 by omega, Nat.pow_zero, Nat.mul_one]
        rw [← rhe_scale (c := 2 ^ u) (Nat.two_pow_pos u), ← Nat.pow_add, show L - u + u = L by omega]
      · rw [show L - u = 0 by omega, Nat.pow_zero]
        rw [← rhe_scale (c := 2 ^ L) (Nat.two_pow_pos L), Nat.one_mul, Nat.mul_assoc, ← Nat.pow_add, show u - L + L = u by omega]

theorem rhe_le_2B {c n : Nat} : rhe n (2 ^ lastOf c n) ≤ 2 * B := by
  have h : n < 2 ^ (n.log2 + 1) := Nat.lt_log2_self
  have hl : n.log2 + 1 ≤ lastOf c n + 53 := by unfold lastOf; omega
  have h2 : 2 ^ (n.log2 + 1) ≤ 2 ^ (lastOf c n + 53) := Nat.pow_le_pow_right (by decide) hl
  have h3 : n ≤ (2 * B) * 2 ^ lastOf c n := by
    have e : (2 * B) * 2 ^ lastOf c n = 2 ^ (lastOf c n + 53) := by
      rw [B_eq, ← Nat.pow_succ', ← Nat.pow_add]; congr 1; omega
    omega
  have := rhe_mono (Nat.two_pow_pos (lastOf c n)) h3
  rwa [rhe_exact (Nat.two_pow_pos _)] at this
theorem B_le_rhe {c n : Nat} (h : c < lastOf c n) : B ≤ rhe n (2 ^ lastOf c n) := by
  have hl : n.log2 = lastOf c n + 52 := by unfold lastOf at *; omega
  have hn : n ≠ 0 := by rintro rfl; simp [Nat.log2_zero] at hl
  have h1 := Nat.log2_self_le hn
  have h3 : B * 2 ^ lastOf c n ≤ n := by
    rw [B_eq, ← Nat.pow_add, Nat.add_comm, ← hl]; exact h1
  have := rhe_mono (Nat.two_pow_pos (lastOf c n)) h3
  rwa [rhe_exact (Nat.two_pow_pos _)] at this

theorem step_up {a b b0 r s : Nat} (h : a + 1 ≤ b) (h1 : r ≤ 2 * b0) (h2 : b0 ≤ s) : a * b0 + r ≤ b * b0 + s := by
  have h3 : (a + 1) * b0 ≤ b * b0 := Nat.mul_le_mul_right _ h
  rw [Nat.add_mul, Nat.one_mul] at h3
  generalize a * b0 = x at *
  generalize b * b0 = y at *
  omega
theorem min_mono {x y z : Nat} (h : x ≤ y) : min x z ≤ min y z := by omega
theorem split_rung {r b0 e : Nat} (h : r / b0 = e + 1) : r = e * b0 + (b0 + r % b0) := by
  have hr := Nat.div_add_mod r b0
  rw [h, Nat.mul_add, Nat.mul_one, Nat.mul_comm] at hr
  generalize e * b0 = x at *
  omega
/-- ROUNDING IS MONOTONE. -/
theorem rq_mono (c : Nat) {m n : Nat} (h : m ≤ n) : rq c m ≤ rq c n := by
  unfold rq
  by_cases hm : m = 0
  · rw [if_pos hm]; exact Nat.zero_le _
  · have hn : n ≠ 0 := by omega
    rw [if_neg hm, if_neg hn]
    have hlog : m.log2 ≤ n.log2 := by
      rw [Nat.le_log2 hn]
      exact Nat.le_trans (Nat.log2_self_le hm) h
    have hL : lastOf c m ≤ lastOf c n := by unfold lastOf; omega
    have key : (lastOf c m - c) * B + rhe m (2 ^ lastOf c m) ≤ (lastOf c n - c) * B + rhe n (2 ^ lastOf c n) := by
      by_cases e : lastOf c m = lastOf c n
      · rw [e]
        exact Nat.add_le_add_left (rhe_mono (Nat.two_pow_pos _) h) _
      · have h1 := @rhe_le_2B c m
        have hc : c ≤ lastOf c m := by unfold lastOf; omega
        have h2 := @B_le_rhe c n (by omega)
        exact step_up (by omega) h1 h2
    exact min_mono key

theorem val_of (e k : Nat) (h2 : k ≤ 2 * B) (h1 : e = 0 ∨ B ≤ k) : val (e * B + k) = k * 2 ^ e := by
  have hB := B_pos
  unfold val
  by_cases hk : k < B
  · have he : e = 0 := by omega
    subst he
    rw [if_pos (by omega)]; simp
  · rw [if_neg (by have := Nat.zero_le (e * B); omega)]
    by_cases hk2 : k = 2 * B
    · subst hk2
      have e1 : e * B + 2 * B = (e + 2) * B := by rw [Nat.add_mul]
      rw [e1, Nat.mul_mod_left, Nat.mul_div_cancel _ hB, show e + 2 - 1 = e + 1 by omega, Nat.pow_succ]
      rw [Nat.add_zero, Nat.mul_comm 2 B, Nat.mul_assoc, Nat.mul_comm 2]
    · obtain ⟨f, rfl⟩ : ∃ f, k = B + f := ⟨k - B, by omega⟩
      have hf : f < B := by omega
      have e1 : e * B + (B + f) = f + B * (e + 1) := by rw [Nat.mul_add, Nat.mul_comm e]; omega
      rw [e1, Nat.add_mul_mod_self_left, Nat.mod_eq_of_lt hf, Nat.add_mul_div_left _ _ hB, Nat.div_eq_of_lt hf]
      congr 2; omega

/-- A NUMBER THAT IS A WORD's IS ROUNDED TO THAT WORD. -/
theorem rq_val (c r : Nat) (h : r ≤ INF) : rq c (val r * 2 ^ c) = r := by
  have hB := B_pos
  by_cases h0 : r = 0
  · subst h0; rw [val_zero, Nat.zero_mul]; rfl
  · have hv : val r ≠ 0 := by
      intro e
      have := val_lt (r := 0) (s := r) (by omega)
      rw [val_zero] at this; omega
    have hn : val r * 2 ^ c ≠ 0 := Nat.mul_ne_zero hv (Nat.ne_of_gt (Nat.two_pow_pos _))
    unfold rq
    rw [if_neg hn]
    have hlog : (val r * 2 ^ c).log2 = (val r).log2 + c := log2_mul_pow _ _ hv
    by_cases hb : r < B
    · have ev : val r = r := by unfold val; rw [if_pos hb]
      rw [ev] at *
      have hl : r.log2 < 52 := by rw [Nat.log2_lt h0, ← B_eq]; exact hb
      have hl' : (r * 2 ^ c).log2 = r.log2 + c := log2_mul_pow _ _ h0
      have : lastOf c (r * 2 ^ c) = c := by unfold lastOf; rw [hl']; omega
      rw [this, rhe_exact (Nat.two_pow_pos _), Nat.sub_self, Nat.zero_mul]
      omega
    · have hq : 1 ≤ r / B := (Nat.one_le_div_iff hB).2 (by omega)
      obtain ⟨e, he⟩ : ∃ e, r / B = e + 1 := ⟨r / B - 1, by omega⟩
      have hf := Nat.mod_lt r hB
      have hr := Nat.div_add_mod r B
      have ev : val r = (B + r % B) * 2 ^ e := by unfold val; rw [if_neg hb, he]; rfl
      have hk0 : B + r % B ≠ 0 := by omega
      have hl1 : (B + r % B).log2 = 52 := by
        rw [Nat.log2_eq_iff hk0, ← B_eq, show (2 : Nat) ^ (52 + 1) = 2 * B by rw [B_eq]]
        omega
      have hl2 : (val r * 2 ^ c).log2 = 52 + e + c := by rw [hlog, ev, log2_mul_pow _ _ hk0, hl1]
      have : lastOf c (val r * 2 ^ c) = e + c := by unfold lastOf; omega
      rw [this, ev, Nat.mul_assoc, ← Nat.pow_add, rhe_exact (Nat.two_pow_pos _), Nat.add_sub_cancel]
      rw [← split_rung he]
      exact Nat.min_eq_left h

theorem rq_le_INF (c n : Nat) : rq c n ≤ INF := by unfold rq; split; exact Nat.zero_le _; exact Nat.min_le_right _ _

/-- THE ERROR: at most half of the last digit's unit. -/
theorem rq_err (c n : Nat) (h : rq c n < INF) :
    2 * (val (rq c n) * 2 ^ c) ≤ 2 * n + 2 ^ lastOf c n ∧ 2 * n ≤ 2 * (val (rq c n) * 2 ^ c) + 2 ^ lastOf c n := by
  by_cases hn : n = 0
  · subst hn
    have : rq c 0 = 0 := rfl
    rw [this, val_zero]; simp
  · have hrq : rq c n = (lastOf c n - c) * B + rhe n (2 ^ lastOf c n) := by
      unfold rq at *; rw [if_neg hn] at *; omega
    have hc : c ≤ lastOf c n := by unfold lastOf; omega
    rw [hrq, val_of _ _ rhe_le_2B (by
      by_cases e : lastOf c n = c
      · left; omega
      · right; exact B_le_rhe (by omega)), Nat.mul_assoc, ← Nat.pow_add, show lastOf c n - c + c = lastOf c n by omega]
    exact rhe_err n _ (Nat.two_pow_pos _)
end Go.Proofs.Ytdpnpfgejfhcgaa.Fl
