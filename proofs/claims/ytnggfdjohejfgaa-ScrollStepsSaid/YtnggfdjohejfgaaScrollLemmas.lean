/- Scroll: each line's place leads back to it; a bar lies within; steps of 64ths are exact. -/
import Derived.Test.YtnggfdjohejfgaaScrollDiv
set_option linter.unusedVariables false
set_option linter.unusedSimpArgs false
namespace Go.Proofs.Ytnggfdjohejfgaa.Fl
open Ieee

theorem pow_split (a b : Nat) (h : b ≤ a) : 2 ^ a = 2 ^ (a - b) * 2 ^ b := by rw [← Nat.pow_add, Nat.sub_add_cancel h]
theorem div_self {n : Nat} (h1 : 1 ≤ n) (hn : n < 2 * B) : divW (fint n) (fint n) = ONE := by
  have hK := K_eq
  have hS := INF_lt_S
  have hf := fint_lt hn
  have hv := val_fint hn
  obtain ⟨m, p, e1, h2⟩ := read_fin (a := fint n) (by rw [rung_small (by omega)]; exact hf)
  rw [rung_small (by omega), hv] at h2
  rw [sgn_small (by omega)] at e1
  have hm : m ≠ 0 := by
    rintro rfl
    rw [Nat.zero_mul] at h2
    have := Nat.mul_pos h1 (Nat.two_pow_pos K)
    omega
  unfold divW Format.div
  rw [e1]
  unfold Datum.quotient
  simp only [hm, if_false, Option.map_some, Bool.xor_self, show double.fractionBits + 2 = 54 from rfl, Option.getD_some]
  have e2 : 54 + m.log2 - m.log2 = 54 := by omega
  have e3 : m <<< 54 / m = 2 ^ 54 := by rw [Nat.shiftLeft_eq]; exact Nat.mul_div_cancel_left _ (by omega)
  have e4 : (m <<< 54 % m != 0).toNat = 0 := by rw [Nat.shiftLeft_eq, Nat.mul_mod_right]; rfl
  rw [e2, e3, e4]
  have e5 : (-1074 + (p : Int) - (-1074 + (p : Int)) - ((54 : Nat) : Int) - 1) = -55 := by omega
  rw [e5, write_number _ _ _ 0 (by omega), word_false]
  have e7 : ((-55 : Int) + 1074 + ((0 : Nat) : Int)).toNat = K - 55 := by omega
  have e8 : 55 + (K - 55) = K := by omega
  have e6 : (2 * 2 ^ 54 + 0) * 2 ^ (K - 55) = val ONE * 2 ^ 0 := by
    rw [val_ONE, Nat.pow_zero, Nat.mul_one, show (2 * 2 ^ 54 + 0 : Nat) = 2 ^ 55 from rfl, ← Nat.pow_add, e8]
  rw [e7, e6, rq_val 0 ONE (Nat.le_of_lt ONE_lt)]

theorem lastOf_le {c n m : Nat} (h : n.log2 < m) : lastOf c n ≤ max (m - 53) c := by unfold lastOf; omega
theorem exps1 : max (2 * K + 18 - 53) K ≤ K - 36 + K + 1 := by have := K_eq; omega
theorem exps2 : K ≤ K - 36 + K + 1 := by have := K_eq; omega
theorem place_le {k L : Nat} (hk : k ≤ L) (h1 : 1 ≤ L) (hL : L < 2097152) : divW (fint k) (fint L) ≤ ONE := by
  have hB := B_num
  by_cases e : k = L
  · subst e; exact Nat.le_of_eq (div_self h1 (by omega))
  · have h := (div_err hk h1 (by omega)).2.1
    have hK := K_eq
    have h2 : val (divW (fint k) (fint L)) * L < val ONE * L := by
      rw [val_ONE]
      refine Nat.lt_of_le_of_lt h ?_
      have h3 : L * 2 ^ (K - 52) < 2 ^ K := by
        rw [pow_split K (K - 52) (by omega)]
        refine (Nat.mul_lt_mul_right (Nat.two_pow_pos _)).2 ?_
        rw [show K - (K - 52) = 52 by omega]
        exact Nat.lt_trans hL (by decide)
      have h4 : (k + 1) * 2 ^ K ≤ L * 2 ^ K := Nat.mul_le_mul_right _ (by omega)
      rw [Nat.add_mul, Nat.one_mul] at h4
      rw [Nat.mul_comm (2 ^ K) L]
      omega
    have h5 := Nat.lt_of_mul_lt_mul_right h2
    exact Nat.le_of_lt (val_lt_iff.1 h5)

/-- EACH LINE's PLACE LEADS TO IT. -/
theorem back {k L : Nat} (hk : k ≤ L) (h1 : 1 ≤ L) (hL : L < 131072) (hp : tpart (divW (fint k) (fint L)) = divW (fint k) (fint L)) : tnear (divW (fint k) (fint L)) L = k := by
  have hB := B_num
  have hK := K_eq
  have hS := INF_lt_S
  have hO := ONE_lt
  have hH := HALF_lt
  have hpl := place_le hk h1 (by omega)
  obtain ⟨hfin, hu, hl⟩ := div_err hk h1 (show L < 2 * B by omega)
  have hfL := fint_lt (show L < 2 * B by omega)
  unfold tnear
  rw [hp]
  generalize divW (fint k) (fint L) = p at *
  have hmul := one_mul_le (q := fint L) (Nat.le_of_lt hfL) hpl
  have hM : mulW p (fint L) = rq K (val p * L * 2 ^ K) := by
    rw [mulW_pos (by omega) (by omega), val_fint (by omega), ← Nat.mul_assoc, K_eq]
  rw [addW_pos (by omega) (by omega)]
  have hMlt : rq K (val p * L * 2 ^ K) < INF := by rw [← hM]; omega
  have herr := rq_err K _ hMlt
  rw [← hM] at herr
  generalize mulW p (fint L) = M at *
  -- the rounding of the product
  have hN : val p * L * 2 ^ K < 2 ^ (2 * K + 18) := by
    have a1 : val p * L ≤ 2 ^ K * 131072 := by
      have := val_le hpl
      rw [val_ONE] at this
      exact Nat.mul_le_mul this (by omega)
    have a2 := Nat.mul_le_mul_right (2 ^ K) a1
    have a3 : 2 ^ K * 131072 * 2 ^ K = 2 ^ (2 * K + 17) := by
      rw [show (131072 : Nat) = 2 ^ 17 from rfl, ← Nat.pow_add, ← Nat.pow_add]; congr 1; omega
    have a4 : 2 ^ (2 * K + 17) < 2 ^ (2 * K + 18) := Nat.pow_lt_pow_right (by decide) (by omega)
    omega
  have hlast : 2 ^ lastOf K (val p * L * 2 ^ K) ≤ 2 * (2 ^ (K - 36) * 2 ^ K) := by
    rw [← Nat.pow_add, ← Nat.pow_succ']
    refine Nat.pow_le_pow_right (by decide) ?_
    by_cases z : val p * L * 2 ^ K = 0
    · rw [z]; refine Nat.le_trans ?_ exps2; unfold lastOf; rw [Nat.log2_zero]; exact Nat.le_of_eq (Nat.max_eq_right (Nat.zero_le _))
    · exact Nat.le_trans (lastOf_le ((Nat.log2_lt z).2 hN)) exps1
  have u1 : val M ≤ val p * L + 2 ^ (K - 36) := by
    refine Nat.le_of_mul_le_mul_right ?_ (Nat.two_pow_pos K)
    rw [Nat.add_mul]; omega
  have l1 : val p * L ≤ val M + 2 ^ (K - 36) := by
    refine Nat.le_of_mul_le_mul_right ?_ (Nat.two_pow_pos K)
    rw [Nat.add_mul]; omega
  have hLs : L * 2 ^ (K - 52) ≤ 2 ^ (K - 35) := by
    rw [pow_split (K - 35) (K - 52) (by omega), show K - 35 - (K - 52) = 17 by omega]
    exact Nat.mul_le_mul_right _ (by omega)
  have p1 : 2 ^ (K - 36) ≤ 2 ^ (K - 3) := Nat.pow_le_pow_right (by decide) (by omega)
  have p2 : 2 ^ (K - 35) ≤ 2 ^ (K - 3) := Nat.pow_le_pow_right (by decide) (by omega)
  have p3 : 2 ^ (K - 1) = 4 * 2 ^ (K - 3) := by rw [pow_split (K - 1) (K - 3) (by omega), show K - 1 - (K - 3) = 2 by omega]
  have p4 : 2 ^ (K - 2) = 2 * 2 ^ (K - 3) := by rw [pow_split (K - 2) (K - 3) (by omega), show K - 2 - (K - 3) = 1 by omega]
  have p5 : 2 ^ K = 8 * 2 ^ (K - 3) := by rw [pow_split K (K - 3) (by omega), show K - (K - 3) = 3 by omega]
  rw [val_HALF']
  have lo : fint k ≤ rq 0 (val M + 2 ^ (K - 1)) := by
    refine rq_mono 0 ?_
    omega
  have hi : rq 0 (val M + 2 ^ (K - 1)) ≤ rq 0 ((4 * k + 3) * 2 ^ (0 + (K - 2))) := by
    refine rq_mono 0 ?_
    rw [Nat.zero_add, Nat.add_mul]
    have : 4 * k * 2 ^ (K - 2) = k * 2 ^ K := by
      rw [p4, p5]; simp only [Nat.mul_assoc, Nat.mul_left_comm, Nat.mul_comm]
      rw [show (8 : Nat) = 4 * 2 from rfl]; simp only [Nat.mul_assoc, Nat.mul_left_comm, Nat.mul_comm]
    omega
  have w1 := whole_le lo
  have w2 := whole_le hi
  have e1 : whole (fint k) = k := whole_floor (by omega)
  have e2 : whole (rq 0 ((4 * k + 3) * 2 ^ (0 + (K - 2)))) = k := by
    have := rq_repr 0 (4 * k + 3) (K - 2) (by omega) (by omega)
    rw [Nat.pow_zero, Nat.mul_one] at this
    unfold whole
    rw [this, Nat.zero_add, pow_split K (K - 2) (by omega), show K - (K - 2) = 2 by omega, Nat.mul_comm (2 ^ 2), Nat.mul_comm (4 * k + 3), Nat.mul_div_mul_left _ _ (Nat.two_pow_pos _)]
    omega
  omega

/-! ### Bars -/
theorem bar_len {r n : Nat} (hr : 1 ≤ r) (hrn : r < n) (hn : n < 131072) : divW (fint r) (fint n) < ONE ∧ 0 < divW (fint r) (fint n) := by
  have hB := B_num
  have hK := K_eq
  obtain ⟨_, hu, hl⟩ := div_err (show r ≤ n by omega) (by omega) (show n < 2 * B by omega)
  generalize divW (fint r) (fint n) = l at *
  have h3 : n * 2 ^ (K - 52) < 2 ^ K := by
    rw [pow_split K (K - 52) (by omega)]
    refine (Nat.mul_lt_mul_right (Nat.two_pow_pos _)).2 ?_
    rw [show K - (K - 52) = 52 by omega]
    exact Nat.lt_trans hn (by decide)
  constructor
  · have h4 : (r + 1) * 2 ^ K ≤ n * 2 ^ K := Nat.mul_le_mul_right _ (by omega)
    rw [Nat.add_mul, Nat.one_mul] at h4
    have h2 : val l * n < val ONE * n := by
      rw [val_ONE, Nat.mul_comm (2 ^ K) n]; omega
    exact val_lt_iff.1 (Nat.lt_of_mul_lt_mul_right h2)
  · have h4 : 1 * 2 ^ K ≤ r * 2 ^ K := Nat.mul_le_mul_right _ hr
    have h5 : 0 < val l * n := by omega
    have : val l ≠ 0 := by intro e; rw [e, Nat.zero_mul] at h5; omega
    rcases Nat.eq_zero_or_pos l with e | e
    · subst e; exact absurd val_zero this
    · exact e
theorem sub_one {l : Nat} (hl : l ≤ ONE) : subW ONE l = rq 0 (val ONE - val l) := by
  have hS := INF_lt_S
  have hO := ONE_lt
  have hv := val_le hl
  unfold subW
  rw [sval_small (by omega), sval_small (by omega), sgn_small (show ONE < S by omega)]
  have e : ((val ONE : Int) - (val l : Int)).natAbs = val ONE - val l := by omega
  rw [e]
  by_cases z : (val ONE : Int) - (val l : Int) = 0
  · rw [if_pos z, Bool.false_and, word_false]
  · rw [if_neg z]
    have : ¬ ((val ONE : Int) - (val l : Int) < 0) := by omega
    simp only [this, decide_false]
    rw [word_false]
theorem bar_sum {f l : Nat} (hf : f < 2 * S) (hl : l < ONE) (h0 : 0 < l) : mulW (tpart f) (subW ONE l) ≤ ONE ∧ addW (mulW (tpart f) (subW ONE l)) l ≤ ONE + 1 := by
  have hK := K_eq
  have hS := INF_lt_S
  have hO := ONE_lt
  have hv := val_lt hl
  have hv0 := val_lt h0
  rw [val_zero] at hv0
  rw [val_ONE] at hv
  rw [sub_one (by omega), val_ONE]
  have hq : rq 0 (2 ^ K - val l) ≤ ONE := by
    refine rq_le (by omega) ?_
    rw [val_ONE, Nat.pow_zero, Nat.mul_one]; omega
  have herr := (rq_err 0 (2 ^ K - val l) (by omega)).1
  rw [Nat.pow_zero, Nat.mul_one] at herr
  generalize hQ : rq 0 (2 ^ K - val l) = q at *
  have hp := one_mul_le (q := q) (by omega) (tpart_le f hf)
  have hlast : 2 ^ lastOf 0 (2 ^ K - val l) ≤ 2 ^ (K - 52) := by
    refine Nat.pow_le_pow_right (by decide) ?_
    by_cases z : 2 ^ K - val l = 0
    · rw [z]; unfold lastOf; rw [Nat.log2_zero]; omega
    · have := (Nat.log2_lt z).2 (show 2 ^ K - val l < 2 ^ K by omega)
      unfold lastOf; omega
  refine ⟨by omega, ?_⟩
  have hv1 : val (ONE + 1) = 2 ^ K + 2 ^ (K - 52) := by
    rw [K_eq]; unfold val; rw [B_num]; decide +kernel
  rw [addW_pos (by omega) (by omega)]
  refine rq_le (by omega) ?_
  rw [Nat.pow_zero, Nat.mul_one, hv1]
  have := val_le hp
  have := Nat.two_pow_pos (K - 52)
  omega

/-! ### Steps of 64ths -/
def q64 (a : Nat) : Nat := rq 0 (a * 2 ^ (K - 6))
theorem val_q64 {a : Nat} (h : a ≤ 64) : val (q64 a) = a * 2 ^ (K - 6) := by
  have := rq_repr 0 a (K - 6) (by rw [B_num]; omega) (by rw [K_eq]; decide)
  rw [Nat.pow_zero, Nat.mul_one, Nat.zero_add] at this
  exact this
theorem q64_le {a : Nat} (h : a ≤ 64) : q64 a ≤ ONE := by
  refine val_le_iff.1 ?_
  have hK := K_eq
  rw [val_q64 h, val_ONE, pow_split K (K - 6) (by omega), show K - (K - 6) = 6 by omega]
  exact Nat.mul_le_mul_right _ h
theorem q64_div : ∀ a : Nat, a < 65 → (double.div (FloatKind.f64.nearest (a : Int)) 4634204016564240384).isSome = true ∧ (double.div (FloatKind.f64.nearest (a : Int)) 4634204016564240384).getD 0 = q64 a := by decide +kernel
theorem abs_diff (a b x : Nat) : (((b * x : Nat) : Int) - ((a * x : Nat) : Int)).natAbs = (if a ≤ b then b - a else a - b) * x := by
  split
  · rename_i h
    rw [Nat.sub_mul]
    have := Nat.mul_le_mul_right x h
    generalize b * x = p at *
    generalize a * x = q at *
    omega
  · rename_i h
    rw [Nat.sub_mul]
    have := Nat.mul_le_mul_right x (show b ≤ a by omega)
    generalize b * x = p at *
    generalize a * x = q at *
    omega
theorem q64_abs (a b : Nat) (ha : a ≤ 64) (hb : b ≤ 64) : (val (rq 0 ((val (q64 b) : Int) - val (q64 a)).natAbs) : Int) = ((val (q64 b) : Int) - val (q64 a)).natAbs := by
  rw [val_q64 ha, val_q64 hb, abs_diff]
  have h := val_q64 (a := if a ≤ b then b - a else a - b) (by split <;> omega)
  unfold q64 at h
  rw [h]
theorem sign_abs (z : Int) (v : Nat) (s : Bool) (hv : (v : Int) = z.natAbs) : (if (if z = 0 then s else decide (z < 0)) = true then -(v : Int) else (v : Int)) = z := by
  by_cases h : z = 0
  · subst h
    have : v = 0 := by simpa using hv
    subst this; simp
  · rw [if_neg h]
    by_cases y : z < 0
    · simp only [y, decide_true, if_true]; omega
    · simp only [y, decide_false, Bool.false_eq_true, if_false]; omega
/-- the sum of a 64th and a step that is the difference of two -/
theorem q64_sub (a b : Nat) (ha : a ≤ 64) (hb : b ≤ 64) : sval (subW (q64 b) (q64 a)) = (val (q64 b) : Int) - val (q64 a) ∧ rung (subW (q64 b) (q64 a)) ≤ ONE := by
  have hS := INF_lt_S
  have hO := ONE_lt
  have h1 := q64_le ha
  have h2 := q64_le hb
  refine ⟨?_, rung_sub h2 h1⟩
  have hv := q64_abs a b ha hb
  unfold subW
  rw [sval_small (r := q64 b) (by omega), sval_small (r := q64 a) (by omega), sval_word (rq_lt_S _ _)]
  exact sign_abs _ _ _ hv
theorem addW_exact {x y z : Nat} (hx : x ≤ ONE) (hz : z ≤ ONE) (hs : sval x + sval y = val z) : addW x y = z := by
  have hS := INF_lt_S
  have hO := ONE_lt
  unfold addW
  rw [hs]
  have e : ((val z : Nat) : Int).natAbs = val z := Int.natAbs_natCast _
  rw [e, sgn_small (show x < S by omega)]
  have h0 : ¬ ((val z : Int) < 0) := by omega
  simp only [h0, Bool.false_and, decide_false, ite_self]
  rw [word_false]
  have := rq_val 0 z (by omega)
  rwa [Nat.pow_zero, Nat.mul_one] at this
end Go.Proofs.Ytnggfdjohejfgaa.Fl
