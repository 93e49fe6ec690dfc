/- Sums, products, whole parts of words, by 'val' and 'rq'. -/
import Derived.Test.YtdpnpfgejfhcgaaRound
set_option linter.unusedVariables false
set_option linter.unusedSimpArgs false
namespace Go.Proofs.Ytdpnpfgejfhcgaa.Fl
open Ieee

theorem word_false (r : Nat) : double.word false r = r := rfl
theorem word_true (r : Nat) : double.word true r = S + r := by unfold Format.word; rw [dbl_sign]; rfl
theorem sgn_small {r : Nat} (h : r < S) : sgn r = false := by unfold sgn; rw [Nat.div_eq_of_lt h]; rfl
theorem rung_small {r : Nat} (h : r < S) : rung r = r := Nat.mod_eq_of_lt h
theorem S_pos : 0 < S := by have := INF_lt_S; omega
theorem sgn_word {n : Bool} {r : Nat} (h : r < S) : sgn (double.word n r) = n := by
  cases n
  · exact sgn_small h
  · rw [word_true]; unfold sgn; rw [Nat.add_div_left _ S_pos, Nat.div_eq_of_lt h]; rfl
theorem rung_word {n : Bool} {r : Nat} (h : r < S) : rung (double.word n r) = r := by
  cases n
  · exact rung_small h
  · rw [word_true]; unfold rung; rw [Nat.add_mod_left, Nat.mod_eq_of_lt h]
theorem word_of (a : Nat) (h : a < 2 * S) : a = double.word (sgn a) (rung a) := by
  by_cases h1 : a < S
  · rw [sgn_small h1, rung_small h1, word_false]
  · have e1 : a / S = 1 := Nat.div_eq_of_lt_le (by omega) (by omega)
    have e2 := Nat.div_add_mod a S
    rw [e1, Nat.mul_one] at e2
    have : sgn a = true := by unfold sgn; rw [e1]; rfl
    rw [this, word_true]; unfold rung; omega
theorem sval_word {n : Bool} {r : Nat} (h : r < S) : sval (double.word n r) = if n then -(val r : Int) else (val r : Int) := by
  unfold sval; rw [sgn_word h, rung_word h]
theorem sval_small {r : Nat} (h : r < S) : sval r = val r := by unfold sval; rw [sgn_small h, rung_small h]; rfl
theorem rq_lt_S (c n : Nat) : rq c n < S := by have := rq_le_INF c n; have := INF_lt_S; omega

theorem write_number (s : Bool) (m : Nat) (p : Int) (c : Nat) (h : -1074 - (c : Int) ≤ p) :
    double.write (.number s m p) = double.word s (rq c (m * 2 ^ (p + 1074 + c).toNat)) := nearest_eq s m p c h

theorem sum_fin {s t : Bool} {m n p q : Nat} :
    (Datum.sum (.number s m (-1074 + (p : Int))) (.number t n (-1074 + (q : Int)))).map double.write =
      some (double.word (if signed s m p + signed t n q = 0 then s && t else decide (signed s m p + signed t n q < 0)) (rq 0 (signed s m p + signed t n q).natAbs)) := by
  unfold Datum.sum
  simp only [Option.map_some]
  refine congrArg some ?_
  have key : ∀ (T : Int) (b : Nat) (U : Int), T * 2 ^ b = U → double.write (.number (if T = 0 then s && t else decide (T < 0)) T.natAbs (-1074 + (b : Int))) = double.word (if U = 0 then s && t else decide (U < 0)) (rq 0 U.natAbs) := by
    intro T b U h
    rw [write_number _ _ _ 0 (by omega)]
    have hp : (0 : Int) < 2 ^ b := Int.pow_pos (by decide)
    have e1 : (U = 0) ↔ (T = 0) := by
      rw [← h]
      constructor
      · intro h'
        rcases Int.mul_eq_zero.1 h' with h' | h'
        · exact h'
        · omega
      · rintro rfl; simp
    have e2 : (U < 0) ↔ (T < 0) := by
      rw [← h]
      constructor
      · intro h'
        by_cases c : T < 0
        · exact c
        · have := Int.mul_nonneg (show (0 : Int) ≤ T by omega) (Int.le_of_lt hp); omega
      · intro h'; exact Int.mul_neg_of_neg_of_pos h' hp
    have e3 : U.natAbs = T.natAbs * 2 ^ ((-1074 + (b : Int)) + 1074 + (0 : Nat)).toNat := by
      have : ((-1074 + (b : Int)) + 1074 + (0 : Nat)).toNat = b := by omega
      rw [this, ← h, Int.natAbs_mul, Int.natAbs_pow]; rfl
    rw [e3]
    simp only [e1, e2]
  by_cases hpq : p ≤ q
  · have eb : min (-1074 + (p : Int)) (-1074 + (q : Int)) = -1074 + (p : Int) := by omega
    rw [eb]
    have t1 : (-1074 + (p : Int) - (-1074 + (p : Int))).toNat = 0 := by omega
    have t2 : (-1074 + (q : Int) - (-1074 + (p : Int))).toNat = q - p := by omega
    rw [t1, t2]
    refine key _ p _ ?_
    rw [Int.add_mul, signed_scale, signed_scale, Nat.zero_add, Nat.sub_add_cancel hpq]
  · have eb : min (-1074 + (p : Int)) (-1074 + (q : Int)) = -1074 + (q : Int) := by omega
    rw [eb]
    have t1 : (-1074 + (p : Int) - (-1074 + (q : Int))).toNat = p - q := by omega
    have t2 : (-1074 + (q : Int) - (-1074 + (q : Int))).toNat = 0 := by omega
    rw [t1, t2]
    refine key _ q _ ?_
    rw [Int.add_mul, signed_scale, signed_scale, Nat.zero_add, Nat.sub_add_cancel (by omega)]

def addW (a b : Nat) : Nat := double.word (if sval a + sval b = 0 then sgn a && sgn b else decide (sval a + sval b < 0)) (rq 0 (sval a + sval b).natAbs)
def subW (a b : Nat) : Nat := double.word (if sval a - sval b = 0 then sgn a && !sgn b else decide (sval a - sval b < 0)) (rq 0 (sval a - sval b).natAbs)
def mulW (a b : Nat) : Nat := double.word (sgn a ^^ sgn b) (rq 1074 (val (rung a) * val (rung b)))

theorem signed_neg (s : Bool) (m u : Nat) : signed (!s) m u = -signed s m u := by unfold signed; cases s <;> simp

theorem add_fin {a b : Nat} (ha : rung a < INF) (hb : rung b < INF) : double.add a b = some (addW a b) := by
  obtain ⟨m, p, e1, h1⟩ := read_fin ha
  obtain ⟨n, q, e2, h2⟩ := read_fin hb
  unfold Format.add addW
  rw [e1, e2, sum_fin, signed_eq _ m p h1, signed_eq _ n q h2]
  rfl
theorem sub_fin {a b : Nat} (ha : rung a < INF) (hb : rung b < INF) : double.sub a b = some (subW a b) := by
  obtain ⟨m, p, e1, h1⟩ := read_fin ha
  obtain ⟨n, q, e2, h2⟩ := read_fin hb
  unfold Format.sub subW
  rw [e1, e2]
  simp only [Datum.opposite]
  rw [sum_fin, signed_neg, signed_eq _ m p h1, signed_eq _ n q h2, ← Int.sub_eq_add_neg]
  rfl
theorem mul_fin {a b : Nat} (ha : rung a < INF) (hb : rung b < INF) : double.mul a b = some (mulW a b) := by
  obtain ⟨m, p, e1, h1⟩ := read_fin ha
  obtain ⟨n, q, e2, h2⟩ := read_fin hb
  unfold Format.mul mulW
  rw [e1, e2]
  simp only [Datum.product, Option.map_some]
  rw [write_number _ _ _ 1074 (by omega), ← h1, ← h2]
  have : (-1074 + (p : Int) + (-1074 + (q : Int)) + 1074 + (1074 : Nat)).toNat = p + q := by omega
  have e3 : m * n * 2 ^ (p + q) = m * 2 ^ p * (n * 2 ^ q) := by
    rw [Nat.pow_add, Nat.mul_assoc, Nat.mul_assoc, Nat.mul_left_comm n]
  rw [this, e3]

/-- of words that are not negative -/
theorem addW_pos {a b : Nat} (ha : a < S) (hb : b < S) : addW a b = rq 0 (val a + val b) := by
  unfold addW
  rw [sval_small ha, sval_small hb, sgn_small ha]
  have : ((val a : Int) + (val b : Int)) = ((val a + val b : Nat) : Int) := by omega
  rw [this, Int.natAbs_natCast]
  have h0 : ¬ (((val a + val b : Nat) : Int) < 0) := by omega
  simp only [h0, Bool.false_and, decide_false, ite_self]
  rw [word_false]
theorem mulW_pos {a b : Nat} (ha : a < S) (hb : b < S) : mulW a b = rq 1074 (val a * val b) := by
  unfold mulW; rw [sgn_small ha, sgn_small hb, rung_small ha, rung_small hb, Bool.xor_self, word_false]

/-- What has at most 53 digits is a word's. -/
theorem rq_repr (c k e : Nat) (hk : k < 2 * B) (he : e ≤ 2000) : val (rq c (k * 2 ^ (c + e))) * 2 ^ c = k * 2 ^ (c + e) := by
  by_cases h0 : k = 0
  · subst h0; rw [Nat.zero_mul]; show val 0 * _ = 0; rw [val_zero, Nat.zero_mul]
  · have hn : k * 2 ^ (c + e) ≠ 0 := Nat.mul_ne_zero h0 (Nat.ne_of_gt (Nat.two_pow_pos _))
    have hl : k.log2 < 53 := by rw [Nat.log2_lt h0, show (2 : Nat) ^ 53 = 2 * B by rw [B_eq]]; exact hk
    have hlog := log2_mul_pow k (c + e) h0
    have hL1 : lastOf c (k * 2 ^ (c + e)) ≤ c + e := by unfold lastOf; rw [hlog]; omega
    have hL2 : c ≤ lastOf c (k * 2 ^ (c + e)) := by unfold lastOf; omega
    have hB1 := @B_le_rhe c (k * 2 ^ (c + e))
    have hB2 := @rhe_le_2B c (k * 2 ^ (c + e))
    unfold rq
    rw [if_neg hn]
    generalize lastOf c (k * 2 ^ (c + e)) = L at *
    have eN : k * 2 ^ (c + e) = (k * 2 ^ (c + e - L)) * 2 ^ L := by rw [Nat.mul_assoc, ← Nat.pow_add, Nat.sub_add_cancel hL1]
    have eK : rhe (k * 2 ^ (c + e)) (2 ^ L) = k * 2 ^ (c + e - L) := by rw [eN, rhe_exact (Nat.two_pow_pos _)]
    rw [eK] at hB1 hB2 ⊢
    have hmin : min ((L - c) * B + k * 2 ^ (c + e - L)) INF = (L - c) * B + k * 2 ^ (c + e - L) := by
      refine Nat.min_eq_left ?_
      have : (L - c) * B ≤ 2000 * B := Nat.mul_le_mul_right _ (by omega)
      have := INF_eq
      generalize (L - c) * B = x at *
      omega
    rw [hmin, val_of _ _ hB2 (by
      by_cases x : L = c
      · left; omega
      · right; exact hB1 (by omega)), Nat.mul_assoc, ← Nat.pow_add, Nat.sub_add_cancel hL2, eN]

/-! ### Whole parts -/
theorem low_min (n d : Nat) : n / 2 ^ min d (n.log2 + 2) = n / 2 ^ d := by
  by_cases hd : d ≤ n.log2 + 2
  · rw [Nat.min_eq_left hd]
  · rw [Nat.min_eq_right (by omega)]
    have hlt : n < 2 ^ (n.log2 + 1) := Nat.lt_log2_self
    have h2 : 2 ^ (n.log2 + 1) ≤ 2 ^ (n.log2 + 2) := Nat.pow_le_pow_right (by decide) (by omega)
    have h3 : 2 ^ (n.log2 + 2) ≤ 2 ^ d := Nat.pow_le_pow_right (by decide) (by omega)
    rw [Nat.div_eq_of_lt (by omega), Nat.div_eq_of_lt (by omega)]
theorem cut_zero (neg : Bool) (n d : Nat) : Toward.zero.cut neg n d = n / 2 ^ d := by
  unfold Toward.cut
  simp only [Nat.shiftLeft_eq, Nat.one_mul, Bool.toNat_false, Nat.add_zero]
  exact low_min n d
theorem cut_down (n d : Nat) : Toward.down.cut false n d = n / 2 ^ d := by
  unfold Toward.cut
  simp only [Nat.shiftLeft_eq, Nat.one_mul, Bool.false_and, Bool.toNat_false, Nat.add_zero]
  exact low_min n d

/-- 1074, behind a name: one is 2^K units of 2^-1074. -/
def K : Nat := 1074
theorem K_eq : K = 1074 := rfl
attribute [irreducible] K
theorem whole_val (m p : Nat) : (m <<< (-1074 + (p : Int)).toNat) / 2 ^ (-(-1074 + (p : Int))).toNat = m * 2 ^ p / 2 ^ K := by
  have hK := K_eq
  rw [Nat.shiftLeft_eq]
  by_cases h : p ≤ K
  · have e1 : (-1074 + (p : Int)).toNat = 0 := by omega
    have e2 : (-(-1074 + (p : Int))).toNat = K - p := by omega
    rw [e1, e2, Nat.pow_zero, Nat.mul_one]
    rw [← Nat.mul_div_mul_right m (2 ^ (K - p)) (Nat.two_pow_pos p), ← Nat.pow_add, Nat.sub_add_cancel h]
  · have e1 : (-1074 + (p : Int)).toNat = p - K := by omega
    have e2 : (-(-1074 + (p : Int))).toNat = 0 := by omega
    rw [e1, e2, Nat.pow_zero, Nat.div_one]
    have : m * 2 ^ p = (m * 2 ^ (p - K)) * 2 ^ K := by rw [Nat.mul_assoc, ← Nat.pow_add, Nat.sub_add_cancel (by omega)]
    rw [this, Nat.mul_div_cancel _ (Nat.two_pow_pos _)]

/-- The whole part of a word that is not negative. -/
def whole (a : Nat) : Nat := val a / 2 ^ K

theorem toInt_pos {a : Nat} (h : a < INF) : (FloatKind.f64.decode a).toInt .zero = some (whole a : Int) := by
  have hS := INF_lt_S
  have hr : rung a = a := rung_small (by omega)
  obtain ⟨m, p, e1, h1⟩ := read_fin (a := a) (by omega)
  show (double.read a).toInt .zero = _
  rw [e1, sgn_small (by omega)]
  unfold Datum.toInt Datum.integral
  simp only []
  rw [cut_zero, whole_val, h1, hr]
  unfold signed whole
  simp
theorem floor_pos {a : Nat} (h : a < INF) : FloatKind.f64.encode ((FloatKind.f64.decode a).integral .down) = rq 0 (whole a * 2 ^ K) := by
  have hS := INF_lt_S
  have hr : rung a = a := rung_small (by omega)
  obtain ⟨m, p, e1, h1⟩ := read_fin (a := a) (by omega)
  show double.write ((double.read a).integral .down) = _
  rw [e1, sgn_small (by omega)]
  unfold Datum.integral
  simp only []
  have e : ((0 : Int) + 1074 + (0 : Nat)).toNat = K := by rw [K_eq]; rfl
  rw [cut_down, whole_val, h1, hr, write_number _ _ _ 0 (by omega), word_false, e]
  unfold whole; rfl
theorem whole_rq {M : Nat} (h : M < 2 * B) : val (rq 0 (M * 2 ^ K)) = M * 2 ^ K := by
  have := rq_repr 0 M K h (by rw [K_eq]; decide)
  simpa using this
theorem whole_floor {M : Nat} (h : M < 2 * B) : whole (rq 0 (M * 2 ^ K)) = M := by
  unfold whole; rw [whole_rq h, Nat.mul_div_cancel _ (Nat.two_pow_pos _)]
end Go.Proofs.Ytdpnpfgejfhcgaa.Fl
