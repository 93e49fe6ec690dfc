/- What scroll's functions answer, over the words' values: places of lines, windows, bars; division and its error. -/
import Derived.Test.YtnggfdjohejfgaaTintMath2
set_option linter.unusedVariables false
set_option linter.unusedSimpArgs false
namespace Go.Proofs.Ytnggfdjohejfgaa.Fl
open Ieee

/-- a whole number as a word -/
def fint (n : Nat) : Nat := rq 0 (n * 2 ^ K)
theorem fint_eq (n : Nat) : FloatKind.f64.nearest (n : Int) = fint n := by
  unfold FloatKind.nearest FloatKind.encode
  show double.write (.number (decide ((n : Int) < 0)) (n : Int).natAbs 0) = _
  have h : decide ((n : Int) < 0) = false := by simp
  have e : ((0 : Int) + 1074 + (0 : Nat)).toNat = K := by rw [K_eq]; rfl
  rw [h, Int.natAbs_natCast, write_number _ _ _ 0 (by omega), word_false, e]
  rfl
theorem val_fint {n : Nat} (h : n < 2 * B) : val (fint n) = n * 2 ^ K := whole_rq h
theorem fint_mono {m n : Nat} (h : m ≤ n) : fint m ≤ fint n := rq_mono 0 (Nat.mul_le_mul_right _ h)
theorem fint_lt {n : Nat} (h : n < 2 * B) : fint n < INF := by
  have h1 := rq_le_INF 0 (n * 2 ^ K)
  have h2 := val_fint h
  by_cases e : fint n = INF
  · exfalso
    rw [e] at h2
    have h3 : val INF = 4503599627370496 * 2 ^ 2046 := by unfold val; rw [INF_num, B_num]; decide +kernel
    rw [h3] at h2
    have h4 : n * 2 ^ K < 2 * B * 2 ^ K := (Nat.mul_lt_mul_right (Nat.two_pow_pos K)).2 h
    rw [B_num, K_eq] at h4
    rw [K_eq] at h2
    rw [← h2] at h4
    revert h4
    decide +kernel
  · have : fint n ≤ INF := h1
    omega
theorem fint_zero : fint 0 = 0 := by unfold fint; rw [Nat.zero_mul]; rfl

/-- the line at f of the way to n -/
def tnear (f n : Nat) : Nat := whole (addW (mulW (tpart f) (fint n)) HALF)
theorem val_HALF' : val HALF = 2 ^ (K - 1) := by
  have h := val_HALF
  have : 2 ^ K = 2 * 2 ^ (K - 1) := by rw [← Nat.pow_succ', show (K - 1).succ = K by have := K_eq; omega]
  omega
theorem pow_K : 2 ^ K = 2 * 2 ^ (K - 1) := by rw [← Nat.pow_succ', show (K - 1).succ = K by have := K_eq; omega]
/-- n + 1/2 -/
theorem val_half {n : Nat} (h : 2 * n + 1 < 2 * B) : val (rq 0 (n * 2 ^ K + 2 ^ (K - 1))) = n * 2 ^ K + 2 ^ (K - 1) := by
  have e : n * 2 ^ K + 2 ^ (K - 1) = (2 * n + 1) * 2 ^ (0 + (K - 1)) := by
    rw [pow_K, Nat.zero_add, Nat.add_mul, Nat.one_mul, ← Nat.mul_assoc, Nat.mul_comm n 2]
  rw [e]
  have := rq_repr 0 (2 * n + 1) (K - 1) h (by rw [K_eq]; decide)
  rwa [Nat.pow_zero, Nat.mul_one] at this
theorem whole_half {n : Nat} (h : 2 * n + 1 < 2 * B) : whole (rq 0 (n * 2 ^ K + 2 ^ (K - 1))) = n := by
  unfold whole
  rw [val_half h, Nat.add_comm, Nat.add_mul_div_right _ _ (Nat.two_pow_pos K), Nat.div_eq_of_lt, Nat.zero_add]
  rw [pow_K]
  have := Nat.two_pow_pos (K - 1)
  omega
theorem half_lt {n : Nat} (h : 2 * n + 1 < 2 * B) : rq 0 (n * 2 ^ K + 2 ^ (K - 1)) < INF := by
  have h1 := fint_lt (n := n + 1) (by omega)
  have h2 := rq_mono 0 (show n * 2 ^ K + 2 ^ (K - 1) ≤ (n + 1) * 2 ^ K by rw [Nat.add_mul, Nat.one_mul, pow_K]; omega)
  unfold fint at h1
  omega
theorem near_mul {f n : Nat} (hf : f < 2 * S) (hn : n < 2 * B) : mulW (tpart f) (fint n) ≤ fint n := one_mul_le (Nat.le_of_lt (fint_lt hn)) (tpart_le f hf)
theorem near_add {f n : Nat} (hf : f < 2 * S) (hn : 2 * n + 1 < 2 * B) : addW (mulW (tpart f) (fint n)) HALF ≤ rq 0 (n * 2 ^ K + 2 ^ (K - 1)) := by
  have h1 := near_mul hf (show n < 2 * B by omega)
  have h2 := fint_lt (show n < 2 * B by omega)
  have hS := INF_lt_S
  have hH := HALF_lt
  rw [addW_pos (by omega) (by omega), ← val_HALF', ← val_fint (show n < 2 * B by omega)]
  exact rq_mono 0 (Nat.add_le_add_right (val_le h1) _)
theorem near_fin {f n : Nat} (hf : f < 2 * S) (hn : 2 * n + 1 < 2 * B) : addW (mulW (tpart f) (fint n)) HALF < INF := by
  have := near_add hf hn
  have := half_lt hn
  omega
theorem near_le {f n : Nat} (hf : f < 2 * S) (hn : 2 * n + 1 < 2 * B) : tnear f n ≤ n := by
  have := whole_le (near_add hf hn)
  rwa [whole_half hn] at this
theorem near_zero {f n : Nat} (h : tpart f = 0) (hn : n < 2 * B) : tnear f n = 0 := by
  have h2 := fint_lt hn
  have hS := INF_lt_S
  have hH := HALF_lt
  unfold tnear
  rw [h, mulW_pos (by omega) (by omega), val_zero, Nat.zero_mul]
  have e : rq 1074 0 = 0 := rfl
  rw [e, addW_pos (by omega) (by omega), val_zero, Nat.zero_add]
  have := rq_val 0 HALF (by omega)
  rw [Nat.pow_zero, Nat.mul_one] at this
  rw [this]
  unfold whole
  refine Nat.div_eq_of_lt ?_
  rw [val_HALF', pow_K]
  have := Nat.two_pow_pos (K - 1)
  omega
theorem near_one {f n : Nat} (h : tpart f = ONE) (hn : 2 * n + 1 < 2 * B) : tnear f n = n := by
  have h2 := fint_lt (show n < 2 * B by omega)
  have hS := INF_lt_S
  have hH := HALF_lt
  have hO := ONE_lt
  unfold tnear
  rw [h, mulW_pos (by omega) (by omega), val_ONE, Nat.mul_comm]
  have := rq_val 1074 (fint n) (by omega)
  rw [K_eq, this, addW_pos (by omega) (by omega), val_HALF', val_fint (by omega), whole_half hn]
theorem near_mono {f g n : Nat} (hf : ¬ INF < rung f) (hg : ¬ INF < rung g) (lf : f < 2 * S) (lg : g < 2 * S) (h : sval f ≤ sval g) (hn : 2 * n + 1 < 2 * B) (hp : tpart f ≤ tpart g) : tnear f n ≤ tnear g n := by
  have h2 := fint_lt (show n < 2 * B by omega)
  have hS := INF_lt_S
  have hH := HALF_lt
  have b1 := near_mul lf (show n < 2 * B by omega)
  have b2 := near_mul lg (show n < 2 * B by omega)
  have p1 := tpart_lt f lf
  have p2 := tpart_lt g lg
  unfold tnear
  refine whole_le ?_
  rw [addW_pos (by omega) (by omega), addW_pos (by omega) (by omega)]
  refine rq_mono 0 (Nat.add_le_add_right (val_le ?_) _)
  rw [mulW_pos (by omega) (by omega), mulW_pos (by omega) (by omega)]
  exact rq_mono _ (Nat.mul_le_mul_right _ (val_le hp))

/-! ### Division -/
theorem div_some {a b : Nat} (ha : a < INF) (hb : b < INF) (h0 : b ≠ 0) : ∃ m p n q : Nat, val a = m * 2 ^ p ∧ val b = n * 2 ^ q ∧ n ≠ 0 ∧ double.div a b = some (double.write (.number false (2 * ((m <<< (54 + n.log2 - m.log2)) / n) + ((m <<< (54 + n.log2 - m.log2)) % n != 0).toNat) ((p : Int) - q - (54 + n.log2 - m.log2 : Nat) - 1))) := by
  have hS := INF_lt_S
  obtain ⟨m, p, e1, h1⟩ := read_fin (a := a) (by rw [rung_small (by omega)]; exact ha)
  obtain ⟨n, q, e2, h2⟩ := read_fin (a := b) (by rw [rung_small (by omega)]; exact hb)
  rw [rung_small (by omega)] at h1 h2
  rw [sgn_small (by omega)] at e1 e2
  have hn : n ≠ 0 := by
    rintro rfl
    rw [Nat.zero_mul] at h2
    have := val_lt (show 0 < b by omega)
    rw [val_zero] at this
    omega
  refine ⟨m, p, n, q, h1.symm, h2.symm, hn, ?_⟩
  unfold Format.div
  rw [e1, e2]
  unfold Datum.quotient
  simp only [hn, if_false, Option.map_some, Bool.xor_self, show double.fractionBits + 2 = 54 from rfl]
  congr 3
  omega
def divW (a b : Nat) : Nat := (double.div a b).getD 0
theorem div_fin {a b : Nat} (ha : a < INF) (hb : b < INF) (h0 : b ≠ 0) : double.div a b = some (divW a b) := by
  obtain ⟨m, p, n, q, _, _, _, h⟩ := div_some ha hb h0
  unfold divW
  rw [h]; rfl
end Go.Proofs.Ytnggfdjohejfgaa.Fl
