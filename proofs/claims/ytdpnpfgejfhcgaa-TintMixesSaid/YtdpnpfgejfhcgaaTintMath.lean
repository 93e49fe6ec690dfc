/- Parts, bytes and lights of colours, over the words' values; the tests as the walk spells them. -/
import Derived.Test.YtdpnpfgejfhcgaaArith
set_option linter.unusedVariables false
set_option linter.unusedSimpArgs false
namespace Go.Proofs.Ytdpnpfgejfhcgaa.Fl
open Ieee

def ONE : Nat := 4607182418800017408
def HALF : Nat := 4602678819172646912
def C255 : Nat := 4643176031446892544
theorem INF_num : INF = 9218868437227405312 := by unfold INF; rfl
theorem S_num : S = 9223372036854775808 := by unfold S; rfl
theorem B_num : B = 4503599627370496 := by unfold B; rfl
theorem val_ONE : val ONE = 2 ^ K := by rw [K_eq]; unfold val; rw [B_num]; decide +kernel
theorem val_HALF : 2 * val HALF = 2 ^ K := by rw [K_eq]; unfold val; rw [B_num]; decide +kernel
theorem val_C255 : val C255 = 255 * 2 ^ K := by rw [K_eq]; unfold val; rw [B_num]; decide +kernel
theorem ONE_lt : ONE < INF := by rw [INF_num]; decide
theorem HALF_lt : HALF < INF := by rw [INF_num]; decide
theorem C255_lt : C255 < INF := by rw [INF_num]; decide

def tpart (a : Nat) : Nat := if INF < rung a then 0 else if (val ONE : Int) ≤ sval a then ONE else if 0 < sval a then a else 0

abbrev ford (a b : Nat) : Option Ordering := FloatKind.f64.format.order a b

theorem ford_eq {a b : Nat} (ha : ¬ INF < rung a) (hb : ¬ INF < rung b) : ford a b = some (compare (sval a) (sval b)) := order_eq ha hb
theorem ford_nanl {a b : Nat} (h : INF < rung a) : ford a b = none := order_nan_left h
theorem ford_nanr {a b : Nat} (h : INF < rung b) : ford a b = none := order_nan_right h

theorem small_ok {r : Nat} (h : r ≤ INF) : ¬ INF < rung r := by rw [rung_small (by have := INF_lt_S; omega)]; omega
theorem small_sval {r : Nat} (h : r ≤ INF) : sval r = val r := sval_small (by have := INF_lt_S; omega)

theorem isgt {x y : Int} : (some (compare x y) == some Ordering.gt) = decide (y < x) := by
  by_cases h : y < x
  · rw [cmp_gt h]; simp [h]
  · by_cases e : x = y
    · rw [cmp_eq e]; simp [h]
    · rw [cmp_lt (by omega)]; simp [h]
theorem islt {x y : Int} : (some (compare x y) == some Ordering.lt) = decide (x < y) := by
  by_cases h : x < y
  · rw [cmp_lt h]; simp [h]
  · by_cases e : x = y
    · rw [cmp_eq e]; simp [h]
    · rw [cmp_gt (by omega)]; simp [h]
theorem iseq {x y : Int} : (some (compare x y) == some Ordering.eq) = decide (x = y) := by
  by_cases e : x = y
  · rw [cmp_eq e]; simp [e]
  · by_cases h : x < y
    · rw [cmp_lt h]; simp [e]
    · rw [cmp_gt (by omega)]; simp [e]

theorem tpart_le (a : Nat) (h : a < 2 * S) : tpart a ≤ ONE := by
  unfold tpart
  by_cases h1 : INF < rung a
  · rw [if_pos h1]; exact Nat.zero_le _
  · rw [if_neg h1]
    by_cases h2 : (val ONE : Int) ≤ sval a
    · rw [if_pos h2]; exact Nat.le_refl _
    · rw [if_neg h2]
      by_cases h3 : 0 < sval a
      · rw [if_pos h3]
        have hs : sgn a = false := by
          cases e : sgn a
          · rfl
          · unfold sval at h3; rw [e] at h3; simp at h3; omega
        have hw := word_of a h
        rw [hs, word_false] at hw
        have hsv : sval a = val (rung a) := by unfold sval; rw [hs]; rfl
        rw [hsv] at h2
        have : val (rung a) < val ONE := by omega
        have := val_lt_iff.1 this
        omega
      · rw [if_neg h3]; exact Nat.zero_le _
theorem tpart_lt (a : Nat) (h : a < 2 * S) : tpart a < INF := by have := tpart_le a h; have := ONE_lt; omega
theorem tpart_nan {a : Nat} (h : INF < rung a) : tpart a = 0 := by unfold tpart; rw [if_pos h]
theorem tpart_one {a : Nat} (h : ¬ INF < rung a) (h2 : (val ONE : Int) ≤ sval a) : tpart a = ONE := by unfold tpart; rw [if_neg h, if_pos h2]
theorem tpart_mid {a : Nat} (h : ¬ INF < rung a) (h2 : ¬ (val ONE : Int) ≤ sval a) (h3 : 0 < sval a) : tpart a = a := by unfold tpart; rw [if_neg h, if_neg h2, if_pos h3]
theorem tpart_nought {a : Nat} (h : ¬ INF < rung a) (h3 : ¬ 0 < sval a) : tpart a = 0 := by
  have h1 := val_lt (r := 0) (s := ONE) (by decide)
  rw [val_zero] at h1
  unfold tpart; rw [if_neg h, if_neg (by omega), if_neg h3]

/-- the opposite of a word -/
def opp (a : Nat) : Nat := a ^^^ 2 ^ 63
theorem xor_top {a : Nat} (h : a < 2 ^ 63) : a ^^^ 2 ^ 63 = 2 ^ 63 + a := by
  apply Nat.eq_of_testBit_eq
  intro i
  rw [Nat.testBit_xor, Nat.testBit_two_pow]
  by_cases e : i = 63
  · subst e
    rw [Nat.testBit_two_pow_add_eq]; first | done | simp
  · by_cases l : i < 63
    · rw [Nat.testBit_two_pow_add_gt l]; simp [Ne.symm e]
    · have h1 : (2 : Nat) ^ 63 + a < 2 ^ i := by
        have : (2 : Nat) ^ 64 ≤ 2 ^ i := Nat.pow_le_pow_right (by decide) (by omega)
        omega
      have h2 : a < 2 ^ i := by omega
      rw [Nat.testBit_lt_two_pow h1, Nat.testBit_lt_two_pow h2]; simp [Ne.symm e]
theorem S_pow : S = 2 ^ 63 := by rw [S_num]
theorem opp_word {n : Bool} {r : Nat} (h : r < S) : opp (double.word n r) = double.word (!n) r := by
  unfold opp
  cases n
  · rw [word_false, xor_top (by rw [← S_pow]; exact h), ← S_pow]; first | done | exact (word_true r).symm
  · rw [word_true]
    have := xor_top (a := r) (by rw [← S_pow]; exact h)
    rw [S_pow, ← this, Nat.xor_assoc, Nat.xor_self, Nat.xor_zero]; first | done | rfl
theorem rung_lt (a : Nat) : rung a < S := Nat.mod_lt a S_pos
theorem opp_opp {a : Nat} (h : a < 2 * S) : sval (opp a) = -sval a ∧ rung (opp a) = rung a := by
  have hw := word_of a h
  have e : opp a = double.word (!sgn a) (rung a) := by
    have h1 := opp_word (n := sgn a) (r := rung a) (rung_lt a)
    rw [← hw] at h1
    exact h1
  rw [e]
  constructor
  · rw [sval_word (rung_lt a)]
    unfold sval
    cases sgn a <;> simp
  · exact rung_word (rung_lt a)
end Go.Proofs.Ytdpnpfgejfhcgaa.Fl
