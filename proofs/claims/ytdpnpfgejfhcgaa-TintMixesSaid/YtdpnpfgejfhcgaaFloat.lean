/- The double format in plain natural numbers: what a word stands for, how words are ordered, how a number is rounded (monotone, exact where it may be, with its error). No Go in sight. -/
import Derived.Laws.FloatArith
set_option linter.unusedVariables false
set_option linter.unusedSimpArgs false
namespace Go.Proofs.Ytdpnpfgejfhcgaa.Fl
open Ieee

def B : Nat := 4503599627370496
def INF : Nat := 9218868437227405312
def S : Nat := 9223372036854775808
theorem B_eq : B = 2 ^ 52 := by decide +kernel
theorem INF_eq : INF = 2047 * B := by decide +kernel
theorem S_eq : S = 2048 * B := by decide +kernel
theorem B_pos : 0 < B := by decide +kernel
theorem B_lt_INF : B < INF := by decide +kernel
theorem INF_lt_S : INF < S := by decide +kernel
theorem INF_pos : 0 < INF := by decide +kernel

def sgn (a : Nat) : Bool := a / S % 2 == 1
def rung (a : Nat) : Nat := a % S

/-- What a rung stands for, in units of 2^-1074. -/
def val (r : Nat) : Nat := if r < B then r else (B + r % B) * 2 ^ (r / B - 1)
def sval (a : Nat) : Int := if sgn a then -(val (rung a) : Int) else (val (rung a) : Int)

theorem dbl_binade : double.binade = B := by decide +kernel
theorem dbl_inf : double.infRung = INF := by decide +kernel
theorem dbl_sign : double.signWeight = S := by decide +kernel
theorem dbl_least : double.leastPlace = -1074 := by decide +kernel

theorem read_eq (a : Nat) : double.read a =
    if rung a < B then .number (sgn a) (rung a) (-1074)
    else if rung a < INF then .number (sgn a) (B + rung a % B) (-1074 + (rung a / B - 1 : Nat))
    else if rung a = INF then .infinity (sgn a)
    else .nan (sgn a) (rung a - INF) := by
  unfold Format.read
  simp only [dbl_binade, dbl_inf, dbl_sign, dbl_least]
  rfl

attribute [irreducible] B INF S
theorem val_succ (r : Nat) : val r < val (r + 1) := by
  have hB := B_pos
  unfold val
  by_cases h1 : r + 1 < B
  · rw [if_pos (by omega), if_pos h1]; omega
  · rw [if_neg h1]
    by_cases h2 : r < B
    · have e : r + 1 = B := by omega
      rw [if_pos h2, e]
      simp only [Nat.mod_self, Nat.div_self hB, Nat.sub_self, Nat.pow_zero]
      omega
    · rw [if_neg h2]
      have hdm := Nat.div_add_mod r B
      have hml := Nat.mod_lt r hB
      have hdm' := Nat.div_add_mod (r + 1) B
      by_cases h3 : r % B + 1 = B
      · have eq : r + 1 = B * (r / B + 1) := by rw [Nat.mul_add]; omega
        have e1 : (r + 1) / B = r / B + 1 := by rw [eq, Nat.mul_div_cancel_left _ hB]
        have e2 : (r + 1) % B = 0 := by rw [eq, Nat.mul_mod_right]
        have hq : 1 ≤ r / B := (Nat.one_le_div_iff hB).2 (by omega)
        rw [e1, e2]
        obtain ⟨q, hq'⟩ : ∃ q, r / B = q + 1 := ⟨r / B - 1, by omega⟩
        rw [hq']
        simp only [Nat.add_sub_cancel, Nat.add_zero]
        rw [Nat.pow_succ]
        have hp : 0 < 2 ^ q := Nat.two_pow_pos q
        have : B + r % B < B * 2 := by omega
        calc (B + r % B) * 2 ^ q < (B * 2) * 2 ^ q := (Nat.mul_lt_mul_right hp).2 this
          _ = B * (2 ^ q * 2) := by rw [Nat.mul_assoc, Nat.mul_comm 2]
      · have e1 : (r + 1) / B = r / B := by
          rw [Nat.div_eq_of_lt_le]
          · rw [Nat.mul_comm]; omega
          · rw [Nat.mul_comm, Nat.mul_add]; omega
        have e2 : (r + 1) % B = r % B + 1 := by rw [e1] at hdm'; omega
        rw [e1, e2]
        exact (Nat.mul_lt_mul_right (Nat.two_pow_pos _)).2 (by omega)

theorem val_lt {r s : Nat} (h : r < s) : val r < val s := by
  induction s with
  | zero => omega
  | succ n ih =>
    by_cases e : r = n
    · subst e; exact val_succ r
    · exact Nat.lt_trans (ih (by omega)) (val_succ n)
theorem val_le {r s : Nat} (h : r ≤ s) : val r ≤ val s := by
  rcases Nat.lt_or_eq_of_le h with h | rfl
  · exact Nat.le_of_lt (val_lt h)
  · exact Nat.le_refl _
theorem val_lt_iff {r s : Nat} : val r < val s ↔ r < s :=
  ⟨fun h => Nat.lt_of_not_le fun k => by have := val_le k; omega, val_lt⟩
theorem val_le_iff {r s : Nat} : val r ≤ val s ↔ r ≤ s :=
  ⟨fun h => Nat.le_of_not_lt fun k => by have := val_lt k; omega, val_le⟩
theorem val_inj {r s : Nat} (h : val r = val s) : r = s := Nat.le_antisymm (val_le_iff.1 (by omega)) (val_le_iff.1 (by omega))
theorem val_zero : val 0 = 0 := by unfold val; rw [if_pos B_pos]

/-! ### The order -/
def isNaN (a : Nat) : Bool := decide (INF < rung a)

theorem compare_scale (x y : Int) (k : Int) (hk : 0 < k) : compare (x * k) (y * k) = compare x y := by
  simp only [compare, compareOfLessAndEq]
  have h1 : x * k < y * k ↔ x < y := by
    constructor
    · intro h; exact Int.lt_of_mul_lt_mul_right h (Int.le_of_lt hk)
    · intro h; exact Int.mul_lt_mul_of_pos_right h hk
  have h2 : x * k = y * k ↔ x = y := by
    constructor
    · intro h; exact Int.eq_of_mul_eq_mul_right (by omega) h
    · rintro rfl; rfl
  simp only [h1, h2]

/-- A finite word: its sign, its magnitude, its place. -/
theorem read_fin {a : Nat} (h : rung a < INF) : ∃ m p : Nat, double.read a = .number (sgn a) m (-1074 + (p : Int)) ∧ m * 2 ^ p = val (rung a) := by
  rw [read_eq]
  by_cases hb : rung a < B
  · exact ⟨rung a, 0, by rw [if_pos hb]; rfl, by unfold val; rw [if_pos hb]; simp⟩
  · exact ⟨B + rung a % B, rung a / B - 1, by rw [if_neg hb, if_pos h], by unfold val; rw [if_neg hb]⟩

theorem signed_scale (s : Bool) (m u v : Nat) : signed s m u * ((2 : Int) ^ v) = signed s m (u + v) := by
  unfold signed
  have e : ((m <<< (u + v) : Nat) : Int) = ((m <<< u : Nat) : Int) * 2 ^ v := by
    rw [Nat.shiftLeft_eq, Nat.shiftLeft_eq, Nat.pow_add, ← Nat.mul_assoc]
    push_cast
    rfl
  cases s
  · simp [e]
  · simp [e, Int.neg_mul]

theorem signed_eq (s : Bool) (m p : Nat) {v : Nat} (h : m * 2 ^ p = v) : signed s m p = if s then -(v : Int) else (v : Int) := by
  unfold signed
  rw [Nat.shiftLeft_eq, h]

theorem read_inf {a : Nat} (h : rung a = INF) : double.read a = .infinity (sgn a) := by
  have := B_lt_INF
  rw [read_eq, if_neg (by omega), if_neg (by omega), if_pos h]
theorem read_nan {a : Nat} (h : INF < rung a) : double.read a = .nan (sgn a) (rung a - INF) := by
  have := B_lt_INF
  rw [read_eq, if_neg (by omega), if_neg (by omega), if_neg (by omega)]

theorem order_fin {a b : Nat} (ha : rung a < INF) (hb : rung b < INF) : double.order a b = some (compare (sval a) (sval b)) := by
  obtain ⟨m, p, e1, h1⟩ := read_fin ha
  obtain ⟨n, q, e2, h2⟩ := read_fin hb
  unfold Format.order
  rw [e1, e2]
  simp only [Datum.order]
  refine congrArg some ?_
  have hs1 := signed_eq (sgn a) m p h1
  have hs2 := signed_eq (sgn b) n q h2
  unfold sval
  rw [← hs1, ← hs2]
  by_cases hpq : p ≤ q
  · have eb : min (-1074 + (p : Int)) (-1074 + (q : Int)) = -1074 + (p : Int) := by omega
    rw [eb]
    have t1 : (-1074 + (p : Int) - (-1074 + (p : Int))).toNat = 0 := by omega
    have t2 : (-1074 + (q : Int) - (-1074 + (p : Int))).toNat = q - p := by omega
    rw [t1, t2, ← compare_scale _ _ ((2 : Int) ^ p) (Int.pow_pos (by decide)), signed_scale, signed_scale]
    congr 2 <;> omega
  · have eb : min (-1074 + (p : Int)) (-1074 + (q : Int)) = -1074 + (q : Int) := by omega
    rw [eb]
    have t1 : (-1074 + (p : Int) - (-1074 + (q : Int))).toNat = p - q := by omega
    have t2 : (-1074 + (q : Int) - (-1074 + (q : Int))).toNat = 0 := by omega
    rw [t1, t2, ← compare_scale _ _ ((2 : Int) ^ q) (Int.pow_pos (by decide)), signed_scale, signed_scale]
    congr 2 <;> omega

theorem cmp_lt {x y : Int} (h : x < y) : compare x y = .lt := by simp [compare, compareOfLessAndEq, h]
theorem cmp_gt {x y : Int} (h : y < x) : compare x y = .gt := by
  simp only [compare, compareOfLessAndEq]
  rw [if_neg (by omega), if_neg (by omega)]
theorem cmp_eq {x y : Int} (h : x = y) : compare x y = .eq := by subst h; simp [compare, compareOfLessAndEq]

theorem sval_fin_lt {a : Nat} (h : rung a < INF) : -(val INF : Int) < sval a ∧ sval a < (val INF : Int) := by
  have := val_lt h
  unfold sval
  split <;> omega
theorem sval_inf {a : Nat} (h : rung a = INF) : sval a = if sgn a then -(val INF : Int) else (val INF : Int) := by
  unfold sval; rw [h]
theorem val_INF_pos : 0 < val INF := by rw [← val_zero]; exact val_lt INF_pos

/-- HOW WORDS STAND TO EACH OTHER. -/
theorem order_eq {a b : Nat} (ha : ¬ INF < rung a) (hb : ¬ INF < rung b) : double.order a b = some (compare (sval a) (sval b)) := by
  have hpos := val_INF_pos
  by_cases ha' : rung a < INF
  · by_cases hb' : rung b < INF
    · exact order_fin ha' hb'
    · have eb : rung b = INF := by omega
      obtain ⟨m, p, e1, h1⟩ := read_fin ha'
      have hf := sval_fin_lt ha'
      unfold Format.order
      rw [e1, read_inf eb]
      simp only [Datum.order]
      rw [sval_inf eb]
      cases hs : sgn b
      · simp; rw [cmp_lt (by omega)]
      · simp; rw [cmp_gt (by omega)]
  · have ea : rung a = INF := by omega
    by_cases hb' : rung b < INF
    · obtain ⟨m, p, e1, h1⟩ := read_fin hb'
      have hf := sval_fin_lt hb'
      unfold Format.order
      rw [e1, read_inf ea]
      simp only [Datum.order]
      rw [sval_inf ea]
      cases hs : sgn a
      · simp; rw [cmp_gt (by omega)]
      · simp; rw [cmp_lt (by omega)]
    · have eb : rung b = INF := by omega
      unfold Format.order
      rw [read_inf ea, read_inf eb]
      simp only [Datum.order]
      rw [sval_inf ea, sval_inf eb]
      cases hs : sgn a <;> cases ht : sgn b
      · simp; first | done | exact (cmp_eq rfl).symm
      · simp; first | (rw [cmp_gt (by omega)]; done) | (rw [cmp_gt (by omega)]; rfl)
      · simp; first | (rw [cmp_lt (by omega)]; done) | (rw [cmp_lt (by omega)]; rfl)
      · simp; first | done | exact (cmp_eq rfl).symm

theorem order_nan_left {a b : Nat} (h : INF < rung a) : double.order a b = none := by
  unfold Format.order; rw [read_nan h]; rfl
theorem order_nan_right {a b : Nat} (h : INF < rung b) : double.order a b = none := by
  unfold Format.order; rw [read_nan h]; cases double.read a <;> rfl
end Go.Proofs.Ytdpnpfgejfhcgaa.Fl
