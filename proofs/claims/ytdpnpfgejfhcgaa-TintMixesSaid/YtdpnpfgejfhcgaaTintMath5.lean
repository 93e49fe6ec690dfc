/- Mixes lie between their ends, but for the last bit; the mathematics of TintMixes. -/
import Derived.Test.YtdpnpfgejfhcgaaTintMath2
set_option linter.unusedVariables false
set_option linter.unusedSimpArgs false
namespace Go.Proofs.Ytdpnpfgejfhcgaa.Fl
open Ieee

/-- a whole number of the least units, rounded: its value -/
def srd (z : Int) : Int := if z < 0 then -(val (rq 0 z.natAbs) : Int) else (val (rq 0 z.natAbs) : Int)
theorem srd_mono {x y : Int} (h : x ≤ y) : srd x ≤ srd y := by
  unfold srd
  by_cases h1 : x < 0
  · rw [if_pos h1]
    by_cases h2 : y < 0
    · rw [if_pos h2]
      have := val_le (rq_mono 0 (show y.natAbs ≤ x.natAbs by omega))
      omega
    · rw [if_neg h2]; omega
  · rw [if_neg h1, if_neg (by omega)]
    have := val_le (rq_mono 0 (show x.natAbs ≤ y.natAbs by omega))
    omega
theorem srd_of (n : Bool) (z : Int) (h : z ≠ 0 → n = decide (z < 0)) : sval (double.word n (rq 0 z.natAbs)) = srd z := by
  rw [sval_word (rq_lt_S _ _)]
  unfold srd
  by_cases hz : z = 0
  · subst hz
    have : rq 0 (0 : Int).natAbs = 0 := rfl
    rw [this, val_zero]; cases n <;> simp
  · rw [h hz]
    by_cases h1 : z < 0 <;> simp [h1]
theorem sval_add (a b : Nat) : sval (addW a b) = srd (sval a + sval b) := by
  unfold addW
  refine srd_of _ _ (fun h => ?_)
  rw [if_neg h]
theorem sval_sub (a b : Nat) : sval (subW a b) = srd (sval a - sval b) := by
  unfold subW
  refine srd_of _ _ (fun h => ?_)
  rw [if_neg h]
theorem srd_val {r : Nat} (h : r ≤ INF) : srd (val r : Int) = val r := by
  unfold srd
  rw [if_neg (by omega)]
  have := rq_val 0 r h
  rw [Nat.pow_zero, Nat.mul_one] at this
  rw [Int.natAbs_natCast, this]
def E15 : Nat := 4382569440205035030
theorem E15_lt : E15 < INF := by rw [INF_num]; decide
theorem val_E15 : 2 ^ (K - 50) ≤ val E15 := by
  rw [K_eq]; unfold val; rw [B_num]; decide +kernel
theorem E15_ONE : val E15 ≤ val ONE := val_le (by decide)
/-- the last digit of what is at most one is small -/
theorem srd_err {z : Int} (h0 : 0 ≤ z) (h1 : z ≤ val ONE) : srd z ≤ z + val E15 := by
  unfold srd
  rw [if_neg (by omega)]
  have hle : rq 0 z.natAbs ≤ ONE := by
    refine rq_le (Nat.le_of_lt ONE_lt) ?_
    rw [Nat.pow_zero, Nat.mul_one]; omega
  have he := (rq_err 0 z.natAbs (by have := ONE_lt; omega)).1
  rw [Nat.pow_zero, Nat.mul_one] at he
  have hl : 2 ^ lastOf 0 z.natAbs ≤ 2 * 2 ^ (K - 50) := by
    rw [← Nat.pow_succ']
    refine Nat.pow_le_pow_right (by decide) ?_
    have hk := K_eq
    have hlog : z.natAbs.log2 ≤ K := by
      rcases Nat.eq_zero_or_pos z.natAbs with hz | hz
      · rw [hz]; rw [hk]; decide
      · have hv : z.natAbs ≤ val ONE := by omega
        rw [val_ONE] at hv
        have := (Nat.log2_lt (k := K + 1) (by omega)).2 (Nat.lt_of_le_of_lt hv (Nat.pow_lt_pow_right (by decide) (Nat.lt_succ_self K)))
        omega
    unfold lastOf
    omega
  have h15 := val_E15
  generalize 2 ^ lastOf 0 z.natAbs = e at he hl
  generalize 2 ^ (K - 50) = g at hl h15
  omega
theorem sval_le_ONE {x : Nat} (h : x ≤ ONE) : sval x = val x := sval_small (by have := ONE_lt; have := INF_lt_S; omega)
theorem sgn_le_ONE {x : Nat} (h : x ≤ ONE) : sgn x = false := sgn_small (by have := ONE_lt; have := INF_lt_S; omega)
/-- what is added: a part of how far the ends are from each other -/
theorem mix_step {x y u : Nat} (hx : x ≤ ONE) (hy : y ≤ ONE) (hu : u ≤ ONE) :
    ∃ D P : Int, 0 ≤ P ∧ P ≤ D ∧ D ≤ ((val x : Int) - val y).natAbs + val E15 ∧ sval (mulW (subW y x) u) = (if (val x : Int) ≤ val y then P else -P) := by
  have hS := INF_lt_S
  have h1 := ONE_lt
  have ex := val_le hx
  have ey := val_le hy
  have hd := rung_sub hy hx
  have hsd : sval (subW y x) = srd ((val y : Int) - val x) := by rw [sval_sub, sval_le_ONE hx, sval_le_ONE hy]
  have hm : (val (rq 1074 (val (rung (subW y x)) * val (rung u))) : Int) ≤ val (rung (subW y x)) := by
    have hru : rung u = u := rung_small (by omega)
    rw [hru]
    have : rq 1074 (val (rung (subW y x)) * val u) ≤ rung (subW y x) := by
      refine rq_le (by omega) (Nat.mul_le_mul_left _ ?_)
      have := val_le hu
      rw [val_ONE, K_eq] at this
      exact this
    have := val_le this
    omega
  have hmul : sval (mulW (subW y x) u) = if sgn (subW y x) then -(val (rq 1074 (val (rung (subW y x)) * val (rung u))) : Int) else val (rq 1074 (val (rung (subW y x)) * val (rung u))) := by
    unfold mulW
    rw [sval_word (rq_lt_S _ _), sgn_le_ONE hu]
    cases sgn (subW y x) <;> rfl
  have hrd : rung (subW y x) = rq 0 ((val y : Int) - val x).natAbs := by
    unfold subW
    rw [rung_word (rq_lt_S _ _), sval_le_ONE hx, sval_le_ONE hy]
  refine ⟨val (rung (subW y x)), val (rq 1074 (val (rung (subW y x)) * val (rung u))), by omega, hm, ?_, ?_⟩
  · rw [hrd]
    have := srd_err (z := (((val y : Int) - val x).natAbs : Nat)) (by omega) (by omega)
    unfold srd at this
    rw [if_neg (by omega), Int.natAbs_natCast] at this
    have hn : ((val x : Int) - val y).natAbs = ((val y : Int) - val x).natAbs := by omega
    rw [hn]
    exact this
  · rw [hmul]
    by_cases he : val x = val y
    · have hz : rung (subW y x) = 0 := by
        rw [hrd, show ((val y : Int) - val x).natAbs = 0 by omega]; rfl
      rw [hz, val_zero, Nat.zero_mul]
      have : rq 1074 0 = 0 := rfl
      rw [this, val_zero]
      cases sgn (subW y x) <;> simp
    · have hs : sgn (subW y x) = decide ((val y : Int) - val x < 0) := by
        unfold subW
        rw [sgn_word (rq_lt_S _ _), sval_le_ONE hx, sval_le_ONE hy, if_neg (by omega)]
      rw [hs]
      by_cases h : (val x : Int) ≤ val y
      · rw [if_pos h]; simp; intro; omega
      · rw [if_neg h]; simp; intro; omega
theorem tbetween_sval (x y u : Nat) (hx : x ≤ ONE) : sval (tbetween x y u) = srd (val x + sval (mulW (subW y x) u)) := by
  unfold tbetween
  rw [sval_add, sval_le_ONE hx]
/-- not further down than the lower one, but for the last bit -/
theorem mix_low {x y u : Nat} (hx : x ≤ ONE) (hy : y ≤ ONE) (hu : u ≤ ONE) (m : Nat) (hm : m = x ∨ m = y) (hmx : val m ≤ val x) (hmy : val m ≤ val y) :
    sval (subW m E15) ≤ sval (tbetween x y u) := by
  have hmo : m ≤ ONE := by rcases hm with rfl | rfl <;> assumption
  have hE : sval E15 = val E15 := sval_small (by have := E15_lt; have := INF_lt_S; omega)
  obtain ⟨D, P, hP, hPD, hD, hs⟩ := mix_step hx hy hu
  rw [tbetween_sval x y u hx, sval_sub, sval_le_ONE hmo, hE, hs]
  refine srd_mono ?_
  split
  · omega
  · rename_i h
    have : val m ≤ val y := hmy
    omega
/-- nor further up than the upper one -/
theorem mix_high {x y u : Nat} (hx : x ≤ ONE) (hy : y ≤ ONE) (hu : u ≤ ONE) (m : Nat) (hm : m = x ∨ m = y) (hmx : val x ≤ val m) (hmy : val y ≤ val m) :
    sval (tbetween x y u) ≤ sval (addW m E15) := by
  have hmo : m ≤ ONE := by rcases hm with rfl | rfl <;> assumption
  have hE : sval E15 = val E15 := sval_small (by have := E15_lt; have := INF_lt_S; omega)
  obtain ⟨D, P, hP, hPD, hD, hs⟩ := mix_step hx hy hu
  rw [tbetween_sval x y u hx, sval_add, sval_le_ONE hmo, hE, hs]
  refine srd_mono ?_
  split
  · omega
  · omega
/-- mixed with itself: itself -/
theorem mix_self {x u : Nat} (hx : x ≤ ONE) (hu : u ≤ ONE) : tbetween x x u = x := by
  have hS := INF_lt_S
  have h1 := ONE_lt
  have hsub : subW x x = 0 := by
    unfold subW
    rw [sgn_le_ONE hx, show sval x - sval x = 0 by omega]
    rfl
  have hmul : mulW 0 u = 0 := by
    unfold mulW
    rw [sgn_le_ONE hu, show rung 0 = 0 by rfl, val_zero, Nat.zero_mul, sgn_small (by omega)]
    rfl
  unfold tbetween
  rw [hsub, hmul, addW_pos (by omega) (by omega), val_zero, Nat.add_zero]
  have := rq_val 0 x (by omega)
  rwa [Nat.pow_zero, Nat.mul_one] at this
theorem tpart_part {a : Nat} (h : a < 2 * S) : tpart (tpart a) = tpart a := by
  have h1 := tpart_le a h
  have hS := INF_lt_S
  have ho := ONE_lt
  have hsv := sval_le_ONE h1
  have hr : rung (tpart a) = tpart a := rung_small (by omega)
  by_cases h2 : (val ONE : Int) ≤ sval (tpart a)
  · rw [tpart_one (by omega) h2]
    rw [hsv] at h2
    have := val_le_iff.1 (show val ONE ≤ val (tpart a) by omega)
    omega
  · by_cases h3 : 0 < sval (tpart a)
    · rw [tpart_mid (by omega) h2 h3]
    · rw [tpart_nought (by omega) h3]
      rw [hsv] at h3
      have h4 : val (tpart a) = val 0 := by rw [val_zero]; omega
      exact (val_inj h4).symm
end Go.Proofs.Ytdpnpfgejfhcgaa.Fl
