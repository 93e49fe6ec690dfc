/- What tint's functions answer, as plain functions of the words; that nothing on the way is without end. -/
import Derived.Test.YtdpnpfgejfhcgaaTintMath
set_option linter.unusedVariables false
set_option linter.unusedSimpArgs false
namespace Go.Proofs.Ytdpnpfgejfhcgaa.Fl
open Ieee

def tbyte (a : Nat) : Nat := whole (addW (mulW (tpart a) C255) HALF)
def tof (n : Nat) : Nat := (double.div (FloatKind.f64.nearest (n : Int)) C255).getD 0
def Q1 : Nat := 4598175219545276416
def Q2 : Nat := 4603804719079489536
def Q3 : Nat := 4593671619917905920
def tlight (r g b : Nat) : Nat := addW (addW (mulW Q1 (tpart r)) (mulW Q2 (tpart g))) (mulW Q3 (tpart b))
def tbetween (a b u : Nat) : Nat := addW a (mulW (subW b a) u)
def tsame (a b : Nat) : Bool := if INF < rung a ∨ INF < rung b then decide (INF < rung a ∧ INF < rung b) else decide (a = b)
def tfar (x y : Nat) : Nat := rung (subW x y)

theorem rq_le {c n r : Nat} (hr : r ≤ INF) (h : n ≤ val r * 2 ^ c) : rq c n ≤ r := by
  have := rq_mono c h
  rwa [rq_val c r hr] at this
theorem mul_one_le {q x : Nat} (hq : q ≤ INF) (hx : x ≤ ONE) : mulW q x ≤ q := by
  have hS := INF_lt_S
  have h1 := ONE_lt
  rw [mulW_pos (by omega) (by omega)]
  refine rq_le hq (Nat.mul_le_mul_left _ ?_)
  have := val_le hx
  rw [val_ONE, K_eq] at this
  exact this
theorem one_mul_le {x q : Nat} (hq : q ≤ INF) (hx : x ≤ ONE) : mulW x q ≤ q := by
  have hS := INF_lt_S
  have h1 := ONE_lt
  rw [mulW_pos (by omega) (by omega), Nat.mul_comm]
  refine rq_le hq (Nat.mul_le_mul_left _ ?_)
  have := val_le hx
  rw [val_ONE, K_eq] at this
  exact this
theorem add_le {x y a b r : Nat} (hx : x ≤ a) (hy : y ≤ b) (ha : a ≤ INF) (hb : b ≤ INF) (hr : r ≤ INF) (h : val a + val b ≤ val r) : addW x y ≤ r := by
  have hS := INF_lt_S
  rw [addW_pos (by omega) (by omega)]
  refine rq_le hr ?_
  rw [Nat.pow_zero, Nat.mul_one]
  have := val_le hx
  have := val_le hy
  omega
theorem rung_mul {d u : Nat} (hd : rung d ≤ ONE) (hu : u ≤ ONE) : rung (mulW d u) ≤ ONE := by
  have hS := INF_lt_S
  have h1 := ONE_lt
  unfold mulW
  rw [rung_word (rq_lt_S _ _), rung_small (r := u) (by omega)]
  refine rq_le (by omega) ?_
  have e1 := val_le hd
  have e2 := val_le hu
  have := Nat.mul_le_mul e1 e2
  rw [val_ONE, K_eq] at *
  exact this
theorem rung_sub {a b : Nat} (ha : a ≤ ONE) (hb : b ≤ ONE) : rung (subW a b) ≤ ONE := by
  have hS := INF_lt_S
  have h1 := ONE_lt
  unfold subW
  rw [rung_word (rq_lt_S _ _), sval_small (by omega), sval_small (by omega)]
  refine rq_le (by omega) ?_
  have e1 := val_le ha
  have e2 := val_le hb
  omega
theorem word_range (n : Bool) {r : Nat} (h : r < S) : double.word n r < 2 * S := by
  cases n
  · rw [word_false]; omega
  · rw [word_true]; omega
theorem subW_lt (a b : Nat) : subW a b < 2 * S := word_range _ (rq_lt_S _ _)
theorem addW_lt (a b : Nat) : addW a b < 2 * S := word_range _ (rq_lt_S _ _)
theorem mulW_lt (a b : Nat) : mulW a b < 2 * S := word_range _ (rq_lt_S _ _)
theorem fin_small {x : Nat} (h : x < INF) : rung x < INF := by rw [rung_small (by have := INF_lt_S; omega)]; exact h

/-- a program of numbers alone: 0.25 + 0.625 = 0.875, 0.875 + 0.125 = 1; 255 + 0.5 -/
def Q12 : Nat := 4606056518893174784
def C2555 : Nat := 4643193623632936960
theorem val_Q12 : val Q1 + val Q2 = val Q12 := by unfold val; rw [B_num]; decide +kernel
theorem val_Q123 : val Q12 + val Q3 = val ONE := by unfold val; rw [B_num]; decide +kernel
theorem val_C2555 : val C255 + val HALF = val C2555 := by unfold val; rw [B_num]; decide +kernel
theorem whole_C2555 : whole C2555 = 255 := by unfold whole; rw [K_eq]; unfold val; rw [B_num]; decide +kernel
theorem Q_lt : Q1 < INF ∧ Q2 < INF ∧ Q3 < INF ∧ Q12 < INF ∧ C2555 < INF := by rw [INF_num]; decide

theorem tbyte_mul {a : Nat} (h : a < 2 * S) : mulW (tpart a) C255 ≤ C255 := one_mul_le (Nat.le_of_lt C255_lt) (tpart_le a h)
theorem tbyte_add {a : Nat} (h : a < 2 * S) : addW (mulW (tpart a) C255) HALF ≤ C2555 :=
  add_le (tbyte_mul h) (Nat.le_refl _) (Nat.le_of_lt C255_lt) (Nat.le_of_lt HALF_lt) (Nat.le_of_lt Q_lt.2.2.2.2) (Nat.le_of_eq val_C2555)
theorem whole_le {a b : Nat} (h : a ≤ b) : whole a ≤ whole b := by unfold whole; exact Nat.div_le_div_right (val_le h)
theorem tbyte_le {a : Nat} (h : a < 2 * S) : tbyte a ≤ 255 := by
  have := whole_le (tbyte_add h)
  rw [whole_C2555] at this
  exact this
theorem tlight_12 {r g : Nat} (hr : r < 2 * S) (hg : g < 2 * S) : addW (mulW Q1 (tpart r)) (mulW Q2 (tpart g)) ≤ Q12 :=
  add_le (mul_one_le (Nat.le_of_lt Q_lt.1) (tpart_le r hr)) (mul_one_le (Nat.le_of_lt Q_lt.2.1) (tpart_le g hg)) (Nat.le_of_lt Q_lt.1) (Nat.le_of_lt Q_lt.2.1) (Nat.le_of_lt Q_lt.2.2.2.1) (Nat.le_of_eq val_Q12)
theorem tlight_le {r g b : Nat} (hr : r < 2 * S) (hg : g < 2 * S) (hb : b < 2 * S) : tlight r g b ≤ ONE :=
  add_le (tlight_12 hr hg) (mul_one_le (Nat.le_of_lt Q_lt.2.2.1) (tpart_le b hb)) (Nat.le_of_lt Q_lt.2.2.2.1) (Nat.le_of_lt Q_lt.2.2.1) (Nat.le_of_lt ONE_lt) (Nat.le_of_eq val_Q123)

/-- The two ways to hold two words to be one. -/
theorem tsame_prog {a b : Nat} (ha : ¬ INF < rung a) (hb : ¬ INF < rung b) (la : a < 2 * S) (lb : b < 2 * S) : (decide (sval a = sval b) && (decide (S ≤ a) == decide (S ≤ b))) = decide (a = b) := by
  have hS := S_pos
  have sg : ∀ {x}, x < 2 * S → (S ≤ x ↔ sgn x = true) := by
    intro x h
    by_cases c : x < S
    · rw [sgn_small c]; constructor
      · intro; omega
      · intro h; cases h
    · have e1 : x / S = 1 := Nat.div_eq_of_lt_le (by omega) (by omega)
      unfold sgn; rw [e1]; simp; omega
  by_cases e : a = b
  · subst e; simp
  · have : ¬ (sval a = sval b ∧ (S ≤ a ↔ S ≤ b)) := by
      rintro ⟨h1, h2⟩
      rw [sg la, sg lb] at h2
      have hs : sgn a = sgn b := by cases h : sgn a <;> cases h' : sgn b <;> simp_all
      unfold sval at h1
      rw [hs] at h1
      have hr : val (rung a) = val (rung b) := by
        cases h : sgn b <;> rw [h] at h1 <;> simp at h1 <;> omega
      have hr := val_inj hr
      apply e
      rw [word_of a la, word_of b lb, hs, hr]
    by_cases h1 : sval a = sval b
    · have h2 : ¬ (S ≤ a ↔ S ≤ b) := fun h => this ⟨h1, h⟩
      have : (decide (S ≤ a) == decide (S ≤ b)) = false := by
        rw [beq_eq_false_iff_ne]
        intro h
        exact h2 (by rwa [decide_eq_decide] at h)
      rw [this]; simp [e]
    · simp [h1, e]
end Go.Proofs.Ytdpnpfgejfhcgaa.Fl
