/- What ForestWraps asks of a word between a call and a return, and of a word twice. -/
import Derived.Test.YtjeploipaejepaaForestWell
import Derived.Test.YtjeploipaejepaaForestMath3
set_option linter.unusedVariables false
set_option linter.unusedSimpArgs false
namespace Go.Proofs.Ytjeploipaejepaa
open Go.RowKit Fo

theorem kns_append (a b : List (Int × Int)) : kns (a ++ b) = kns a ++ kns b := by simp [kns]
theorem kns_len (a : List (Int × Int)) : (kns a).length = a.length := by simp [kns]
theorem flat_append (a b : List (Int × Int)) : flat (a ++ b) = flat a ++ flat b := by simp [flat]
theorem wellB_iff (l : List (Int × Int)) : wellB l = true ↔ (stk (kns l) l.length).length = 0 ∧ calm (kns l) l.length := by
  unfold wellB
  rw [alone_len, alone_len, alo_open, List.length_reverse, ← alo_lost]
  simp

theorem call_facts (l : List (Int × Int)) : wellB (l ++ [(0, 1)]) = false := by
  cases h : wellB (l ++ [(0, 1)]) with
  | false => rfl
  | true =>
    have h1 := ((wellB_iff _).1 h).1
    rw [kns_append, List.length_append, List.length_singleton] at h1
    have e : (kns l ++ kns [(0, 1)]).getD l.length 0 = 1 := by
      have := getD_append_right (a := kns l) (b := kns [(0, 1)]) 0
      rw [kns_len, Nat.add_zero] at this
      rw [this]; rfl
    rw [stk_call e] at h1
    simp at h1

theorem wrap_facts (l : List (Int × Int)) (h : wellB l = true) :
    wellB ([(0, 1)] ++ l ++ [(0, 2)]) = true ∧ dp (kns ([(0, 1)] ++ l ++ [(0, 2)])) ([(0, 1)] ++ l ++ [(0, 2)]).length = dp (kns l) l.length + 1 ∧
      prs (kns ([(0, 1)] ++ l ++ [(0, 2)])) ([(0, 1)] ++ l ++ [(0, 2)]).length 0 = ((l.length + 1 : Nat) : Int) ∧ wellB (l ++ l) = true := by
  obtain ⟨h1, h2⟩ := (wellB_iff l).1 h
  have hs0 : stk (kns l) l.length = [] := List.eq_nil_of_length_eq_zero h1
  have c1 : calm [(1 : Int)] 1 := by
    intro j hj hk
    have : j = 0 := by omega
    subst this; simp at hk
  have s1 : stk [(1 : Int)] 1 = [0] := by simp [stk]
  have hca : calm ([(1 : Int)] ++ kns l) (1 + l.length) := calm_front [1] (kns l) l.length c1 h2
  have hst : stk ([(1 : Int)] ++ kns l) (1 + l.length) = [0] := by
    have := stk_upon [1] (kns l) l.length h2 l.length (Nat.le_refl _)
    rw [hs0] at this
    simpa [s1] using this
  have hdp : dp ([(1 : Int)] ++ kns l) (1 + l.length) = dp (kns l) l.length + 1 := by
    have := dp_upon [1] (kns l) l.length h2 l.length (Nat.le_refl _)
    have e : dp [(1 : Int)] 1 = 1 := by simp [dp, s1]
    simp only [List.length_singleton, s1, e] at this
    rw [this]; omega
  have hw : kns ([(0, 1)] ++ l ++ [(0, 2)]) = ([(1 : Int)] ++ kns l) ++ [2] := by simp [kns]
  have hl : ([((0 : Int), (1 : Int))] ++ l ++ [(0, 2)]).length = (1 + l.length) + 1 := by simp; omega
  have hal : ([(1 : Int)] ++ kns l).length = 1 + l.length := by simp [kns_len]; omega
  have hfr := fo_congr (ks := ([(1 : Int)] ++ kns l) ++ [2]) (ls := [(1 : Int)] ++ kns l) (1 + l.length) fun j hj => getD_append_left (by omega)
  have hlast : (([(1 : Int)] ++ kns l) ++ [2]).getD (1 + l.length) 0 = 2 := by
    have := getD_append_right (a := [(1 : Int)] ++ kns l) (b := [2]) 0
    rw [hal, Nat.add_zero] at this
    rw [this]; rfl
  have hstk : stk (([(1 : Int)] ++ kns l) ++ [2]) (1 + l.length) = [0] := by rw [hfr.1]; exact hst
  refine ⟨?_, ?_, ?_, ?_⟩
  · rw [wellB_iff, hw, hl]
    refine ⟨by rw [stk_ret hlast, hstk]; rfl, fun j hj hk => ?_⟩
    by_cases e : j = 1 + l.length
    · subst e; rw [hstk]; simp
    · rw [getD_append_left (by omega)] at hk
      rw [(fo_congr (ks := ([(1 : Int)] ++ kns l) ++ [2]) (ls := [(1 : Int)] ++ kns l) j fun i hi => getD_append_left (by omega)).1]
      exact hca j (by omega) hk
  · rw [hw, hl]
    simp only [dp]
    rw [dp_front _ _ _ (by omega), hdp, stk_ret hlast, hstk]
    simp
  · rw [hw, hl, prs_ret hlast hstk]
    unfold upd
    rw [if_pos rfl]
    omega
  · rw [wellB_iff, kns_append, List.length_append]
    constructor
    · have := len_upon (kns l) (kns l) l.length h2 l.length (Nat.le_refl _)
      rw [kns_len] at this
      rw [this]; omega
    · have := calm_front (kns l) (kns l) l.length (by rw [kns_len]; exact h2) h2
      rw [kns_len] at this; exact this
end Go.Proofs.Ytjeploipaejepaa
