/- A pattern fits: its nodes and its depth. -/
import Derived.Test.YtkmnigoikkffnaaGRefP
import Derived.Test.YtkmnigoikkffnaaGRefR
set_option linter.unusedVariables false
set_option linter.unusedSimpArgs false
namespace Go.Proofs.Ytkmnigoikkffnaa
open Go.RowKit Ru

namespace PT
theorem deps_cons (e : PT) (l : List PT) : deps (e :: l) = max e.dep (deps l) := by rw [deps]
theorem deps_nil0 : deps [] = 0 := by rw [deps]
theorem vis_both : ∀ (N : Nat) (e : PT), e.size ≤ N → ∀ n d, ((e.vis n d).1 = true ↔ n + e.size ≤ 60 ∧ e.dep + d ≤ 13) ∧ ((e.vis n d).1 = true → (e.vis n d).2 = n + e.size) := by
  intro N
  induction N with
  | zero => intro e h; have := e.size_pos; omega
  | succ N ih =>
    have all : ∀ (l : List PT) (n d : Nat), sizes l ≤ N → n ≤ 60 → d ≤ 13 → ((visL l n d).1 = true ↔ n + sizes l ≤ 60 ∧ deps l + d ≤ 13) ∧ ((visL l n d).1 = true → (visL l n d).2 = n + sizes l) := by
      intro l
      induction l with
      | nil => intro n d _ hn hd; rw [visL_nil, sizes_nil, deps_nil0]; exact ⟨⟨fun _ => ⟨by omega, by omega⟩, fun _ => rfl⟩, fun _ => rfl⟩
      | cons a l ihl =>
        intro n d hl hn hd
        rw [sizes_cons] at hl
        obtain ⟨i1, i2⟩ := ih a (by omega) n d
        rw [visL_cons, sizes_cons, deps_cons]
        by_cases h1 : (a.vis n d).1 = true
        · rw [if_pos h1, i2 h1]
          have h2 := i1.1 h1
          obtain ⟨j1, j2⟩ := ihl (n + a.size) d (by omega) h2.1 hd
          refine ⟨j1.trans ⟨fun h => ⟨by omega, by omega⟩, fun h => ⟨by omega, by omega⟩⟩, fun h => by rw [j2 h]; omega⟩
        · rw [if_neg h1]
          refine ⟨⟨fun h => (by cases h), fun h => absurd (i1.2 ⟨by omega, by omega⟩) h1⟩, fun h => by cases h⟩
    intro e hs n d
    have hz := size_sizes e
    have hp := e.size_pos
    have hdp := dep_eq e
    rw [vis_eq]
    by_cases hc : 60 < n + 1 ∨ 12 < d
    · rw [if_pos hc]
      exact ⟨⟨fun h => (by cases h), fun h => (by omega)⟩, fun h => by cases h⟩
    · rw [if_neg hc]
      obtain ⟨j1, j2⟩ := all e.parts (n + 1) (d + 1) (by omega) (by omega) (by omega)
      exact ⟨j1.trans ⟨fun h => ⟨by omega, by omega⟩, fun h => ⟨by omega, by omega⟩⟩, fun h => by rw [j2 h]; omega⟩
theorem fits_iff (e : PT) : e.fitsB = true ↔ e.size ≤ 60 ∧ e.dep ≤ 12 := by
  unfold fitsB
  have := (vis_both e.size e (Nat.le_refl _) 0 1).1
  exact this.trans ⟨fun h => ⟨by omega, by omega⟩, fun h => ⟨by omega, by omega⟩⟩
end PT
theorem rstepE_eq (T : List TK) (pos : Bool) (s : ST) : rstepE T pos s = stepE T (!pos) s := by
  have hf : (60 < s.p.size ∨ 12 < s.p.dep) ↔ s.p.fitsB = false := by
    have := PT.fits_iff s.p
    cases hb : s.p.fitsB with
    | true => rw [hb] at this; have := this.1 rfl; exact ⟨fun h => by omega, fun h => by cases h⟩
    | false =>
      rw [hb] at this
      exact ⟨fun _ => rfl, fun _ => Classical.byContradiction fun h => by cases this.2 ⟨by omega, by omega⟩⟩
  unfold rstepE stepE
  have hc : (decide (0 < s.calls.length) ≠ pos) ↔ (decide (s.calls.length = 0) == !pos) = false := by
    rcases Nat.eq_zero_or_pos s.calls.length with h | h
    · rw [h]; cases pos <;> decide
    · have h0 : ¬ s.calls.length = 0 := by omega
      rw [decide_eq_true h, decide_eq_false h0]; cases pos <;> decide
  by_cases h1 : decide (0 < s.calls.length) ≠ pos
  · rw [if_pos h1, if_pos (hc.1 h1)]
  · rw [if_neg h1, if_neg (fun h => h1 (hc.2 h))]
    by_cases h2 : 60 < s.p.size ∨ 12 < s.p.dep
    · rw [if_pos h2, if_pos (hf.1 h2)]
    · rw [if_neg h2, if_neg (fun h => h2 (hf.2 h))]
theorem rstepsE_eq (T : List TK) (free : Bool) : ∀ (l : List ST) (i : Nat), rstepsE T free i l = stepsE T free i l := by
  intro l
  induction l with
  | nil => intro i; rfl
  | cons s l ih =>
    intro i
    rw [rstepsE_cons, stepsE_cons, ih, rstepE_eq]
    congr 2
    rcases Nat.eq_zero_or_pos i with h | h
    · rw [h]; simp
    · have h0 : ¬ i = 0 := by omega
      rw [decide_eq_true h, decide_eq_false h0]; simp
theorem rruleE_eq (T : List TK) (r : RU) : rruleE T r = ruleE T r := by unfold rruleE ruleE; rw [rstepsE_eq]
end Go.Proofs.Ytkmnigoikkffnaa
