/- A pattern fits: its nodes and its depth. -/
import Derived.Test.YtahckikemljlnaaGreatDoorGSame
import Derived.Deep.DeepCutAuto
import Derived.Deep.CutBlock
import Derived.Deep.RegionHeld3
import Derived.Test.YtahckikemljlnaaGreatDoorGRefP
set_option linter.unusedVariables false
set_option linter.unusedSimpArgs false
namespace Go.Proofs.YtahckikemljlnaaGreatDoor
open Go.RowKit Ru

def kN (k : Int) : Nat := if k = 3 then 1 else if k = 5 ∨ k = 6 then 2 else if k = 7 then 1 else 0
def kA (k : Int) : Nat := if k = 2 ∨ k = 3 then 1 else 0
def kB (k : Int) : Nat := if k = 3 then 1 else 0
def kOk (k : Int) : Prop := k = 1 ∨ k = 2 ∨ k = 3 ∨ k = 4 ∨ k = 5 ∨ k = 6 ∨ k = 7
theorem shp_iff (e : PT) : e.shp = true ↔ kOk e.kind ∧ e.parts.length = kN e.kind ∧ (0 < e.names.length ↔ 0 < kA e.kind) ∧ (0 < e.ends.length ↔ 0 < kB e.kind) := by
  unfold PT.shp kOk kN kA kB
  generalize e.kind = k
  generalize e.names.length = a
  generalize e.ends.length = b
  generalize e.parts.length = c
  by_cases h2 : k = 2
  · subst h2; simp; omega
  by_cases h3 : k = 3
  · subst h3; simp; omega
  by_cases h1 : k = 1
  · subst h1; simp; omega
  by_cases h4 : k = 4
  · subst h4; simp; omega
  by_cases h5 : k = 5
  · subst h5; simp; omega
  by_cases h6 : k = 6
  · subst h6; simp; omega
  by_cases h7 : k = 7
  · subst h7; simp; omega
  · simp [h1, h2, h3, h4, h5, h6, h7]
theorem namesE_ne {T : List TK} {kind : Int} : ∀ (l seen : List ByteArray) (c : Int), namesE T kind seen l = some c → c ≠ 0 := by
  intro l
  induction l with
  | nil => intro seen c h; rw [namesE_nil] at h; cases h
  | cons x l ih =>
    intro seen c h
    rw [namesE_cons] at h
    split at h
    · cases h; decide
    · split at h
      · cases h; decide
      · exact ih _ c h
theorem nodeE_eq {T : List TK} {e : PT} (h : e.shp = true) : nodeE T e.kind e.names e.ends = orE (namesE T (if e.kind = 3 then 1 else 0) [] e.names) (namesE T 2 [] e.ends) := by
  obtain ⟨h0, h1, h2, h3⟩ := (shp_iff e).1 h
  unfold nodeE
  have en : ∀ l : List ByteArray, l.length = 0 → l = [] := fun l h => List.eq_nil_of_length_eq_zero h
  by_cases k2 : e.kind = 2
  · rw [if_pos k2, if_neg (by omega)]
    have : e.ends = [] := en _ (by rw [k2] at h3; simp [kB] at h3; simpa using h3)
    rw [this, namesE_nil]
    cases namesE T 0 [] e.names <;> rfl
  rw [if_neg k2]
  by_cases k3 : e.kind = 3
  · rw [if_pos k3, if_pos k3]
  rw [if_neg k3, if_neg k3]
  have e1 : e.names = [] := en _ (by
    have : kA e.kind = 0 := by unfold kA; rw [if_neg (by omega)]
    rw [this] at h2; omega)
  have e2 : e.ends = [] := en _ (by
    have : kB e.kind = 0 := by unfold kB; rw [if_neg (by omega)]
    rw [this] at h3; omega)
  rw [e1, e2, namesE_nil, namesE_nil]; rfl
theorem patE_ne {T : List TK} : ∀ (N : Nat) (e : PT), e.size ≤ N → ∀ c, patE T e = some c → c ≠ 0 := by
  intro N
  induction N with
  | zero => intro e h; have := e.size_pos; omega
  | succ N ih =>
    have all : ∀ (l : List PT), PT.sizes l ≤ N → ∀ c, patEL T l = some c → c ≠ 0 := by
      intro l
      induction l with
      | nil => intro _ c h; rw [patEL_nil] at h; cases h
      | cons a l ihl =>
        intro hl c h
        rw [PT.sizes_cons] at hl
        rw [patEL_cons] at h
        cases ha : patE T a with
        | none => rw [ha] at h; exact ihl (by omega) c h
        | some d => rw [ha] at h; cases h; exact ih a (by omega) _ ha
    intro e hs c h
    have hz := PT.size_sizes e
    rw [patE_eq] at h
    cases hsh : e.shp with
    | false => rw [hsh, if_pos rfl] at h; cases h; decide
    | true =>
      rw [hsh, if_neg (by simp), nodeE_eq hsh] at h
      cases h1 : namesE T (if e.kind = 3 then 1 else 0) [] e.names with
      | some d => rw [h1] at h; cases h; exact namesE_ne _ _ _ h1
      | none =>
        rw [h1] at h
        cases h2 : namesE T 2 [] e.ends with
        | some d => rw [h2] at h; cases h; exact namesE_ne _ _ _ h2
        | none => rw [h2] at h; exact all e.parts (by omega) c h
end Go.Proofs.YtahckikemljlnaaGreatDoor

namespace Go.Proofs.YtahckikemljlnaaGreatDoor
open Go.RowKit Ru

end Go.Proofs.YtahckikemljlnaaGreatDoor

namespace Go.Proofs.YtahckikemljlnaaGreatDoor
open Go.RowKit Ru

def rstepE (T : List TK) (pos : Bool) (s : ST) : Option Int := if decide (0 < s.calls.length) ≠ pos then some 5 else orE (namesE T 1 [] s.calls) (if 60 < s.p.size ∨ 12 < s.p.dep then some 6 else patE T s.p)
def rstepsE (T : List TK) (free : Bool) : Nat → List ST → Option Int
  | _, [] => none
  | i, s :: l => orE (rstepE T (decide (0 < i) || free) s) (rstepsE T free (i + 1) l)
theorem rstepsE_cons (T : List TK) (free : Bool) (i : Nat) (s : ST) (l : List ST) : rstepsE T free i (s :: l) = orE (rstepE T (decide (0 < i) || free) s) (rstepsE T free (i + 1) l) := rfl
def rruleE (T : List TK) (r : RU) : Option Int := if ¬ ((0 ≤ r.cls ∧ r.cls ≤ 31) ∧ 1 ≤ r.steps.length ∧ r.steps.length ≤ 4) then some 6 else rstepsE T r.free 0 r.steps
end Go.Proofs.YtahckikemljlnaaGreatDoor

namespace Go.Proofs.YtahckikemljlnaaGreatDoor
open Go.RowKit Ru

namespace PT
theorem deps_cons (e : PT) (l : List PT) : deps (e :: l) = max e.dep (deps l) := by rw [deps]
theorem deps_nil0 : deps [] = 0 := by rw [deps]
theorem vis_both : ∀ (N : Nat) (e : PT), e.size ≤ N → ∀ n d, ((e.vis n d).1 = true ↔ n + e.size ≤ 60 ∧ e.dep + d ≤ 13) ∧ ((e.vis n d).1 = true → (e.vis n d).2 = n + e.size) := by
  intro N
  induction N with
  | zero => intro e h; have := e.size_pos; omega
  | succ N ih =>
    have all : ∀ (l : List PT) (n d : Nat), sizes l ≤ N → n ≤ 60 → d ≤ 13 → ((visL l n d).1 = true ↔ n + sizes l ≤ 60 ∧ deps l + d ≤ 13) ∧ ((visL l n d).1 = true → (visL l n d).2 = n + sizes l) := by
      intro l
      induction l with
      | nil => intro n d _ hn hd; rw [visL_nil, sizes_nil, deps_nil0]; exact ⟨⟨fun _ => ⟨by omega, by omega⟩, fun _ => rfl⟩, fun _ => rfl⟩
      | cons a l ihl =>
        intro n d hl hn hd
        rw [sizes_cons] at hl
        obtain ⟨i1, i2⟩ := ih a (by omega) n d
        rw [visL_cons, sizes_cons, deps_cons]
        by_cases h1 : (a.vis n d).1 = true
        · rw [if_pos h1, i2 h1]
          have h2 := i1.1 h1
          obtain ⟨j1, j2⟩ := ihl (n + a.size) d (by omega) h2.1 hd
          refine ⟨j1.trans ⟨fun h => ⟨by omega, by omega⟩, fun h => ⟨by omega, by omega⟩⟩, fun h => by rw [j2 h]; omega⟩
        · rw [if_neg h1]
          refine ⟨⟨fun h => (by cases h), fun h => absurd (i1.2 ⟨by omega, by omega⟩) h1⟩, fun h => by cases h⟩
    intro e hs n d
    have hz := size_sizes e
    have hp := e.size_pos
    have hdp := dep_eq e
    rw [vis_eq]
    by_cases hc : 60 < n + 1 ∨ 12 < d
    · rw [if_pos hc]
      exact ⟨⟨fun h => (by cases h), fun h => (by omega)⟩, fun h => by cases h⟩
    · rw [if_neg hc]
      obtain ⟨j1, j2⟩ := all e.parts (n + 1) (d + 1) (by omega) (by omega) (by omega)
      exact ⟨j1.trans ⟨fun h => ⟨by omega, by omega⟩, fun h => ⟨by omega, by omega⟩⟩, fun h => by rw [j2 h]; omega⟩
theorem fits_iff (e : PT) : e.fitsB = true ↔ e.size ≤ 60 ∧ e.dep ≤ 12 := by
  unfold fitsB
  have := (vis_both e.size e (Nat.le_refl _) 0 1).1
  exact this.trans ⟨fun h => ⟨by omega, by omega⟩, fun h => ⟨by omega, by omega⟩⟩
end PT
theorem rstepE_eq (T : List TK) (pos : Bool) (s : ST) : rstepE T pos s = stepE T (!pos) s := by
  have hf : (60 < s.p.size ∨ 12 < s.p.dep) ↔ s.p.fitsB = false := by
    have := PT.fits_iff s.p
    cases hb : s.p.fitsB with
    | true => rw [hb] at this; have := this.1 rfl; exact ⟨fun h => by omega, fun h => by cases h⟩
    | false =>
      rw [hb] at this
      exact ⟨fun _ => rfl, fun _ => Classical.byContradiction fun h => by cases this.2 ⟨by omega, by omega⟩⟩
  unfold rstepE stepE
  have hc : (decide (0 < s.calls.length) ≠ pos) ↔ (decide (s.calls.length = 0) == !pos) = false := by
    rcases Nat.eq_zero_or_pos s.calls.length with h | h
    · rw [h]; cases pos <;> decide
    · have h0 : ¬ s.calls.length = 0 := by omega
      rw [decide_eq_true h, decide_eq_false h0]; cases pos <;> decide
  by_cases h1 : decide (0 < s.calls.length) ≠ pos
  · rw [if_pos h1, if_pos (hc.1 h1)]
  · rw [if_neg h1, if_neg (fun h => h1 (hc.2 h))]
    by_cases h2 : 60 < s.p.size ∨ 12 < s.p.dep
    · rw [if_pos h2, if_pos (hf.1 h2)]
    · rw [if_neg h2, if_neg (fun h => h2 (hf.2 h))]
theorem rstepsE_eq (T : List TK) (free : Bool) : ∀ (l : List ST) (i : Nat), rstepsE T free i l = stepsE T free i l := by
  intro l
  induction l with
  | nil => intro i; rfl
  | cons s l ih =>
    intro i
    rw [rstepsE_cons, stepsE_cons, ih, rstepE_eq]
    congr 2
    rcases Nat.eq_zero_or_pos i with h | h
    · rw [h]; simp
    · have h0 : ¬ i = 0 := by omega
      rw [decide_eq_true h, decide_eq_false h0]; simp
theorem rruleE_eq (T : List TK) (r : RU) : rruleE T r = ruleE T r := by unfold rruleE ruleE; rw [rstepsE_eq]
end Go.Proofs.YtahckikemljlnaaGreatDoor
