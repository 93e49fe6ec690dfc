/- Words of a text: the mathematics, no Go in sight. -/
import Derived.Test.YtkngppkchaadhaaDecMath
set_option linter.unusedVariables false
set_option linter.unusedSimpArgs false
namespace Go.Proofs.Ytkngppkchaadhaa
open De
namespace Wd
def isLow (c : Int) : Bool := decide (97 ≤ c ∧ c ≤ 122)
def isDig (c : Int) : Bool := decide (48 ≤ c ∧ c ≤ 57)
def notNl (c : Int) : Bool := !(decide (c = 10))
def lowDig (c : Int) : Bool := isLow c || isDig c
def signs : List Int := [123, 125, 40, 41, 124, 42, 94, 60, 62, 58, 95, 61]
def isSign (c : Int) : Bool := decide (c ∈ signs)
/-- how many letters a text begins with that are p -/
def rn (p : Int → Bool) : List Int → Nat
  | [] => 0
  | c :: t => if p c = true then rn p t + 1 else 0
/-- how far the / is that ends an expression; e: a \ stands ahead -/
def ex : Bool → List Int → Option Nat
  | _, [] => none
  | e, c :: t => if c = 10 then none else if e = true then (ex false t).map (· + 1) else if c = 47 then some 0 else (ex (decide (c = 92)) t).map (· + 1)
/-- a word: its kind, where its text begins, how long it is, how many bytes the word takes -/
structure Wt where
  k : Int
  o : Nat
  n : Nat
  z : Nat
def wd : List Int → Option Wt
  | [] => none
  | c :: t =>
    if c = 32 ∨ c = 9 ∨ c = 13 then some ⟨0, 0, 0, 1⟩
    else if c = 35 then some ⟨0, 0, 0, rn notNl (c :: t)⟩
    else if c = 10 then some ⟨5, 0, 0, 1⟩
    else if c = 47 then (ex false t).map fun n => ⟨4, 1, n, n + 2⟩
    else if isLow c = true then some ⟨1, 0, rn lowDig (c :: t), rn lowDig (c :: t)⟩
    else if isDig c = true then some ⟨2, 0, rn isDig (c :: t), rn isDig (c :: t)⟩
    else if isSign c = true then some ⟨3, 0, 1, 1⟩
    else none

theorem rn_le (p : Int → Bool) (l : List Int) : rn p l ≤ l.length := by
  induction l with
  | nil => simp [rn]
  | cons c t ih => simp only [rn]; split <;> simp <;> omega
theorem rn_pos {p : Int → Bool} {c : Int} {t : List Int} (h : p c = true) : 1 ≤ rn p (c :: t) := by simp [rn, h]
theorem rn_all {p : Int → Bool} {l : List Int} {k : Nat} {c : Int} (h : k < rn p l) (hk : l[k]? = some c) : p c = true := by
  induction l generalizing k with
  | nil => simp at hk
  | cons d t ih =>
    simp only [rn] at h
    split at h
    · rename_i hd
      cases k with
      | zero => simp at hk; subst hk; exact hd
      | succ k => exact ih (k := k) (by omega) (by simpa using hk)
    · omega
theorem rn_drop {p : Int → Bool} {l : List Int} {k : Nat} (h : k ≤ rn p l) : rn p l = k + rn p (l.drop k) := by
  induction l generalizing k with
  | nil => simp [rn] at h ⊢; omega
  | cons d t ih =>
    cases k with
    | zero => simp
    | succ k =>
      simp only [rn] at h ⊢
      split at h
      · rename_i hd
        rw [if_pos hd, List.drop_succ_cons, ih (k := k) (by omega)]; omega
      · omega
theorem rn_miss {p : Int → Bool} {c : Int} {t : List Int} (h : p c = false) : rn p (c :: t) = 0 := by simp [rn, h]
theorem rn_hit {p : Int → Bool} {c : Int} {t : List Int} (h : p c = true) : rn p (c :: t) = rn p t + 1 := by simp [rn, h]

theorem ex_some {e : Bool} {l : List Int} {n : Nat} (h : ex e l = some n) : n < l.length ∧ l[n]? = some 47 := by
  induction l generalizing e n with
  | nil => simp [ex] at h
  | cons c t ih =>
    simp only [ex] at h
    split at h
    · cases h
    split at h
    · simp only [Option.map_eq_some_iff] at h
      obtain ⟨m, hm, rfl⟩ := h
      have := ih hm
      simp; exact this
    split at h
    · simp at h; subst h; simp [*]
    · simp only [Option.map_eq_some_iff] at h
      obtain ⟨m, hm, rfl⟩ := h
      have := ih hm
      simp; exact this

/-- what is said of each word -/
theorem wd_ok {l : List Int} {x : Wt} (h : wd l = some x) : 1 ≤ x.z ∧ x.z ≤ l.length ∧ 0 ≤ x.k ∧ x.k ≤ 5 ∧
    (x.k = 0 → x.o = 0 ∧ x.n = 0) ∧ (1 ≤ x.k ∧ x.k ≤ 3 → x.o = 0 ∧ x.n = x.z) ∧ (x.k = 4 → x.o = 1 ∧ x.z = x.n + 2 ∧ l[0]? = some 47 ∧ l[x.n + 1]? = some 47) ∧ (x.k = 5 → x.o = 0 ∧ x.n = 0 ∧ x.z = 1 ∧ l[0]? = some 10) := by
  cases l with
  | nil => simp [wd] at h
  | cons c t =>
    have r1 := rn_le notNl (c :: t)
    have r2 := rn_le lowDig (c :: t)
    have r3 := rn_le isDig (c :: t)
    simp only [wd] at h
    split at h
    · cases h; simp
    split at h
    · rename_i h2
      have := rn_pos (p := notNl) (c := c) (t := t) (by simp [notNl, h2])
      cases h; refine ⟨this, r1, ?_⟩; simp
    split at h
    · rename_i h3; cases h; simp [h3]
    split at h
    · rename_i h4
      simp only [Option.map_eq_some_iff] at h
      obtain ⟨n, hn, rfl⟩ := h
      have := ex_some hn
      refine ⟨by simp, by simp; omega, by simp, by simp, by simp, by simp, fun _ => ⟨rfl, rfl, by simp [h4], by simpa using this.2⟩, by simp⟩
    split at h
    · rename_i h5
      have := rn_pos (p := lowDig) (c := c) (t := t) (by simp [lowDig, h5])
      cases h; refine ⟨this, r2, ?_⟩; simp
    split at h
    · rename_i h6
      have := rn_pos (p := isDig) (c := c) (t := t) h6
      cases h; refine ⟨this, r3, ?_⟩; simp
    split at h
    · cases h; simp
    · cases h

/-- the words from a on, and where the first thing is that is no word -/
def sc (a : Nat) (l : List Int) : List (Nat × Wt) × Option Nat :=
  if h : l = [] then ([], none) else
  match wd l with
  | none => ([], some a)
  | some x =>
    let r := sc (a + max x.z 1) (l.drop (max x.z 1))
    (if x.k = 0 then r.1 else (a, x) :: r.1, r.2)
termination_by l.length
decreasing_by
  rw [List.length_drop]
  have : 0 < l.length := List.length_pos_iff.2 h
  omega
theorem sc_nil (a : Nat) : sc a [] = ([], none) := by unfold sc; simp
theorem sc_none {a : Nat} {l : List Int} (hl : l ≠ []) (h : wd l = none) : sc a l = ([], some a) := by
  unfold sc; rw [dif_neg hl, h]
theorem sc_cons {a : Nat} {l : List Int} {x : Wt} (h : wd l = some x) : sc a l = (if x.k = 0 then (sc (a + x.z) (l.drop x.z)).1 else (a, x) :: (sc (a + x.z) (l.drop x.z)).1, (sc (a + x.z) (l.drop x.z)).2) := by
  have hl : l ≠ [] := by rintro rfl; simp [wd] at h
  have hz : max x.z 1 = x.z := by have := (wd_ok h).1; omega
  conv => lhs; unfold sc
  rw [dif_neg hl, h]
  simp only [hz]
theorem sc_ind {P : Nat → List Int → Prop} (h0 : ∀ a, P a []) (h1 : ∀ a l, l ≠ [] → wd l = none → P a l) (h2 : ∀ a l x, wd l = some x → P (a + x.z) (l.drop x.z) → P a l) : ∀ a l, P a l := by
  have : ∀ n a l, l.length ≤ n → P a l := by
    intro n
    induction n with
    | zero => intro a l h; have : l = [] := List.eq_nil_of_length_eq_zero (by omega); subst this; exact h0 a
    | succ n ih =>
      intro a l h
      by_cases hl : l = []
      · subst hl; exact h0 a
      · cases hw : wd l with
        | none => exact h1 a l hl hw
        | some x =>
          refine h2 a l x hw (ih _ _ ?_)
          have := (wd_ok hw).1
          have := (wd_ok hw).2.1
          rw [List.length_drop]; omega
  exact fun a l => this l.length a l (Nat.le_refl _)
theorem sc_len (a : Nat) (l : List Int) : (sc a l).1.length ≤ l.length := by
  refine sc_ind (P := fun a l => (sc a l).1.length ≤ l.length) ?_ ?_ ?_ a l
  · intro a; rw [sc_nil]; simp
  · intro a l hl h; rw [sc_none hl h]; simp
  · intro a l x h ih
    have h1 := (wd_ok h).1
    have h2 := (wd_ok h).2.1
    rw [sc_cons h]
    rw [List.length_drop] at ih
    simp only
    split <;> simp <;> omega
theorem sc_fail {a b : Nat} {l : List Int} (h : (sc a l).2 = some b) : a ≤ b ∧ b < a + l.length := by
  revert h
  refine sc_ind (P := fun a l => (sc a l).2 = some b → a ≤ b ∧ b < a + l.length) ?_ ?_ ?_ a l
  · intro a; rw [sc_nil]; simp
  · intro a l hl h; rw [sc_none hl h]; have : 0 < l.length := List.length_pos_iff.2 hl; simp; omega
  · intro a l x h ih
    have h1 := (wd_ok h).1
    have h2 := (wd_ok h).2.1
    rw [sc_cons h]
    intro h3
    have := ih h3
    rw [List.length_drop] at this
    omega
/-- where the first bytes are that are no rune -/
def fb (l : List Int) : Nat := match (all 0 l).find? (·.2.bad) with | some p => p.1 | none => l.length
/-- an error: its number, and where; or the words -/
inductive Rs where
  | bad (code : Int) (at_ : Nat)
  | ok (W : List (Nat × Wt))
def rs (l : List Int) : Rs :=
  if 4000 < l.length then .bad 6 0
  else match (sc 0 l).2 with
    | some a => .bad 2 (min a (fb l))
    | none => if fb l < l.length then .bad 2 (fb l) else .ok (sc 0 l).1
end Wd
end Go.Proofs.Ytkngppkchaadhaa
