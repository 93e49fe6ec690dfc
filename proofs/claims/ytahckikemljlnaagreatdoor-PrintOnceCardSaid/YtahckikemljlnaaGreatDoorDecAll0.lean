/- decode: All alone (for seats without the decoder). -/
import Derived.Lib.RuneBytes
import Derived.Test.YtahckikemljlnaaGreatDoorChecked
import Derived.Test.YtahckikemljlnaaGreatDoorProg
import Derived.Test.YtahckikemljlnaaGreatDoorRows
import Derived.WalkKit
import Derived.WalkLawsBesides
import Derived.Lib.Hide
import Derived.Laws.BitsLemmas
import Derived.Test.YtahckikemljlnaaGreatDoorRecov
import Derived.Outline
import Derived.Deep.Cut
set_option linter.unusedVariables false
set_option linter.unusedSimpArgs false
namespace Go.Proofs.YtahckikemljlnaaGreatDoor
namespace De

abbrev put (r : Int) : List Int := Lib.encodeRuneZ r
def scl (r : Int) : Prop := 0 ≤ r ∧ r ≤ 1114111 ∧ ¬ (55296 ≤ r ∧ r ≤ 57343)

def tbl (c : Int) : Nat × Int × Int :=
  if c < 128 then (1, 0, 0)
  else if 194 ≤ c ∧ c ≤ 223 then (2, 128, 191)
  else if c = 224 then (3, 160, 191)
  else if c = 237 then (3, 128, 159)
  else if 225 ≤ c ∧ c ≤ 239 then (3, 128, 191)
  else if c = 240 then (4, 144, 191)
  else if 241 ≤ c ∧ c ≤ 243 then (4, 128, 191)
  else if c = 244 then (4, 128, 143)
  else (0, 0, 0)
def ld (n : Nat) (c : Int) : Int := if n = 1 then c else if n = 2 then c % 32 else if n = 3 then c % 16 else c % 8

structure It where
  r : Int
  n : Nat
  bad : Bool
  more : Bool
  opn : Bool

def go : Nat → Nat → Int → Int → Int → List Int → It
  | 0, k, _, _, r, _ => ⟨r, k, false, false, false⟩
  | _ + 1, k, _, _, _, [] => ⟨65533, k, true, true, true⟩
  | m + 1, k, lo, hi, r, c :: t => if lo ≤ c ∧ c ≤ hi then go m (k + 1) 128 191 (r * 64 + c % 64) t else ⟨65533, k, true, true, false⟩
def one : List Int → It
  | [] => ⟨65533, 1, true, false, false⟩
  | c :: t => if (tbl c).1 = 0 then ⟨65533, 1, true, false, false⟩ else go ((tbl c).1 - 1) 1 (tbl c).2.1 (tbl c).2.2 (ld (tbl c).1 c) t

theorem go_n : ∀ (m k : Nat) (lo hi r : Int) (l : List Int), k ≤ (go m k lo hi r l).n ∧ (go m k lo hi r l).n ≤ k + m ∧ (go m k lo hi r l).n ≤ k + l.length := by
  intro m
  induction m with
  | zero => intro k lo hi r l; simp [go]
  | succ m ih =>
    intro k lo hi r l
    cases l with
    | nil => simp [go]
    | cons c t =>
      simp only [go]
      split
      · have := ih (k + 1) 128 191 (r * 64 + c % 64) t
        simp only [List.length_cons]; omega
      · simp
theorem tbl_n (c : Int) : (tbl c).1 ≤ 4 := by
  unfold tbl; (repeat' split) <;> simp
theorem one_n (l : List Int) : 1 ≤ (one l).n ∧ (one l).n ≤ 4 ∧ (l ≠ [] → (one l).n ≤ l.length) := by
  cases l with
  | nil => simp [one]
  | cons c t =>
    have := tbl_n c
    simp only [one]
    split
    · simp
    · have := go_n ((tbl c).1 - 1) 1 (tbl c).2.1 (tbl c).2.2 (ld (tbl c).1 c) t
      simp only [List.length_cons]; omega
theorem go_open : ∀ (m k : Nat) (lo hi r : Int) (l : List Int), (go m k lo hi r l).opn = true → go m k lo hi r l = ⟨65533, k + l.length, true, true, true⟩ ∧ l.length < m := by
  intro m
  induction m with
  | zero => intro k lo hi r l h; simp [go] at h
  | succ m ih =>
    intro k lo hi r l h
    cases l with
    | nil => simp [go]
    | cons c t =>
      simp only [go] at h ⊢
      split at h
      · rename_i hc
        rw [if_pos hc]
        obtain ⟨h1, h2⟩ := ih _ _ _ _ _ h
        rw [h1]
        exact ⟨by simp; omega, by simp; omega⟩
      · simp at h
theorem one_open (l : List Int) (h : (one l).opn = true) : one l = ⟨65533, l.length, true, true, true⟩ ∧ 1 ≤ l.length ∧ l.length ≤ 3 := by
  cases l with
  | nil => simp [one] at h
  | cons c t =>
    simp only [one] at h ⊢
    split at h
    · simp at h
    · rename_i hc
      rw [if_neg hc]
      obtain ⟨h1, h2⟩ := go_open _ _ _ _ _ _ h
      have := tbl_n c
      rw [h1]
      exact ⟨by simp; omega, by simp, by simp; omega⟩
theorem go_bad : ∀ (m k : Nat) (lo hi r : Int) (l : List Int), (go m k lo hi r l).bad = true → (go m k lo hi r l).r = 65533 ∧ (go m k lo hi r l).n < k + m ∧ (go m k lo hi r l).more = true := by
  intro m
  induction m with
  | zero => intro k lo hi r l h; simp [go] at h
  | succ m ih =>
    intro k lo hi r l h
    cases l with
    | nil => simp [go]
    | cons c t =>
      simp only [go] at h ⊢
      split at h
      · rename_i hc
        rw [if_pos hc]
        have := ih _ _ _ _ _ h
        exact ⟨this.1, by have := this.2.1; omega, this.2.2⟩
      · rename_i hc
        rw [if_neg hc]; simp
theorem go_step {m k : Nat} {lo hi r : Int} {l : List Int} (h : (go (m + 1) k lo hi r l).bad = false) :
    ∃ x t, l = x :: t ∧ lo ≤ x ∧ x ≤ hi ∧ go (m + 1) k lo hi r l = go m (k + 1) 128 191 (r * 64 + x % 64) t := by
  cases l with
  | nil => simp [go] at h
  | cons x t =>
    simp only [go] at h ⊢
    split at h
    · rename_i hc; exact ⟨x, t, rfl, hc.1, hc.2, by rw [if_pos hc]⟩
    · simp at h
theorem tbl_cases (c : Int) : (c < 128 ∧ tbl c = (1, 0, 0)) ∨ (194 ≤ c ∧ c ≤ 223 ∧ tbl c = (2, 128, 191)) ∨ (∃ lo hi, 224 ≤ c ∧ c ≤ 239 ∧ tbl c = (3, lo, hi) ∧ 128 ≤ lo ∧ hi ≤ 191 ∧ (c = 224 → lo = 160) ∧ (c = 237 → hi = 159)) ∨
    (∃ lo hi, 240 ≤ c ∧ c ≤ 244 ∧ tbl c = (4, lo, hi) ∧ 128 ≤ lo ∧ hi ≤ 191 ∧ (c = 240 → lo = 144) ∧ (c = 244 → hi = 143)) ∨ (128 ≤ c ∧ (c < 194 ∨ 244 < c) ∧ tbl c = (0, 0, 0)) := by
  unfold tbl
  by_cases h1 : c < 128
  · exact .inl ⟨h1, by rw [if_pos h1]⟩
  rw [if_neg h1]
  by_cases h2 : 194 ≤ c ∧ c ≤ 223
  · exact .inr (.inl ⟨h2.1, h2.2, by rw [if_pos h2]⟩)
  rw [if_neg h2]
  by_cases h3 : c = 224
  · subst h3; exact .inr (.inr (.inl ⟨160, 191, by simp⟩))
  rw [if_neg h3]
  by_cases h4 : c = 237
  · subst h4; exact .inr (.inr (.inl ⟨128, 159, by simp⟩))
  rw [if_neg h4]
  by_cases h5 : 225 ≤ c ∧ c ≤ 239
  · exact .inr (.inr (.inl ⟨128, 191, by omega, by omega, by rw [if_pos h5], by simp, by simp, by omega, by omega⟩))
  rw [if_neg h5]
  by_cases h6 : c = 240
  · subst h6; exact .inr (.inr (.inr (.inl ⟨144, 191, by simp⟩)))
  rw [if_neg h6]
  by_cases h7 : 241 ≤ c ∧ c ≤ 243
  · exact .inr (.inr (.inr (.inl ⟨128, 191, by omega, by omega, by rw [if_pos h7], by simp, by simp, by omega, by omega⟩)))
  rw [if_neg h7]
  by_cases h8 : c = 244
  · subst h8; exact .inr (.inr (.inr (.inl ⟨128, 143, by simp⟩)))
  rw [if_neg h8]
  exact .inr (.inr (.inr (.inr ⟨by omega, by omega, rfl⟩)))
theorem one_good (l : List Int) (hu : ∀ x ∈ l, 0 ≤ x ∧ x < 256) (h : (one l).bad = false) : scl (one l).r ∧ put (one l).r = l.take (one l).n ∧ (one l).more = false ∧ (one l).opn = false := by
  cases l with
  | nil => simp [one] at h
  | cons c t =>
    have hc := hu c (by simp)
    simp only [one] at h ⊢
    rcases tbl_cases c with ⟨h1, e⟩ | ⟨h1, h2, e⟩ | ⟨lo, hi, h1, h2, e, h3, h4, h5, h6⟩ | ⟨lo, hi, h1, h2, e, h3, h4, h5, h6⟩ | ⟨h1, h2, e⟩
    · simp only [e, ld, go]
      simp only [if_true, Nat.one_ne_zero, if_false, Nat.sub_self]
      exact ⟨⟨by simp [go]; omega, by simp [go]; omega, by simp [go]; omega⟩, by simp [go, put, Lib.encodeRuneZ_one hc.1 (by omega : c ≤ 127)], by simp [go], by simp [go]⟩
    · simp only [e] at h ⊢
      rw [if_neg (by decide)] at h ⊢
      obtain ⟨x, t, rfl, b1, b2, h⟩ := go_step h
      simp only [Nat.reduceSub, Nat.reduceAdd] at h ⊢
      rw [h]
      have e1 : ld 2 c = c % 32 := by simp [ld]
      simp only [go, e1]
      refine ⟨⟨by omega, by omega, by omega⟩, ?_, by simp⟩
      unfold put
      rw [Lib.encodeRuneZ_two (by omega) (by omega)]
      simp; omega
    · simp only [e] at h ⊢
      rw [if_neg (by decide)] at h ⊢
      have hg := go_step h
      obtain ⟨x, t, rfl, b1, b2, h'⟩ := hg
      simp only [Nat.reduceSub, Nat.reduceAdd] at h h' ⊢
      rw [h'] at h ⊢
      obtain ⟨y, t, rfl, b3, b4, h''⟩ := go_step h
      simp only [Nat.reduceSub, Nat.reduceAdd] at h'' ⊢
      rw [h'']
      have e1 : ld 3 c = c % 16 := by simp [ld]
      simp only [go, e1]
      refine ⟨⟨by omega, by omega, by omega⟩, ?_, by simp⟩
      unfold put
      rw [Lib.encodeRuneZ_three (by omega)]
      simp; omega
    · simp only [e] at h ⊢
      rw [if_neg (by decide)] at h ⊢
      obtain ⟨x, t, rfl, b1, b2, h'⟩ := go_step h
      simp only [Nat.reduceSub, Nat.reduceAdd] at h h' ⊢
      rw [h'] at h ⊢
      obtain ⟨y, t, rfl, b3, b4, h''⟩ := go_step h
      simp only [Nat.reduceSub, Nat.reduceAdd] at h h'' ⊢
      rw [h''] at h ⊢
      obtain ⟨z, t, rfl, b5, b6, h3'⟩ := go_step h
      simp only [Nat.reduceSub, Nat.reduceAdd] at h3' ⊢
      rw [h3']
      have e1 : ld 4 c = c % 8 := by simp [ld]
      simp only [go, e1]
      refine ⟨⟨by omega, by omega, by omega⟩, ?_, by simp⟩
      unfold put
      rw [Lib.encodeRuneZ_four (by omega) (by omega)]
      simp; omega
    · simp [e] at h
theorem tbl1 {c : Int} (h : c < 128) : tbl c = (1, 0, 0) := by unfold tbl; rw [if_pos h]
theorem go_hit {m k : Nat} {lo hi r c : Int} {t : List Int} (h1 : lo ≤ c) (h2 : c ≤ hi) : go (m + 1) k lo hi r (c :: t) = go m (k + 1) 128 191 (r * 64 + c % 64) t := by
  simp only [go]; rw [if_pos ⟨h1, h2⟩]
theorem tbl2 {c : Int} (h1 : 194 ≤ c) (h2 : c ≤ 223) : tbl c = (2, 128, 191) := by
  unfold tbl; rw [if_neg (by omega), if_pos ⟨h1, h2⟩]
theorem tbl3 {c : Int} (h1 : 224 ≤ c) (h2 : c ≤ 239) : tbl c = (3, if c = 224 then 160 else 128, if c = 237 then 159 else 191) := by
  unfold tbl
  rw [if_neg (by omega), if_neg (by omega)]
  by_cases a : c = 224
  · subst a; decide
  by_cases b : c = 237
  · subst b; decide
  simp only [if_neg a, if_neg b]
  rw [if_pos (by omega)]
theorem tbl4 {c : Int} (h1 : 240 ≤ c) (h2 : c ≤ 244) : tbl c = (4, if c = 240 then 144 else 128, if c = 244 then 143 else 191) := by
  unfold tbl
  rw [if_neg (by omega), if_neg (by omega), if_neg (by omega), if_neg (by omega), if_neg (by omega)]
  by_cases a : c = 240
  · subst a; decide
  by_cases b : c = 244
  · subst b; decide
  simp only [if_neg a, if_neg b]
  rw [if_pos (by omega)]
theorem tbl0 {c : Int} (h1 : 128 ≤ c) (h2 : c < 194 ∨ 244 < c) : tbl c = (0, 0, 0) := by
  rcases tbl_cases c with ⟨k1, k⟩ | ⟨k1, k2, k⟩ | ⟨lo, hi, k1, k2, k, k3, k4, k5, k6⟩ | ⟨lo, hi, k1, k2, k, k3, k4, k5, k6⟩ | ⟨k1, k2, k⟩ <;> first | (exfalso; omega; done) | exact k
theorem it_eq {a b : Int} {n m : Nat} {x y z : Bool} (h : a = b) (h2 : n = m) : It.mk a n x y z = It.mk b m x y z := by rw [h, h2]
theorem go_cut : ∀ (m k : Nat) (lo hi r : Int) (l : List Int) (j : Nat), (go m k lo hi r l).bad = false → j < m → (go m k lo hi r (l.take j)) = ⟨65533, k + j, true, true, true⟩ := by
  intro m
  induction m with
  | zero => intro k lo hi r l j _ hj; omega
  | succ m ih =>
    intro k lo hi r l j h hj
    obtain ⟨x, t, rfl, h1, h2, e⟩ := go_step h
    cases j with
    | zero => simp [go]
    | succ j =>
      rw [e] at h
      rw [List.take_succ_cons, go_hit h1 h2, ih _ _ _ _ _ _ h (by omega)]
      exact it_eq rfl (by omega)
def wh (at' : Nat) (l : List Int) : List (Nat × It) × List Int :=
  if h : l = [] then ([], []) else if (one l).opn = true then ([], l) else ((at', one l) :: (wh (at' + (one l).n) (l.drop (one l).n)).1, (wh (at' + (one l).n) (l.drop (one l).n)).2)
termination_by l.length
decreasing_by all_goals (have := (one_n l).1; have := List.length_pos_iff.2 h; simp only [List.length_drop]; omega)
theorem wh_nil (a : Nat) : wh a [] = ([], []) := by unfold wh; simp
theorem wh_open {a : Nat} {l : List Int} (h : (one l).opn = true) : wh a l = ([], l) := by
  have hl : l ≠ [] := fun e => by subst e; simp [one] at h
  unfold wh; rw [dif_neg hl, if_pos h]
theorem wh_cons {a : Nat} {l : List Int} (hl : l ≠ []) (h : (one l).opn = false) : wh a l = ((a, one l) :: (wh (a + (one l).n) (l.drop (one l).n)).1, (wh (a + (one l).n) (l.drop (one l).n)).2) := by
  conv => lhs; unfold wh
  rw [dif_neg hl, if_neg (by simp [h])]
def all (a : Nat) (l : List Int) : List (Nat × It) := (wh a l).1 ++ (if (wh a l).2 = [] then [] else [(a + l.length - (wh a l).2.length, one (wh a l).2)])

theorem wh_ind {P : Nat → List Int → Prop} (h0 : ∀ a, P a []) (h1 : ∀ a l, (one l).opn = true → P a l) (h2 : ∀ a l, l ≠ [] → (one l).opn = false → P (a + (one l).n) (l.drop (one l).n) → P a l) : ∀ a l, P a l := by
  intro a l
  induction hn : l.length using Nat.strongRecOn generalizing a l with
  | _ n ih =>
    by_cases hl : l = []
    · subst hl; exact h0 a
    · by_cases ho : (one l).opn = true
      · exact h1 a l ho
      · have ho' : (one l).opn = false := by simpa using ho
        refine h2 a l hl ho' (ih (l.drop (one l).n).length ?_ _ _ rfl)
        have := (one_n l).1
        have := List.length_pos_iff.2 hl
        rw [List.length_drop]; omega
theorem wh_rest (a : Nat) (l : List Int) : (wh a l).2.length ≤ 3 ∧ (wh a l).2.length ≤ l.length ∧ ((wh a l).2 = [] ∨ (one (wh a l).2).opn = true) ∧ (wh a l).2 = l.drop (l.length - (wh a l).2.length) := by
  refine wh_ind (P := fun a l => (wh a l).2.length ≤ 3 ∧ (wh a l).2.length ≤ l.length ∧ ((wh a l).2 = [] ∨ (one (wh a l).2).opn = true) ∧ (wh a l).2 = l.drop (l.length - (wh a l).2.length)) ?_ ?_ ?_ a l
  · intro a; rw [wh_nil]; simp
  · intro a l h; rw [wh_open h]; exact ⟨(one_open l h).2.2, Nat.le_refl _, .inr h, by simp⟩
  · intro a l hl h ih
    rw [wh_cons hl h]
    obtain ⟨i1, i2, i3, i4⟩ := ih
    have hn := (one_n l).2.2 hl
    show (wh (a + (one l).n) (l.drop (one l).n)).2.length ≤ 3 ∧ (wh (a + (one l).n) (l.drop (one l).n)).2.length ≤ l.length ∧ _ ∧ (wh (a + (one l).n) (l.drop (one l).n)).2 = l.drop (l.length - (wh (a + (one l).n) (l.drop (one l).n)).2.length)
    generalize (wh (a + (one l).n) (l.drop (one l).n)).2 = q at i1 i2 i3 i4 ⊢
    rw [List.length_drop] at i2
    refine ⟨i1, by omega, i3, ?_⟩
    rw [List.length_drop, List.drop_drop] at i4
    have e : (one l).n + (l.length - (one l).n - q.length) = l.length - q.length := by omega
    rw [e] at i4
    exact i4
theorem wh_len (a : Nat) (l : List Int) : (wh a l).1.length ≤ l.length := by
  refine wh_ind (P := fun a l => (wh a l).1.length ≤ l.length) ?_ ?_ ?_ a l
  · intro a; rw [wh_nil]; simp
  · intro a l h; rw [wh_open h]; simp
  · intro a l hl h ih
    rw [wh_cons hl h]
    have := one_n l
    have := this.2.2 hl
    rw [List.length_drop] at ih
    simp only [List.length_cons]; omega
theorem all_nil (a : Nat) : all a [] = [] := by unfold all; rw [wh_nil]; simp
theorem all_cons (a : Nat) (l : List Int) (hl : l ≠ []) : all a l = (a, one l) :: all (a + (one l).n) (l.drop (one l).n) := by
  have hn := (one_n l).2.2 hl
  unfold all
  by_cases h : (one l).opn = true
  · have := one_open l h
    rw [wh_open h]
    have e : l.drop (one l).n = [] := by rw [this.1]; simp
    rw [e, wh_nil]
    simp [hl]
  · have h : (one l).opn = false := by simpa using h
    have hr := (wh_rest (a + (one l).n) (l.drop (one l).n)).2.1
    rw [List.length_drop] at hr
    rw [wh_cons hl h]
    simp only [List.cons_append, List.length_drop]
    have e2 : a + (one l).n + (l.length - (one l).n) - (wh (a + (one l).n) (l.drop (one l).n)).2.length = a + l.length - (wh (a + (one l).n) (l.drop (one l).n)).2.length := by omega
    rw [e2]
theorem all_len (a : Nat) (l : List Int) : (all a l).length ≤ l.length := by
  refine wh_ind (P := fun a l => (all a l).length ≤ l.length) ?_ ?_ ?_ a l
  · intro a; simp [all_nil]
  · intro a l h
    unfold all
    rw [wh_open h]
    have := one_open l h
    split <;> simp; omega
  · intro a l hl h ih
    rw [all_cons a l hl]
    have := one_n l
    have := this.2.2 hl
    rw [List.length_drop] at ih
    simp only [List.length_cons]; omega
end De
end Go.Proofs.YtahckikemljlnaaGreatDoor

namespace Go.Proofs.YtahckikemljlnaaGreatDoor
open Go.RowKit De

theorem second_any (c : Int) (w : World) : Calls Tryz.prog 199 #[.int .u8 c] w fun e w' =>
    e = .returned (.tuple #[.int .u8 (if c = 224 then 160 else if c = 240 then 144 else 128), .int .u8 (if c = 237 then 159 else if c = 244 then 143 else 191)]) ∧ w = w' := by
  by_cases h1 : c = 224
  · subst h1
    go_enter Tryz.func199, Tryz.ntmps199
    go_wp2
    go_ret2
    exact ⟨rfl, rfl⟩
  by_cases h2 : c = 237
  · subst h2
    go_enter Tryz.func199, Tryz.ntmps199
    go_wp2
    go_ret2
    exact ⟨rfl, rfl⟩
  by_cases h3 : c = 240
  · subst h3
    go_enter Tryz.func199, Tryz.ntmps199
    go_wp2
    go_ret2
    exact ⟨rfl, rfl⟩
  by_cases h4 : c = 244
  · subst h4
    go_enter Tryz.func199, Tryz.ntmps199
    go_wp2
    go_ret2
    exact ⟨rfl, rfl⟩
  · have g1 : (c == 224) = false := by simpa using h1
    have g2 : (c == 237) = false := by simpa using h2
    have g3 : (c == 240) = false := by simpa using h3
    have g4 : (c == 244) = false := by simpa using h4
    rw [if_neg h1, if_neg h2, if_neg h3, if_neg h4]
    go_enter Tryz.func199, Tryz.ntmps199
    go_wp2
    go_ret2
    exact ⟨rfl, rfl⟩

structure St (wr w : World) (qg qb : Nat) (g : Nat) (v : Value) (bs : List Int) : Prop where
  good : w.heap[qg]? = some (.cells #[.int .i64 g] 3 (0, 0))
  held : w.heap[qb]? = some (.cells #[v] 90 (0, 0))
  row : Row wr v bs.length (bs.map (Value.int .u8))
  bel : Below wr.heap.size wr w
  qgw : wr.heap.size ≤ qg
  qbw : wr.heap.size ≤ qb
  ne : qg ≠ qb
  small : bs.length ≤ 1000000000

theorem St.step {wr w : World} {qg qb g : Nat} {v : Value} {bs : List Int} (h : St wr w qg qb g v bs) (g' : Nat) : St wr (w.setCell ⟨qg, 0, none⟩ (.int .i64 g')) qg qb g' v bs :=
  ⟨setc h.good _, by rw [Below.heap_setCell w _ _ qb (fun e => h.ne e.symm)]; exact h.held, h.row, h.bel.setCell h.qgw _, h.qgw, h.qbw, h.ne, h.small⟩

abbrev broke (short : Bool) : Ending := .panicked [{ v := .iface 189 (.agg #[.bool short]), recovered := false }]
def NextPost (bs : List Int) (g : Nat) (lo hi : Int) (qg : Nat) (w : World) (e : Ending) (w' : World) : Prop :=
  (∃ c, bs[g]? = some c ∧ lo ≤ c ∧ c ≤ hi ∧ e = .returned (.int .i32 c) ∧ w' = w.setCell ⟨qg, 0, none⟩ (.int .i64 ((g + 1 : Nat) : Int))) ∨
  (bs[g]? = none ∧ e = broke true ∧ w' = w) ∨ (∃ c, bs[g]? = some c ∧ ¬ (lo ≤ c ∧ c ≤ hi) ∧ e = broke false ∧ w' = w)

set_option maxHeartbeats 1000000 in
set_option maxRecDepth 1000000 in
theorem next_any (wr : World) (qg qb g : Nat) (v : Value) (bs : List Int) (lo hi : Int) (w : World) (hS : St wr w qg qb g v bs) (hg0 : g ≤ bs.length) (hu : ∀ x ∈ bs, 0 ≤ x ∧ x < 256) :
    Calls Tryz.prog 161 #[.int .u8 lo, .int .u8 hi, .pointer (some ⟨qg, 0, none⟩), .pointer (some ⟨qb, 0, none⟩)] w (NextPost bs g lo hi qg w) := by
  have HS := Lib.hid hS
  obtain ⟨hg, hb, hr, hbel, hqg, hqb, hne, hn⟩ := hS
  obtain ⟨cG, fG⟩ := cell1_of hg
  obtain ⟨cB, fB⟩ := cell1_of hb
  have hr2 := hr.below hbel
  clear hg hb hne hbel
  by_cases hlt : g < bs.length
  · obtain ⟨o, cap, rfl, hcap, hmax, hrow⟩ := hr
    rcases hrow with ⟨h0, _⟩ | ⟨b, off, rfl, hbl, hcc⟩
    · omega
    obtain ⟨_, _, e2, _, _, hrow2⟩ := hr2
    rcases hrow2 with ⟨h0, _⟩ | ⟨b', off', e3, hbl2, hcc2⟩
    · omega
    simp only [Value.slice.injEq, true_and] at e2
    obtain ⟨e4, rfl⟩ := e2
    rw [e3] at e4
    simp only [Option.some.injEq, Addr.mk.injEq, and_true] at e4
    obtain ⟨rfl, rfl⟩ := e4
    obtain ⟨c, hc⟩ : ∃ c, bs[g]? = some c := ⟨bs[g], List.getElem?_eq_getElem hlt⟩
    have hcu := hu c (List.mem_of_getElem? hc)
    have hcell : w.cell? ⟨b, off + g, none⟩ = some (.int .u8 c) := hcc2 g _ (by rw [List.getElem?_map, hc]; rfl)
    have hbq : ¬ b = qg := by omega
    have hbb : ¬ b = qb := by omega
    have hqq : ¬ qb = qg := fun e => HS.out.ne e.symm
    have HC := Lib.hid hc
    clear hcc hcc2 hc hu
    have hg1 : (decide ((g : Int) = (bs.length : Int))) = false := by simp; omega
    have hg2 : (((g : Int) == (bs.length : Int))) = false := by simp; omega
    by_cases h1 : c < lo
    · go_enter Tryz.func161, Tryz.ntmps161
      go_wp2
      exact ⟨rfl, .inr (.inr ⟨c, HC.out, by omega, rfl, rfl⟩)⟩
    by_cases h2 : hi < c
    · go_enter Tryz.func161, Tryz.ntmps161
      go_wp2
      exact ⟨rfl, .inr (.inr ⟨c, HC.out, by omega, rfl, rfl⟩)⟩
    · go_enter Tryz.func161, Tryz.ntmps161
      go_wp2
      go_ret
      exact .inl ⟨c, HC.out, by omega, by omega, rfl, by simp⟩
  · obtain rfl : g = bs.length := by omega
    have hnone : bs[bs.length]? = none := by simp
    have HC := Lib.hid hnone
    obtain ⟨o, cap, rfl, hcap, hmax, _⟩ := hr
    clear hnone hr2 hu
    go_enter Tryz.func161, Tryz.ntmps161
    go_wp2
    exact ⟨rfl, .inr (.inl ⟨HC.out, rfl, rfl⟩)⟩
end Go.Proofs.YtahckikemljlnaaGreatDoor

namespace Go.Proofs.YtahckikemljlnaaGreatDoor
open Go.RowKit De

namespace De
theorem and31 {x : Int} (h : 0 ≤ x ∧ x < 256) : bits .and .i32 x 31 = x % 32 := bits_mask .i32 31 (by decide) wraps_i32 5 (by decide) x h.1 (by omega)
theorem and15 {x : Int} (h : 0 ≤ x ∧ x < 256) : bits .and .i32 x 15 = x % 16 := bits_mask .i32 31 (by decide) wraps_i32 4 (by decide) x h.1 (by omega)
theorem and7 {x : Int} (h : 0 ≤ x ∧ x < 256) : bits .and .i32 x 7 = x % 8 := bits_mask .i32 31 (by decide) wraps_i32 3 (by decide) x h.1 (by omega)
theorem and63 {x : Int} (h : 0 ≤ x ∧ x < 256) : bits .and .i32 x 63 = x % 64 := bits_mask .i32 31 (by decide) wraps_i32 6 (by decide) x h.1 (by omega)
theorem join6 {r y : Int} (h0 : 0 ≤ r) (h1 : r < 16777216) (h : 0 ≤ y ∧ y < 256) : bits .or .i32 (wrap32 (r * 64)) (bits .and .i32 y 63) = r * 64 + y % 64 := by
  have e : wrap32 (r * 64) = r * 64 := by unfold wrap32; first | (rw [IntKind.wrap_i32]; omega) | omega
  rw [e, and63 h]
  exact i32_or6 _ _ (by omega) (by omega) (by omega) (by omega) (by omega)
theorem one1 {c : Int} {t : List Int} (h : c < 128) : one (c :: t) = ⟨c, 1, false, false, false⟩ := by
  simp [one, tbl1 h, ld, go]
theorem one0 {c : Int} {t : List Int} (h1 : 128 ≤ c) (h2 : c < 194 ∨ 244 < c) : one (c :: t) = ⟨65533, 1, true, false, false⟩ := by
  simp [one, tbl0 h1 h2]
theorem one2 {c : Int} {t : List Int} (h1 : 194 ≤ c) (h2 : c ≤ 223) : one (c :: t) = go 1 1 128 191 (c % 32) t := by
  simp [one, tbl2 h1 h2, ld]
theorem one3 {c : Int} {t : List Int} (h1 : 224 ≤ c) (h2 : c ≤ 239) : one (c :: t) = go 2 1 (if c = 224 then 160 else if c = 240 then 144 else 128) (if c = 237 then 159 else if c = 244 then 143 else 191) (c % 16) t := by
  simp only [one, tbl3 h1 h2, ld]
  simp [show ¬ c = 240 by omega, show ¬ c = 244 by omega]
theorem one4 {c : Int} {t : List Int} (h1 : 240 ≤ c) (h2 : c ≤ 244) : one (c :: t) = go 3 1 (if c = 224 then 160 else if c = 240 then 144 else 128) (if c = 237 then 159 else if c = 244 then 143 else 191) (c % 8) t := by
  simp only [one, tbl4 h1 h2, ld]
  simp [show ¬ c = 224 by omega, show ¬ c = 237 by omega]
theorem go_nil {m k : Nat} {lo hi r : Int} : go (m + 1) k lo hi r [] = ⟨65533, k, true, true, true⟩ := rfl
theorem go_miss {m k : Nat} {lo hi r c : Int} {t : List Int} (h : ¬ (lo ≤ c ∧ c ≤ hi)) : go (m + 1) k lo hi r (c :: t) = ⟨65533, k, true, true, false⟩ := by
  simp only [go]; rw [if_neg h]
theorem go_zero {k : Nat} {lo hi r : Int} {t : List Int} : go 0 k lo hi r t = ⟨r, k, false, false, false⟩ := by cases t <;> rfl
end De

theorem ret_int {k : IntKind} {a b : Int} (h : a = b) : Ending.returned (.int k a) = .returned (.int k b) := by rw [h]
def gd (x : It) : Nat := if x.bad = true ∧ x.more = false then 0 else x.n
def SeqPost (wr : World) (qg qb : Nat) (v : Value) (bs : List Int) (w : World) (e : Ending) (w' : World) : Prop :=
  (((one bs).bad = false ∧ e = .returned (.int .i32 (one bs).r)) ∨ ((one bs).bad = true ∧ e = broke (one bs).opn)) ∧ St wr w' qg qb (gd (one bs)) v bs ∧ But w w' w.heap.size qg qg
theorem But.one' (w : World) (q : Nat) (x : Value) : But w (w.setCell ⟨q, 0, none⟩ x) w.heap.size q q := (But.of (Below.refl _ _)).setA _
theorem seqP {wr w w' : World} {qg qb : Nat} {v : Value} {bs : List Int} {e : Ending} {r : Int} {n : Nat} (h : one bs = ⟨r, n, false, false, false⟩) (he : e = .returned (.int .i32 r)) (hS : St wr w' qg qb n v bs) (hb : But w w' w.heap.size qg qg) : SeqPost wr qg qb v bs w e w' := by
  unfold SeqPost
  rw [h]
  exact ⟨.inl ⟨rfl, he⟩, by simpa [gd] using hS, hb⟩
theorem seqB {wr w w' : World} {qg qb : Nat} {v : Value} {bs : List Int} {r : Int} {n : Nat} {o : Bool} (h : one bs = ⟨r, n, true, true, o⟩) (hS : St wr w' qg qb n v bs) (hb : But w w' w.heap.size qg qg) : SeqPost wr qg qb v bs w (broke o) w' := by
  unfold SeqPost
  rw [h]
  exact ⟨.inr ⟨rfl, rfl⟩, by simpa [gd] using hS, hb⟩
theorem seqZ {wr w : World} {qg qb : Nat} {v : Value} {bs : List Int} {r : Int} {n : Nat} (h : one bs = ⟨r, n, true, false, false⟩) (hS : St wr w qg qb 0 v bs) : SeqPost wr qg qb v bs w (broke false) w := by
  unfold SeqPost
  rw [h]
  exact ⟨.inr ⟨rfl, rfl⟩, by simpa [gd] using hS, But.of (Below.refl _ _)⟩
theorem tl_of {c y : Int} {t : List Int} {k : Nat} (h : (c :: t)[k + 1]? = some y) : t[k]? = some y := by simpa using h
theorem hd_of {y : Int} {t : List Int} (h : t[0]? = some y) : ∃ t', t = y :: t' := by
  cases t with
  | nil => simp at h
  | cons a t => exact ⟨t, by simp at h; rw [h]⟩
theorem none_of {t : List Int} (h : t[0]? = none) : t = [] := by
  cases t with
  | nil => rfl
  | cons a t => simp at h

set_option maxHeartbeats 1000000 in
set_option maxRecDepth 1000000 in
theorem seq1 (wr : World) (qg qb : Nat) (v : Value) (c : Int) (t : List Int) (w : World) (hS : St wr w qg qb 0 v (c :: t)) (hu : ∀ x ∈ c :: t, 0 ≤ x ∧ x < 256) (hc : c < 128) :
    Calls Tryz.prog 162 #[.int .u8 c, .func (Fn.func 161) #[] #[.pointer (some ⟨qg, 0, none⟩), .pointer (some ⟨qb, 0, none⟩)]] w (SeqPost wr qg qb v (c :: t) w) := by
  have hcu := hu c (by simp)
  go_enter Tryz.func162, Tryz.ntmps162
  go_wp2_with fail
  refine (next_any wr qg qb 0 v (c :: t) 0 127 w hS (by simp) hu).mono ?_
  rintro e w1 (⟨x, hx, h1, h2, rfl, rfl⟩ | ⟨hx, rfl, rfl⟩ | ⟨x, hx, h1, rfl, rfl⟩)
  · obtain rfl : x = c := by simpa using hx.symm
    go_wp2
    go_ret
    exact seqP (one1 hc) rfl (hS.step 1) (But.one' _ _ _)
  · simp at hx
  · obtain rfl : x = c := by simpa using hx.symm
    omega

set_option maxHeartbeats 1000000 in
set_option maxRecDepth 1000000 in
theorem seq2 (wr : World) (qg qb : Nat) (v : Value) (c : Int) (t : List Int) (w : World) (hS : St wr w qg qb 0 v (c :: t)) (hu : ∀ x ∈ c :: t, 0 ≤ x ∧ x < 256) (hc : 128 ≤ c) (hc2 : c < 224) :
    Calls Tryz.prog 162 #[.int .u8 c, .func (Fn.func 161) #[] #[.pointer (some ⟨qg, 0, none⟩), .pointer (some ⟨qb, 0, none⟩)]] w (SeqPost wr qg qb v (c :: t) w) := by
  have hcu := hu c (by simp)
  go_enter Tryz.func162, Tryz.ntmps162
  go_wp2_with fail
  refine (next_any wr qg qb 0 v (c :: t) 194 223 w hS (by simp) hu).mono ?_
  rintro e w1 (⟨x, hx, h1, h2, rfl, rfl⟩ | ⟨hx, rfl, rfl⟩ | ⟨x, hx, h1, rfl, rfl⟩)
  · obtain rfl : x = c := by simpa using hx.symm
    have hS1 := hS.step 1
    have hb1 := But.one' w qg (.int .i64 ((1 : Nat) : Int))
    clear hx
    go_wp2_with fail
    refine (next_any wr qg qb 1 v (x :: t) 128 191 _ hS1 (by simp) hu).mono ?_
    rintro e w1 (⟨y, hy, h3, h4, rfl, rfl⟩ | ⟨hy, rfl, rfl⟩ | ⟨y, hy, h3, rfl, rfl⟩)
    · obtain ⟨t', rfl⟩ := hd_of (tl_of hy)
      have hyu := hu y (by simp)
      clear hy
      go_wp2
      go_ret
      refine seqP (by rw [one2 h1 h2, go_hit h3 h4, go_zero]) (ret_int ?_) (hS1.step 2) (hb1.setA _)
      rw [and31 hcu, join6 (by omega) (by omega) hyu]
    · obtain rfl := none_of (t := t) (by simpa using hy)
      go_wp2
      exact ⟨rfl, seqB (by rw [one2 h1 h2, go_nil]) hS1 hb1⟩
    · obtain ⟨t', rfl⟩ := hd_of (tl_of hy)
      go_wp2
      exact ⟨rfl, seqB (by rw [one2 h1 h2, go_miss h3]) hS1 hb1⟩
  · simp at hx
  · obtain rfl : x = c := by simpa using hx.symm
    go_wp2
    exact ⟨rfl, seqZ (one0 hc (by omega)) hS⟩

set_option maxHeartbeats 2000000 in
set_option maxRecDepth 1000000 in
theorem seq3 (wr : World) (qg qb : Nat) (v : Value) (c : Int) (t : List Int) (w : World) (hS : St wr w qg qb 0 v (c :: t)) (hu : ∀ x ∈ c :: t, 0 ≤ x ∧ x < 256) (hc : 224 ≤ c) (hc2 : c < 240) :
    Calls Tryz.prog 162 #[.int .u8 c, .func (Fn.func 161) #[] #[.pointer (some ⟨qg, 0, none⟩), .pointer (some ⟨qb, 0, none⟩)]] w (SeqPost wr qg qb v (c :: t) w) := by
  have hcu := hu c (by simp)
  go_enter Tryz.func162, Tryz.ntmps162
  go_wp2_with fail
  refine (next_any wr qg qb 0 v (c :: t) 224 239 w hS (by simp) hu).mono ?_
  rintro e w1 (⟨x, hx, h1, h2, rfl, rfl⟩ | ⟨hx, rfl, rfl⟩ | ⟨x, hx, h1, rfl, rfl⟩)
  · obtain rfl : x = c := by simpa using hx.symm
    have hS1 := hS.step 1
    have hb1 := But.one' w qg (.int .i64 ((1 : Nat) : Int))
    have HO := Lib.hid (one3 (t := t) h1 h2)
    clear hx
    go_wp2_with fail
    refine (second_any x _).mono ?_
    rintro e w' ⟨rfl, rfl⟩
    obtain ⟨lo, hlo⟩ : ∃ lo : Int, lo = (if x = 224 then 160 else if x = 240 then 144 else 128) := ⟨_, rfl⟩
    obtain ⟨hi, hhi⟩ : ∃ hi : Int, hi = (if x = 237 then 159 else if x = 244 then 143 else 191) := ⟨_, rfl⟩
    have HP : Hid (one (x :: t) = go 2 1 lo hi (x % 16) t) := Lib.hid (by rw [HO.out, hlo, hhi])
    rw [← hlo, ← hhi]
    clear HO hlo hhi
    go_wp2_with fail
    refine (next_any wr qg qb 1 v (x :: t) lo hi _ hS1 (by simp) hu).mono ?_
    rintro e w1 (⟨y, hy, h3, h4, rfl, rfl⟩ | ⟨hy, rfl, rfl⟩ | ⟨y, hy, h3, rfl, rfl⟩)
    · obtain ⟨t', rfl⟩ := hd_of (tl_of hy)
      have hyu := hu y (by simp)
      have hS2 := hS1.step 2
      have hb2 := hb1.setA (i := 0) (.int .i64 ((2 : Nat) : Int))
      clear hy
      go_wp2_with fail
      refine (next_any wr qg qb 2 v (x :: y :: t') 128 191 _ hS2 (by simp) hu).mono ?_
      rintro e w1 (⟨z, hz, h5, h6, rfl, rfl⟩ | ⟨hz, rfl, rfl⟩ | ⟨z, hz, h5, rfl, rfl⟩)
      · obtain ⟨t', rfl⟩ := hd_of (tl_of (tl_of hz))
        have hzu := hu z (by simp)
        clear hz
        go_wp2
        go_ret
        refine seqP (by rw [HP.out, go_hit h3 h4, go_hit h5 h6, go_zero]) (ret_int ?_) (hS2.step 3) (hb2.setA _)
        rw [and15 hcu, join6 (r := x % 16) (by omega) (by omega) hyu, join6 (by omega) (by omega) hzu]
      · obtain rfl := none_of (t := t') (by simpa using hz)
        go_wp2
        exact ⟨rfl, seqB (by rw [HP.out, go_hit h3 h4, go_nil]) hS2 hb2⟩
      · obtain ⟨t', rfl⟩ := hd_of (tl_of (tl_of hz))
        go_wp2
        exact ⟨rfl, seqB (by rw [HP.out, go_hit h3 h4, go_miss h5]) hS2 hb2⟩
    · obtain rfl := none_of (t := t) (by simpa using hy)
      go_wp2
      exact ⟨rfl, seqB (by rw [HP.out, go_nil]) hS1 hb1⟩
    · obtain ⟨t', rfl⟩ := hd_of (tl_of hy)
      go_wp2
      exact ⟨rfl, seqB (by rw [HP.out, go_miss h3]) hS1 hb1⟩
  · simp at hx
  · obtain rfl : x = c := by simpa using hx.symm
    omega

set_option maxHeartbeats 2000000 in
set_option maxRecDepth 1000000 in
theorem seq4 (wr : World) (qg qb : Nat) (v : Value) (c : Int) (t : List Int) (w : World) (hS : St wr w qg qb 0 v (c :: t)) (hu : ∀ x ∈ c :: t, 0 ≤ x ∧ x < 256) (hc : 240 ≤ c) :
    Calls Tryz.prog 162 #[.int .u8 c, .func (Fn.func 161) #[] #[.pointer (some ⟨qg, 0, none⟩), .pointer (some ⟨qb, 0, none⟩)]] w (SeqPost wr qg qb v (c :: t) w) := by
  have hcu := hu c (by simp)
  go_enter Tryz.func162, Tryz.ntmps162
  go_wp2_with fail
  refine (next_any wr qg qb 0 v (c :: t) 240 244 w hS (by simp) hu).mono ?_
  rintro e w1 (⟨x, hx, h1, h2, rfl, rfl⟩ | ⟨hx, rfl, rfl⟩ | ⟨x, hx, h1, rfl, rfl⟩)
  · obtain rfl : x = c := by simpa using hx.symm
    have hS1 := hS.step 1
    have hb1 := But.one' w qg (.int .i64 ((1 : Nat) : Int))
    have HO := Lib.hid (one4 (t := t) h1 h2)
    clear hx
    go_wp2_with fail
    refine (second_any x _).mono ?_
    rintro e w' ⟨rfl, rfl⟩
    obtain ⟨lo, hlo⟩ : ∃ lo : Int, lo = (if x = 224 then 160 else if x = 240 then 144 else 128) := ⟨_, rfl⟩
    obtain ⟨hi, hhi⟩ : ∃ hi : Int, hi = (if x = 237 then 159 else if x = 244 then 143 else 191) := ⟨_, rfl⟩
    have HP : Hid (one (x :: t) = go 3 1 lo hi (x % 8) t) := Lib.hid (by rw [HO.out, hlo, hhi])
    rw [← hlo, ← hhi]
    clear HO hlo hhi
    go_wp2_with fail
    refine (next_any wr qg qb 1 v (x :: t) lo hi _ hS1 (by simp) hu).mono ?_
    rintro e w1 (⟨y, hy, h3, h4, rfl, rfl⟩ | ⟨hy, rfl, rfl⟩ | ⟨y, hy, h3, rfl, rfl⟩)
    · obtain ⟨t', rfl⟩ := hd_of (tl_of hy)
      have hyu := hu y (by simp)
      have hS2 := hS1.step 2
      have hb2 := hb1.setA (i := 0) (.int .i64 ((2 : Nat) : Int))
      clear hy
      go_wp2_with fail
      refine (next_any wr qg qb 2 v (x :: y :: t') 128 191 _ hS2 (by simp) hu).mono ?_
      rintro e w1 (⟨z, hz, h5, h6, rfl, rfl⟩ | ⟨hz, rfl, rfl⟩ | ⟨z, hz, h5, rfl, rfl⟩)
      · obtain ⟨t', rfl⟩ := hd_of (tl_of (tl_of hz))
        have hzu := hu z (by simp)
        have hS3 := hS2.step 3
        have hb3 := hb2.setA (i := 0) (.int .i64 ((3 : Nat) : Int))
        clear hz
        go_wp2_with fail
        refine (next_any wr qg qb 3 v (x :: y :: z :: t') 128 191 _ hS3 (by simp) hu).mono ?_
        rintro e w1 (⟨u, hz, h7, h8, rfl, rfl⟩ | ⟨hz, rfl, rfl⟩ | ⟨u, hz, h7, rfl, rfl⟩)
        · obtain ⟨t', rfl⟩ := hd_of (tl_of (tl_of (tl_of hz)))
          have huu := hu u (by simp)
          clear hz
          go_wp2
          go_ret
          refine seqP (by rw [HP.out, go_hit h3 h4, go_hit h5 h6, go_hit h7 h8, go_zero]) (ret_int ?_) (hS3.step 4) (hb3.setA _)
          rw [and7 hcu, join6 (r := x % 8) (by omega) (by omega) hyu, join6 (r := x % 8 * 64 + y % 64) (by omega) (by omega) hzu, join6 (by omega) (by omega) huu]
        · obtain rfl := none_of (t := t') (by simpa using hz)
          go_wp2
          exact ⟨rfl, seqB (by rw [HP.out, go_hit h3 h4, go_hit h5 h6, go_nil]) hS3 hb3⟩
        · obtain ⟨t', rfl⟩ := hd_of (tl_of (tl_of (tl_of hz)))
          go_wp2
          exact ⟨rfl, seqB (by rw [HP.out, go_hit h3 h4, go_hit h5 h6, go_miss h7]) hS3 hb3⟩
      · obtain rfl := none_of (t := t') (by simpa using hz)
        go_wp2
        exact ⟨rfl, seqB (by rw [HP.out, go_hit h3 h4, go_nil]) hS2 hb2⟩
      · obtain ⟨t', rfl⟩ := hd_of (tl_of (tl_of hz))
        go_wp2
        exact ⟨rfl, seqB (by rw [HP.out, go_hit h3 h4, go_miss h5]) hS2 hb2⟩
    · obtain rfl := none_of (t := t) (by simpa using hy)
      go_wp2
      exact ⟨rfl, seqB (by rw [HP.out, go_nil]) hS1 hb1⟩
    · obtain ⟨t', rfl⟩ := hd_of (tl_of hy)
      go_wp2
      exact ⟨rfl, seqB (by rw [HP.out, go_miss h3]) hS1 hb1⟩
  · simp at hx
  · obtain rfl : x = c := by simpa using hx.symm
    go_wp2
    exact ⟨rfl, seqZ (one0 (by omega) (by omega)) hS⟩

theorem seq_any (wr : World) (qg qb : Nat) (v : Value) (c : Int) (t : List Int) (w : World) (hS : St wr w qg qb 0 v (c :: t)) (hu : ∀ x ∈ c :: t, 0 ≤ x ∧ x < 256) :
    Calls Tryz.prog 162 #[.int .u8 c, .func (Fn.func 161) #[] #[.pointer (some ⟨qg, 0, none⟩), .pointer (some ⟨qb, 0, none⟩)]] w (SeqPost wr qg qb v (c :: t) w) := by
  by_cases h1 : c < 128
  · exact seq1 wr qg qb v c t w hS hu h1
  by_cases h2 : c < 224
  · exact seq2 wr qg qb v c t w hS hu (by omega) h2
  by_cases h3 : c < 240
  · exact seq3 wr qg qb v c t w hS hu (by omega) h3
  · exact seq4 wr qg qb v c t w hS hu (by omega)
end Go.Proofs.YtahckikemljlnaaGreatDoor

namespace Go.Proofs.YtahckikemljlnaaGreatDoor
open Go.RowKit De

theorem cell5_of {w : World} {p : Nat} {a b c d e : Value} {t : TypeId} (h : w.heap[p]? = some (.cells #[a, b, c, d, e] t (0, 0))) :
    (w.cell? ⟨p, 0, none⟩ = some a ∧ w.cell? ⟨p, 1, none⟩ = some b ∧ w.cell? ⟨p, 2, none⟩ = some c ∧ w.cell? ⟨p, 3, none⟩ = some d ∧ w.cell? ⟨p, 4, none⟩ = some e) ∧
    (w.frozen? ⟨p, 0, none⟩ = false ∧ w.frozen? ⟨p, 1, none⟩ = false ∧ w.frozen? ⟨p, 2, none⟩ = false ∧ w.frozen? ⟨p, 3, none⟩ = false ∧ w.frozen? ⟨p, 4, none⟩ = false) := by
  simp [World.cell?, World.frozen?, h]

theorem set5 {w : World} {p : Nat} {a b c d e : Value} {t : TypeId} (h : w.heap[p]? = some (.cells #[a, b, c, d, e] t (0, 0))) (a' b' c' d' e' : Value) :
    (((((w.setCell ⟨p, 0, none⟩ a').setCell ⟨p, 1, none⟩ b').setCell ⟨p, 2, none⟩ c').setCell ⟨p, 3, none⟩ d').setCell ⟨p, 4, none⟩ e').heap[p]? = some (.cells #[a', b', c', d', e'] t (0, 0)) := by
  simp [World.setCell, Array.getElem?_modify, h]

def CatchPost (w : World) (qi qo : Nat) (f : Int) (g : Nat) (short : Bool) (x : Exit) (a : Act) (w' : World) : Prop :=
  x = .normal ∧ a.defers = [] ∧ w'.heap[qi]? = some (.cells #[.int .i32 65533, .int .i64 f, .int .i64 (f + max (g : Int) 1), .bool true, .bool (decide (0 < (g : Int)))] 149 (0, 0)) ∧
      w'.heap[qo]? = some (.cells #[.bool short] 4 (0, 0)) ∧ ∀ b, b ≤ qi → b ≤ qo → b ≤ w.heap.size → Below b w w'

set_option maxHeartbeats 1000000 in
set_option maxRecDepth 1000000 in
theorem catch_panic (qf qg qi qo : Nat) (f : Int) (g : Nat) (short : Bool) (w : World)
    (hF : w.heap[qf]? = some (.cells #[.int .i64 f] 3 (0, 0))) (hG : w.heap[qg]? = some (.cells #[.int .i64 g] 3 (0, 0)))
    (hI : w.heap[qi]? = some (.cells #[.int .i32 0, .int .i64 0, .int .i64 0, .bool false, .bool false] 149 (0, 0))) (hO : w.heap[qo]? = some (.cells #[.bool false] 4 (0, 0)))
    (hf : 0 ≤ f ∧ f ≤ 1000000000) (hg : g ≤ 4) (hd : qi ≠ qo) :
    CallsD Tryz.prog 160 #[.pointer (some ⟨qf, 0, none⟩), .pointer (some ⟨qg, 0, none⟩), .pointer (some ⟨qi, 0, none⟩), .pointer (some ⟨qo, 0, none⟩)] (.panicking ({ v := .iface 189 (.agg #[.bool short]), recovered := false } :: [])) w fun e u' w' =>
      e = .returned (.tuple #[]) ∧ u' = .panicking ({ v := .iface 189 (.agg #[.bool short]), recovered := true } :: []) ∧
      w'.heap[qi]? = some (.cells #[.int .i32 65533, .int .i64 f, .int .i64 (f + max (g : Int) 1), .bool true, .bool (decide (0 < (g : Int)))] 149 (0, 0)) ∧
      w'.heap[qo]? = some (.cells #[.bool short] 4 (0, 0)) ∧ ∀ b, b ≤ qi → b ≤ qo → b ≤ w.heap.size → Below b w w' := by
  have ta : ∀ w, (Instr.typeAssert (.iface 189 (.agg #[.bool short])) 20 189 true).run Tryz.prog w = .ok (.tuple #[.agg #[.bool short], .bool true]) w := fun w => by cases short <;> kernel_rfl
  obtain ⟨cF, fF⟩ := cell1_of hF
  obtain ⟨cG, fG⟩ := cell1_of hG
  obtain ⟨cO, fO⟩ := cell1_of hO
  refine callsD_of_wpS Tryz.func160 rfl fun c₀ cs hu => ?_
  simp only [Tryz.ntmps160, List.size_toArray, List.length_cons, List.length_nil, Nat.reduceAdd, Nat.reduceSub, Array.replicate_succ, Array.replicate_zero, List.push_toArray, List.append_toArray, List.nil_append, List.cons_append]
  have hrec : recov (c₀ :: cs) = (.iface 189 (.agg #[.bool short]), { c₀ with mode := .panicking ({ v := .iface 189 (.agg #[.bool short]), recovered := true } :: []) } :: cs) := by
    simp [recov, recoverD, hu]
  apply wpS_seq
  refine wpS_region_recover rfl rfl ?_
  rw [hrec]
  have HU := Lib.hid hu
  clear hrec hu
  obtain ⟨⟨i0, i1, i2, i3, i4⟩, j0, j1, j2, j3, j4⟩ := cell5_of hI
  have HI := Lib.hid (And.intro hI hO)
  have hlt : qi < w.heap.size := by rcases Nat.lt_or_ge qi w.heap.size with h | h; exact h; simp [h] at hI
  have hlo : qo < w.heap.size := by rcases Nat.lt_or_ge qo w.heap.size with h | h; exact h; simp [h] at hO
  have hlf : qf < w.heap.size := by rcases Nat.lt_or_ge qf w.heap.size with h | h; exact h; simp [h] at hF
  have hlg : qg < w.heap.size := by rcases Nat.lt_or_ge qg w.heap.size with h | h; exact h; simp [h] at hG
  clear hF hG hI hO
  go_wp2
  simp only [Exit.thenS]
  refine wpS_of_wp (wp_mono (Q := CatchPost w qi qo f g short) ?_ ?_)
  · go_wp2
    all_goals (
      obtain ⟨hI, hO⟩ := HI.out
      refine ⟨rfl, rfl, ?_, ?_, ?_⟩
      · rw [Below.heap_alloc _ _ _ (by simp [World.setCell]; omega), Below.heap_setCell _ _ _ _ (by simpa using hd), set5 hI]
        have e1 : (decide (0 < g)) = decide (0 < (g : Int)) := by simp
        have e2 : f + max (g : Int) 1 = f + (g : Int) ∨ f + max (g : Int) 1 = f + 1 := by omega
        rw [e1]
        first
          | (have : f + max (g : Int) 1 = f + (g : Int) := by omega
             rw [this])
          | (have : f + max (g : Int) 1 = f + 1 := by omega
             rw [this])
      · rw [Below.heap_alloc _ _ _ (by simp [World.setCell]; omega)]
        refine setc (a := .bool false) ?_ _
        rw [Below.heap_setCell _ _ _ _ (by simpa using fun e => hd e.symm), Below.heap_setCell _ _ _ _ (by simpa using fun e => hd e.symm), Below.heap_setCell _ _ _ _ (by simpa using fun e => hd e.symm), Below.heap_setCell _ _ _ _ (by simpa using fun e => hd e.symm), Below.heap_setCell _ _ _ _ (by simpa using fun e => hd e.symm)]
        exact hO
      · intro b h1 h2 h3
        exact ((((((((Below.refl b w).setCell h1 _).setCell h1 _).setCell h1 _).setCell h1 _).setCell h1 _).setCell h2 _).alloc (by simp [World.setCell]; exact h3) _))
  · rintro e a w' ⟨rfl, hdf, h1, h2, h3⟩
    refine ⟨hdf, _, rfl, .tuple #[], ?_, rfl, rfl, by simpa using h1, h2, h3⟩
    exact results_none rfl _ _ _

set_option maxHeartbeats 1000000 in
set_option maxRecDepth 1000000 in
theorem catch_idle (qf qg qi qo : Nat) (w : World) :
    CallsD Tryz.prog 160 #[.pointer (some ⟨qf, 0, none⟩), .pointer (some ⟨qg, 0, none⟩), .pointer (some ⟨qi, 0, none⟩), .pointer (some ⟨qo, 0, none⟩)] .returning w fun e u' w' =>
      e = .returned (.tuple #[]) ∧ u' = .returning ∧ w' = w.alloc (.cells #[.bool false] 189) := by
  have ta : ∀ w, (Instr.typeAssert .nilIface 20 189 true).run Tryz.prog w = .ok (.tuple #[.agg #[.bool false], .bool false]) w := fun w => by kernel_rfl
  refine callsD_of_wpS Tryz.func160 rfl fun c₀ cs hu => ?_
  simp only [Tryz.ntmps160, List.size_toArray, List.length_cons, List.length_nil, Nat.reduceAdd, Nat.reduceSub, Array.replicate_succ, Array.replicate_zero, List.push_toArray, List.append_toArray, List.nil_append, List.cons_append]
  have hrec : recov (c₀ :: cs) = (.nilIface, c₀ :: cs) := by
    simp [recov, recoverD, hu]
  apply wpS_seq
  refine wpS_region_recover rfl rfl ?_
  rw [hrec]
  have HU := Lib.hid hu
  clear hrec hu
  go_wp2
  simp only [Exit.thenS]
  refine wpS_of_wp (wp_mono (Q := fun x a w' => x = .normal ∧ a.defers = [] ∧ w' = w.alloc (.cells #[.bool false] 189)) ?_ ?_)
  · go_wp2
  · rintro e a w' ⟨rfl, hdf, rfl⟩
    exact ⟨hdf, .returning, by have := HU.out; cases c₀; simp_all, .tuple #[], results_none rfl _ _ _, rfl, rfl, rfl⟩
end Go.Proofs.YtahckikemljlnaaGreatDoor

namespace Go.Proofs.YtahckikemljlnaaGreatDoor
open Go.RowKit De

namespace De
theorem one_bad2 (l : List Int) (h : (one l).bad = true) : (one l).r = 65533 ∧ ((one l).more = true ∨ (one l).n = 1) := by
  cases l with
  | nil => simp [one]
  | cons c t =>
    simp only [one] at h ⊢
    split at h
    · rename_i hc; rw [if_pos hc]; simp
    · rename_i hc
      rw [if_neg hc]
      have := go_bad _ _ _ _ _ _ h
      exact ⟨this.1, .inl this.2.2⟩
end De

theorem fiveW (w : World) (o0 o1 o2 o3 o4 : Obj) (W : World) (h : W = ((((w.alloc o0).alloc o1).alloc o2).alloc o3).alloc o4) :
    W.heap[w.heap.size]? = some o0 ∧ W.heap[w.heap.size + 1]? = some o1 ∧ W.heap[w.heap.size + 1 + 1]? = some o2 ∧ W.heap[w.heap.size + 1 + 1 + 1]? = some o3 ∧ W.heap[w.heap.size + 1 + 1 + 1 + 1]? = some o4 := by
  subst h
  refine ⟨?_, ?_, ?_, ?_, ?_⟩
  · rw [Below.heap_alloc _ _ _ (by simp <;> omega), Below.heap_alloc _ _ _ (by simp <;> omega), Below.heap_alloc _ _ _ (by simp <;> omega), Below.heap_alloc _ _ _ (by simp)]
    exact heap_alloc_new w _
  · rw [Below.heap_alloc _ _ _ (by simp <;> omega), Below.heap_alloc _ _ _ (by simp <;> omega), Below.heap_alloc _ _ _ (by simp)]
    have := heap_alloc_new (w.alloc o0) o1
    simpa using this
  · rw [Below.heap_alloc _ _ _ (by simp <;> omega), Below.heap_alloc _ _ _ (by simp)]
    have := heap_alloc_new ((w.alloc o0).alloc o1) o2
    simpa using this
  · rw [Below.heap_alloc _ _ _ (by simp)]
    have := heap_alloc_new (((w.alloc o0).alloc o1).alloc o2) o3
    simpa using this
  · have := heap_alloc_new ((((w.alloc o0).alloc o1).alloc o2).alloc o3) o4
    simpa using this
def itc (f : Int) (x : It) : List Value := [.int .i32 x.r, .int .i64 f, .int .i64 (f + x.n), .bool x.bad, .bool x.more]

set_option maxHeartbeats 2000000 in
set_option maxRecDepth 1000000 in
theorem one_any (c : Int) (t : List Int) (v : Value) (f : Int) (w : World) (hr : Row w v (c :: t).length ((c :: t).map (Value.int .u8))) (hu : ∀ x ∈ c :: t, 0 ≤ x ∧ x < 256) (hf : 0 ≤ f ∧ f ≤ 1000000000) (hl : (c :: t).length ≤ 1000000) :
    Calls Tryz.prog 101 #[v, .int .i64 f] w fun e w' => e = .returned (.tuple #[.agg (itc f (one (c :: t))).toArray, .bool (one (c :: t)).opn]) ∧ Below w.heap.size w w' := by
  have hmf : ∀ (fn : Fn) (first cap : Array Value) (w : World), (Instr.makeFunc fn first cap).run Tryz.prog w = .ok (.func fn first cap) w := fun _ _ _ _ => rfl
  have hlen : (c :: t).length = t.length + 1 := rfl
  obtain ⟨b, off, cap, rfl, hbl, hcell⟩ : ∃ b off cap, v = .slice (some ⟨b, off, none⟩) (c :: t).length cap ∧ b < w.heap.size ∧ w.cell? ⟨b, off, none⟩ = some (.int .u8 c) := by
    obtain ⟨o, cap, rfl, h1, h2, h3⟩ := hr
    rcases h3 with ⟨h0, _⟩ | ⟨b, off, rfl, hb, hc⟩
    · simp at h0
    · exact ⟨b, off, cap, rfl, hb, by have := hc 0 (.int .u8 c) (by simp); simpa using this⟩
  have HR := Lib.hid hr
  obtain ⟨W5, hW5⟩ : ∃ W5, W5 = (((((w.alloc (.cells #[.slice (some ⟨b, off, none⟩) (t.length + 1) cap] 90)).alloc (.cells #[.int .i64 f] 3)).alloc (.cells #[.int .i32 0, .int .i64 0, .int .i64 0, .bool false, .bool false] 149)).alloc (.cells #[.bool false] 4)).alloc (.cells #[.int .i64 0] 3)) := ⟨_, rfl⟩
  have hbel : Below w.heap.size w W5 := by
    rw [hW5]
    exact (((((Below.refl _ _).alloc (Nat.le_refl _) _).alloc (by simp) _).alloc (by simp; omega) _).alloc (by simp; omega) _).alloc (by simp; omega) _
  have h5 : W5.cell? ⟨b, off, none⟩ = some (.int .u8 c) := by rw [hbel.cell hbl]; exact hcell
  have HB := Lib.hid (And.intro hbel hW5)
  have hz : W5.heap.size = w.heap.size + 1 + 1 + 1 + 1 + 1 := by rw [hW5]; simp
  have HZ := Lib.hid hz
  rw [hW5] at h5
  clear hz hbel hW5
  clear hr hlen
  go_enter_defers Tryz.func101, Tryz.ntmps101
  go_wp2_with fail
  obtain ⟨hbel, hW5⟩ := HB.out
  have hz := HZ.out
  obtain ⟨G0, G1, G2, G3, G4⟩ := fiveW w _ _ _ _ _ W5 hW5
  rw [← hW5]
  have hS : St w W5 (w.heap.size + 1 + 1 + 1 + 1) w.heap.size 0 (.slice (some ⟨b, off, none⟩) (t.length + 1) cap) (c :: t) :=
    ⟨G4, G0, HR.out, hbel, by omega, by omega, by omega, by omega⟩
  clear h5 hW5 HB hcell
  refine (seq_any w _ _ _ c t W5 hS hu).mono ?_
  rintro e w1 ⟨he, hS1, hbut⟩
  have F1 : w1.heap[w.heap.size + 1]? = some (.cells #[.int .i64 f] 3 (0, 0)) := by rw [hbut.block _ (by omega) (by omega) (by omega)]; exact G1
  have F2 : w1.heap[w.heap.size + 1 + 1]? = some (.cells #[.int .i32 0, .int .i64 0, .int .i64 0, .bool false, .bool false] 149 (0, 0)) := by rw [hbut.block _ (by omega) (by omega) (by omega)]; exact G2
  have F3 : w1.heap[w.heap.size + 1 + 1 + 1]? = some (.cells #[.bool false] 4 (0, 0)) := by rw [hbut.block _ (by omega) (by omega) (by omega)]; exact G3
  have F4 := hS1.good
  have hsz := hbut.size
  obtain ⟨x, hx⟩ : ∃ x, x = one (c :: t) := ⟨_, rfl⟩
  have hn := one_n (c :: t)
  have hb2 := one_bad2 (c :: t)
  have hg2 := one_good (c :: t) hu
  rw [← hx] at he hS1 F4 hn hb2 hg2
  have HE := Lib.hid hx
  have HX := Lib.hid (And.intro hn (And.intro hb2 (And.intro hg2 (And.intro hS1 (And.intro F2 F3)))))
  clear G0 G1 G2 G3 G4 hS hx HR hn hb2 hg2
  obtain ⟨c1, z1⟩ := cell1_of F1
  obtain ⟨c3, z3⟩ := cell1_of F3
  obtain ⟨c4, z4⟩ := cell1_of F4
  obtain ⟨⟨i0, i1, i2, i3, i4⟩, j0, j1, j2, j3, j4⟩ := cell5_of F2
  rcases he with ⟨hbad, rfl⟩ | ⟨hbad, rfl⟩
  · have hgd : gd x = x.n := by simp [gd, hbad]
    have Hb := Lib.hid hbad
    rw [hgd] at c4
    have hn4 := HX.out.1
    clear hS1 F1 F2 F3 F4 hgd hbad hbut
    go_wp2
    obtain ⟨W6, hW6⟩ : ∃ W6, W6 = ((((((w1.setCell ⟨w.heap.size + 1 + 1, 0, none⟩ (.int .i32 x.r)).setCell ⟨w.heap.size + 1 + 1, 1, none⟩ (.int .i64 f)).setCell ⟨w.heap.size + 1 + 1, 2, none⟩ (.int .i64 (f + (x.n : Int)))).setCell ⟨w.heap.size + 1 + 1, 3, none⟩ (.bool false)).setCell ⟨w.heap.size + 1 + 1, 4, none⟩ (.bool false)).setCell ⟨w.heap.size + 1 + 1 + 1, 0, none⟩ (.bool false)) := ⟨_, rfl⟩
    rw [← hW6]
    clear c1 z1 c3 z3 c4 z4 i0 i1 i2 i3 i4 j0 j1 j2 j3 j4
    have hb := Hb.out
    obtain ⟨hn, hb2, hg2, hS1, F2, F3⟩ := HX.out
    obtain ⟨g1, g2, g3, g4⟩ := hg2 hb
    have H2 : W6.heap[w.heap.size + 1 + 1]? = some (.cells #[.int .i32 x.r, .int .i64 f, .int .i64 (f + (x.n : Int)), .bool false, .bool false] 149 (0, 0)) := by
      rw [hW6, Below.heap_setCell _ _ _ _ (by simp)]; exact set5 F2 _ _ _ _ _
    have H3 : W6.heap[w.heap.size + 1 + 1 + 1]? = some (.cells #[.bool false] 4 (0, 0)) := by
      rw [hW6]; refine setc (a := .bool false) ?_ _
      rw [Below.heap_setCell _ _ _ _ (by simp), Below.heap_setCell _ _ _ _ (by simp), Below.heap_setCell _ _ _ _ (by simp), Below.heap_setCell _ _ _ _ (by simp), Below.heap_setCell _ _ _ _ (by simp)]; exact F3
    have HB6 : Below w.heap.size w W6 := by
      rw [hW6]; have q : w.heap.size ≤ w.heap.size + 1 + 1 := by omega
      exact (((((hS1.bel.setCell q _).setCell q _).setCell q _).setCell q _).setCell q _).setCell (Nat.le_succ_of_le q) _
    have hs6 := HB6.size
    clear hW6
    refine leaves_cons (f := 160) (args := #[.pointer (some ⟨w.heap.size + 1, 0, none⟩), .pointer (some ⟨w.heap.size + 1 + 1 + 1 + 1, 0, none⟩), .pointer (some ⟨w.heap.size + 1 + 1, 0, none⟩), .pointer (some ⟨w.heap.size + 1 + 1 + 1, 0, none⟩)]) (by simp) (by simp [go_sem]) ?_
    refine (catch_idle _ _ _ _ _).mono ?_
    rintro e u' w'' ⟨rfl, rfl, rfl⟩
    obtain ⟨W7, hW7⟩ : ∃ W7, W7 = W6.alloc (.cells #[.bool false] 189) := ⟨_, rfl⟩
    rw [← hW7]
    have K2 := H2
    have K3 := H3
    rw [← Below.heap_alloc W6 (.cells #[.bool false] 189) _ (by rcases Nat.lt_or_ge (w.heap.size + 1 + 1) W6.heap.size with h | h; exact h; simp [h] at H2), ← hW7] at K2
    rw [← Below.heap_alloc W6 (.cells #[.bool false] 189) _ (by rcases Nat.lt_or_ge (w.heap.size + 1 + 1 + 1) W6.heap.size with h | h; exact h; simp [h] at H3), ← hW7] at K3
    have HB7 : Below w.heap.size w W7 := by rw [hW7]; exact HB6.alloc HB6.size _
    clear hW7 H2 H3 HB6
    obtain ⟨c3, z3⟩ := cell1_of K3
    obtain ⟨⟨i0, i1, i2, i3, i4⟩, _⟩ := cell5_of K2
    simp [Leaves, settle, results, Tryz.results101, go_sem, c3, i0, i1, i2, i3, i4]
    rw [← HE.out]
    exact ⟨⟨by simp [itc, hb, g3], g4⟩, HB7⟩
  · have Hb := Lib.hid (And.intro hbad (And.intro F1 (And.intro F4 hbut)))
    clear hS1 F1 F2 F3 F4 hbad hbut
    go_wp2
    have hb := Hb.out.1
    obtain ⟨hn, hb2, hg2, hS1, F2, F3⟩ := HX.out
    obtain ⟨g1, g2⟩ := hb2 hb
    have hgd : gd x ≤ 4 := by unfold gd; split <;> omega
    refine leaves_cons (f := 160) (args := #[.pointer (some ⟨w.heap.size + 1, 0, none⟩), .pointer (some ⟨w.heap.size + 1 + 1 + 1 + 1, 0, none⟩), .pointer (some ⟨w.heap.size + 1 + 1, 0, none⟩), .pointer (some ⟨w.heap.size + 1 + 1 + 1, 0, none⟩)]) (by simp) (by simp [go_sem]) ?_
    refine (catch_panic _ _ _ _ f (gd x) x.opn w1 Hb.out.2.1 Hb.out.2.2.1 F2 F3 hf hgd (by omega)).mono ?_
    rintro e u' w7 ⟨rfl, rfl, K2, K3, hbel7⟩
    have HB7 : Below w.heap.size w w7 := hS1.bel.trans (hbel7 _ (by omega) (by omega) (by omega))
    obtain ⟨c3', z3'⟩ := cell1_of K3
    obtain ⟨⟨i0', i1', i2', i3', i4'⟩, _⟩ := cell5_of K2
    clear c1 z1 c3 z3 c4 z4 i0 i1 i2 i3 i4 j0 j1 j2 j3 j4
    simp [Leaves, settle, results, Tryz.results101, go_sem, c3', i0', i1', i2', i3', i4']
    rw [← HE.out]
    refine ⟨⟨?_, rfl⟩, HB7⟩
    have q1 : f + max ((gd x : Nat) : Int) 1 = f + (x.n : Int) := by
      unfold gd
      rcases g2 with g2 | g2
      · simp [g2]; omega
      · split <;> omega
    have q2 : decide (0 < gd x) = x.more := by
      unfold gd
      rcases g2 with g2 | g2
      · simp [g2]; omega
      · cases hm : x.more with
        | true => simp; omega
        | false => simp [hb]
    simp [itc, hb, g1, q1, q2]
end Go.Proofs.YtahckikemljlnaaGreatDoor

namespace Go.Proofs.YtahckikemljlnaaGreatDoor
open Go.RowKit

theorem infoByte : ∃ i, Tryz.prog.info? 5 = some i ∧ i.zero = some (.int .u8 0) ∧ i.size = 1 ∧ i.bytes = 1 := info_parts (by kernel_rfl)
theorem elemBytes : Tryz.prog.elem 90 = 5 := by kernel_rfl
theorem undBytes : Tryz.prog.underlying 90 = some (.slice (Tryz.prog.elem 90)) := by rw [elemBytes]; exact Tryz.underlying90
theorem sizeBytes (w' : World) : (sizeOf (Tryz.prog.elem 90)).run Tryz.prog w' = .ok 1 w' := by
  obtain ⟨i0, hi, hz0, hz1, hz2⟩ := infoByte
  rw [elemBytes]; simp [sizeOf, run_typeInfo _ hi, hz1, go_sem]
theorem cutB_l (o : Option Addr) (cap n : Nat) (cs : List Value) (hcs : cs.length = n) (k : Nat) (hk : k ≤ n) (hc : n ≤ cap) : ∃ o1 c1,
    (∀ w' : World, (Instr.sliceAt 90 (.slice o n cap) (some (.int .i64 k)) none none).run Tryz.prog w' = .ok (.slice o1 (n - k) c1) w') ∧
      ∀ w', Row w' (.slice o n cap) n cs → Row w' (.slice o1 (n - k) c1) (n - k) (cs.drop k) := by
  have e1 : ((k : Int)).toNat = k := by simp
  refine ⟨(if cap = k then o else o.map (·.add (k * 1))), cap - k, fun w' => ?_, fun w' hr => ?_⟩
  · rw [run_sliceAt_slice _ _ _ _ _ _ undBytes, run_slice_l w' 90 o n cap undBytes .i64 (k : Int) (by omega) (by omega), sizeBytes]
    rw [Result.andThen_ok, e1]
    unfold Go.sliced
    rfl
  · have h := hr.sliced hcs hk (Nat.le_refl n)
    unfold Go.sliced at h
    rw [List.take_of_length_le (by simp; omega)] at h
    exact h
end Go.Proofs.YtahckikemljlnaaGreatDoor

namespace Go.Proofs.YtahckikemljlnaaGreatDoor
open Go.RowKit De

theorem infoItem : ∃ i, Tryz.prog.info? 149 = some i ∧ i.zero = some (.agg #[.int .i32 0, .int .i64 0, .int .i64 0, .bool false, .bool false]) ∧ i.size = 5 ∧ i.bytes = 32 := info_parts (by kernel_rfl)
theorem ret_2 {u : Value} {k : IntKind} {a b : Int} (h : a = b) : Ending.returned (.tuple #[u, .int k a]) = .returned (.tuple #[u, .int k b]) := by rw [h]
theorem int_eq {k : IntKind} {a b : Int} (h : a = b) : Value.int k a = Value.int k b := by rw [h]
def itsc (L : List (Nat × It)) : List Value := L.flatMap fun p => itc p.1 p.2
theorem itsc_append (A B : List (Nat × It)) : itsc (A ++ B) = itsc A ++ itsc B := by simp [itsc]
theorem drop_map' (bs : List Int) (k : Nat) : (bs.map (Value.int .u8)).drop k = (bs.drop k).map (Value.int .u8) := by simp

theorem one_L (l : List Int) (h0 : l ≠ []) (v : Value) (f : Int) (w : World) (n : Nat) (hn : n = l.length) (hr : Row w v n (l.map (Value.int .u8))) (hu : ∀ x ∈ l, 0 ≤ x ∧ x < 256) (hf : 0 ≤ f ∧ f ≤ 1000000000) (hl : n ≤ 1000000) :
    Calls Tryz.prog 101 #[v, .int .i64 f] w fun e w' => e = .returned (.tuple #[.agg #[.int .i32 (one l).r, .int .i64 f, .int .i64 (f + (one l).n), .bool (one l).bad, .bool (one l).more], .bool (one l).opn]) ∧ Below w.heap.size w w' := by
  subst hn
  cases l with
  | nil => exact absurd rfl h0
  | cons c t => exact one_any c t v f w hr hu hf hl
theorem rowNew5 (w : World) (a b c d e : Value) (t : TypeId) (B : Nat) (hB : w.heap.size = B) : Row (w.alloc (.cells #[a, b, c, d, e] t)) (.slice (some ⟨B, 0, none⟩) 1 1) 1 [a, b, c, d, e] := by
  subst hB
  have h1 := World.ownsRow_lit (e := t) (base := w.heap.size) (size := 5) w #[a, b, c, d, e] 1 (Nat.le_refl _) (by decide) (by simp)
  simpa using Row.owned h1

theorem grown_item {w1 w2 : World} {o1 o2 : Obj} {row : Option Nat} (hg : ((w1.alloc o1).alloc o2).grownBy w2 row) (hr : ∀ j, row = some j → j < w1.heap.size) : w2.heap[w1.heap.size]? = some o1 := by
  rw [hg.block _ (by simp <;> omega) (fun e => by have := hr _ e.symm; omega), Below.heap_alloc _ _ _ (by simp)]
  exact heap_alloc_new w1 o1

set_option maxHeartbeats 2000000 in
set_option maxRecDepth 1000000 in
theorem whole_any (bs : List Int) (v : Value) (f : Nat) (w : World) (hr : Row w v bs.length (bs.map (Value.int .u8))) (hu : ∀ x ∈ bs, 0 ≤ x ∧ x < 256) (hf : f ≤ 100000000) (hl : bs.length ≤ 1000000) :
    Calls Tryz.prog 100 #[v, .int .i64 f] w fun e w' => ∃ u, e = .returned (.tuple #[u, .int .i64 ((bs.length - (wh f bs).2.length : Nat) : Int)]) ∧
      w'.ownsRow w.heap.size 149 5 u (wh f bs).1.length (itsc (wh f bs).1) ∧ Below w.heap.size w w' := by
  obtain ⟨ii, hi, hz0, hz1, hz2⟩ := infoItem
  have HR := Lib.hid hr
  have HU := Lib.hid hu
  obtain ⟨o, cap, rfl, hcap, hmax, _⟩ := hr
  clear hu
  go_enter Tryz.func100, Tryz.ntmps100
  go_wp2_with fail
  go_loopw [6, 7] (fun u i wr => ∃ (k : Nat) (A : List (Nat × It)), k ≤ bs.length ∧ i = .int .i64 k ∧ wr.ownsRow w.heap.size 149 5 u A.length (itsc A) ∧ Below w.heap.size w wr ∧ A.length ≤ k ∧
      wh f bs = (A ++ (wh (f + k) (bs.drop k)).1, (wh (f + k) (bs.drop k)).2))
    (fun _ i _ => bs.length - (intOf i).toNat)
  case atStart => exact ⟨0, [], Nat.zero_le _, rfl, World.ownsRow_nil _ _ _ _, Below.refl _ _, Nat.le_refl _, by simp⟩
  case round =>
    obtain ⟨k, A, hk, rfl, hown, hbel, hAk, hwh⟩ := hrel
    obtain ⟨wo, rfl⟩ : ∃ wo : World, wo = wr := ⟨_, rfl⟩
    by_cases hkt : k < bs.length
    · obtain ⟨o1, c1, hst, hsl⟩ := cutB_l o cap bs.length (bs.map (Value.int .u8)) (by simp) k hk hcap
      have hdl : bs.drop k = bs.getD k 0 :: bs.drop (k + 1) := by
        rw [List.drop_eq_getElem_cons hkt]; simp [List.getD, List.getElem?_eq_getElem hkt]
      have hrow := hsl wo (HR.out.below hbel)
      rw [drop_map'] at hrow
      have hlen : bs.length - k = (bs.drop k).length := by simp
      have HW := Lib.hid hwh
      obtain ⟨x, hx⟩ : ∃ x, x = one (bs.drop k) := ⟨_, rfl⟩
      have hn := one_n (bs.drop k)
      have hnl : x.n ≤ bs.length - k := by rw [hx, hlen]; exact hn.2.2 (by rw [hdl]; simp)
      have hn1 : 1 ≤ x.n := by rw [hx]; exact hn.1
      have hn4 : x.n ≤ 4 := by rw [hx]; exact hn.2.1
      obtain ⟨ov, cv, rfl⟩ := owns_slice hown
      have HO := Lib.hid (And.intro hown (And.intro hrow hbel))
      have HX := Lib.hid hx
      have HD := Lib.hid hdl
      have HL := Lib.hid hlen
      clear hwh hsl hrow hn hx hown hdl hlen
      go_wp2_with fail
      refine (one_L (bs.drop k) (by rw [HD.out]; simp) _ ((f : Int) + k) wo _ HL.out HO.out.2.1 (fun y hy => HU.out y (List.mem_of_mem_drop hy)) (by omega) (by omega)).mono ?_
      rintro e w1 ⟨rfl, hb1⟩
      rw [← HX.out]
      have hB1 : Below w.heap.size w w1 := HO.out.2.2.trans (hb1.mono HO.out.2.2.size)
      have hown1 := owns_below HO.out.1 hb1
      have hsz := hB1.size
      obtain ⟨r, n, bad, more, opn⟩ := x
      simp only at hnl hn1 hn4
      cases opn with
      | true =>
        have HO2 := Lib.hid (And.intro hown1 hB1)
        clear hown1 hB1 hb1
        go_wp2
        go_ret2
        have h := HW.out
        have hop : (one (bs.drop k)).opn = true := by rw [← HX.out]
        rw [wh_open hop] at h
        rw [h]
        refine ⟨_, ret_2 (by simp; omega), by simpa using HO2.out.1.alloc _, HO2.out.2.alloc (by omega) _⟩
      | false =>
        go_wp2_with (at_builtin; refine wpList_append_row _ rfl _ _ 88 rfl w.heap.size 149 ii (.agg #[.int .i32 0, .int .i64 0, .int .i64 0, .bool false, .bool false]) 5 32 Tryz.underlying88 hi hz0 hz1 hz2 rfl (by decide) _ _ _ rfl ((hown1.alloc _).alloc _) _ 1 [.int .i32 r, .int .i64 ((f : Int) + k), .int .i64 ((f : Int) + k + n), .bool bad, .bool more] rfl (rowNew5 _ _ _ _ _ _ _ _ (by simp)) rfl (by simp [Value.oneCell']) (by unfold maxLen; omega) (by omega) (by simp; omega) ?_; intro v' w2 hown2 hgrow2; have q5 := grown_item hgrow2 (fun j hj => (hown1.lt j hj).2); obtain ⟨⟨_, i1, i2, _, _⟩, _⟩ := cell5_of q5; have q6 : Below w.heap.size w w2 := ((hB1.alloc (by omega) _).alloc (by simp; omega) _).grown hgrow2 (by simp; omega) (fun j hj => (hown1.lt j hj).1); clear q5)
        have H3 := Lib.hid (And.intro hown2 q6)
        clear hown2 q6 hgrow2 hown1 hB1 hb1
        go_wp2
        go_roundw
        case rel =>
          refine ⟨k + n, A ++ [(f + k, ⟨r, n, bad, more, false⟩)], by omega, int_eq (by simp; omega), ?_, H3.out.2, by simp; omega, ?_⟩
          · have h := H3.out.1
            rw [itsc_append, List.length_append]
            simpa [itsc, itc] using h
          · have h := HW.out
            have hne : bs.drop k ≠ [] := by rw [HD.out]; simp
            have hop : (one (bs.drop k)).opn = false := by rw [← HX.out]
            rw [wh_cons hne hop, ← HX.out, List.drop_drop] at h
            rw [h]
            simp only [List.append_assoc, List.singleton_append, Nat.add_assoc]
        case measure => simp [intOf] <;> omega
    · have hkn : k = bs.length := by omega
      subst hkn
      have HW := Lib.hid hwh
      obtain ⟨ov, cv, rfl⟩ := owns_slice hown
      have HO := Lib.hid (And.intro hown hbel)
      clear hwh hown
      go_wp2
      go_ret2
      have h := HW.out
      rw [List.drop_length, wh_nil] at h
      rw [h]
      exact ⟨_, rfl, by simpa using HO.out.1, HO.out.2⟩
end Go.Proofs.YtahckikemljlnaaGreatDoor

namespace Go.Proofs.YtahckikemljlnaaGreatDoor
open Go.RowKit De

set_option maxHeartbeats 2000000 in
set_option maxRecDepth 1000000 in
theorem all_any (bs : List Int) (v : Value) (w : World) (hr : Row w v bs.length (bs.map (Value.int .u8))) (hu : ∀ x ∈ bs, 0 ≤ x ∧ x < 256) (hl : bs.length ≤ 1000000) :
    Calls Tryz.prog 43 #[v] w fun e w' => ∃ u, e = .returned u ∧ w'.ownsRow w.heap.size 149 5 u (all 0 bs).length (itsc (all 0 bs)) ∧ Below w.heap.size w w' := by
  obtain ⟨ii, hi, hz0, hz1, hz2⟩ := infoItem
  have HR := Lib.hid hr
  have HU := Lib.hid hu
  obtain ⟨o, cap, rfl, hcap, hmax, _⟩ := hr
  have hw := whole_any bs (.slice o bs.length cap) 0 w HR.out hu (by omega) hl
  have hrest := wh_rest 0 bs
  have hlen := wh_len 0 bs
  have HA : Hid (all 0 bs = (wh 0 bs).1 ++ (if (wh 0 bs).2 = [] then [] else [(0 + bs.length - (wh 0 bs).2.length, one (wh 0 bs).2)])) := Lib.hid rfl
  obtain ⟨A, R, hAR⟩ : ∃ A R, wh 0 bs = (A, R) := ⟨_, _, rfl⟩
  rw [hAR] at hw hrest hlen HA
  simp only at hw hrest hlen HA
  clear hAR hu
  obtain ⟨r1, r2, r3, r4⟩ := hrest
  go_enter Tryz.func43, Tryz.ntmps43
  go_wp2_with fail
  refine hw.mono ?_
  rintro e w1 ⟨u, rfl, hown, hb1⟩
  obtain ⟨ou, cu, rfl⟩ := owns_slice hown
  obtain ⟨k, hk⟩ : ∃ k, k = bs.length - R.length := ⟨_, rfl⟩
  have hkl : k ≤ bs.length := by omega
  rw [← hk]
  by_cases hR : R = []
  · subst hR
    simp only [List.length_nil, Nat.sub_zero] at hk
    have HO := Lib.hid (And.intro hown hb1)
    have hg : decide (k < bs.length) = false := by simp; omega
    clear hown hb1 r4 r3 hk
    go_wp2
    go_ret
    rw [HA.out]
    exact ⟨_, rfl, by simpa using HO.out.1, HO.out.2⟩
  · have hR1 : 0 < R.length := List.length_pos_iff.2 hR
    have hg : k < bs.length := by omega
    obtain ⟨o1, c1, hst, hsl⟩ := cutB_l o cap bs.length (bs.map (Value.int .u8)) (by simp) k hkl hcap
    have hrow := hsl w1 (HR.out.below hb1)
    rw [drop_map', show bs.drop k = R by rw [r4, hk]] at hrow
    have hl2 : bs.length - k = R.length := by omega
    have hc := one_L R hR (.slice o1 (bs.length - k) c1) k w1 (bs.length - k) hl2 hrow (fun y hy => HU.out y (by rw [r4] at hy; exact List.mem_of_mem_drop hy)) (by omega) (by omega)
    have HK := Lib.hid hk
    have HR4 := Lib.hid (And.intro r4 (And.intro r3 hl2))
    obtain ⟨x, hx⟩ : ∃ x, x = one R := ⟨_, rfl⟩
    rw [← hx] at hc
    have HX := Lib.hid hx
    clear hsl hrow r4 r3 hk hl2 hx
    go_wp2_with fail
    refine hc.mono ?_
    rintro e w2 ⟨rfl, hb2⟩
    have hown2 := owns_below hown hb2
    have hB2 : Below w.heap.size w w2 := hb1.trans (hb2.mono hb1.size)
    have hs2 := hB2.size
    clear hown hb1 hb2 hc hw
    go_wp2_with (at_builtin; refine wpList_append_row _ rfl _ _ 88 rfl w.heap.size 149 ii (.agg #[.int .i32 0, .int .i64 0, .int .i64 0, .bool false, .bool false]) 5 32 Tryz.underlying88 hi hz0 hz1 hz2 rfl (by decide) _ _ _ rfl ((hown2.alloc _).alloc _) _ 1 [.int .i32 x.r, .int .i64 (k : Int), .int .i64 ((k : Int) + x.n), .bool x.bad, .bool x.more] rfl (rowNew5 _ _ _ _ _ _ _ _ (by simp)) rfl (by simp [Value.oneCell']) (by unfold maxLen; omega) (by omega) (by simp; omega) ?_; intro v' w3 hown3 hgrow3; have q6 : Below w.heap.size w w3 := ((hB2.alloc (by omega) _).alloc (by simp; omega) _).grown hgrow3 (by simp; omega) (fun j hj => (hown2.lt j hj).1))
    have H3 := Lib.hid (And.intro hown3 q6)
    clear hown3 q6 hgrow3 hown2 hB2
    go_wp2
    go_ret
    rw [HA.out, if_neg hR]
    refine ⟨_, rfl, ?_, H3.out.2⟩
    have h := H3.out.1
    rw [itsc_append, List.length_append, ← HX.out]
    have ek : 0 + bs.length - R.length = k := by rw [HK.out]; omega
    rw [ek]
    simpa [itsc, itc] using h

end Go.Proofs.YtahckikemljlnaaGreatDoor
