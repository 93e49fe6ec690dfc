/- Words of a text with blanks put in, and a note behind it: the mathematics. -/
import Derived.Test.YtkngppkchaadhaaWordLaw1
set_option linter.unusedVariables false
set_option linter.unusedSimpArgs false
namespace Go.Proofs.Ytkngppkchaadhaa
open Go.RowKit De Wd

namespace Wd
/-- runes' bytes, one behind the other -/
def pts (l : List Int) : List Int := l.flatMap put
theorem pts_cons (r : Int) (l : List Int) : pts (r :: l) = put r ++ pts l := by simp [pts]
theorem pts_app (a b : List Int) : pts (a ++ b) = pts a ++ pts b := by simp [pts]
theorem pts_good : ∀ (l : List Int) (a : Nat), ∀ p ∈ all a (pts l), p.2.bad = false := by
  intro l
  induction l with
  | nil => intro a p hp; simp [pts, all_nil] at hp
  | cons r l ih =>
    intro a p hp
    have hl := (put_len r).1
    have hne : put r ++ pts l ≠ [] := by intro e; rw [List.append_eq_nil_iff] at e; rw [e.1] at hl; simp at hl
    rw [pts_cons, all_cons a _ hne, one_putf, List.mem_cons] at hp
    rcases hp with rfl | hp
    · rfl
    · rw [List.drop_left] at hp
      exact ih _ p hp
theorem fb_pts (R : List Int) : fb (pts R) = (pts R).length := by
  unfold fb
  have : (all 0 (pts R)).find? (·.2.bad) = none := by
    rw [List.find?_eq_none]; intro p hp; simp [pts_good R 0 p hp]
  rw [this]
theorem all_lt : ∀ (n a : Nat) (l : List Int), l.length ≤ n → ∀ p ∈ all a l, p.1 < a + l.length := by
  intro n
  induction n with
  | zero => intro a l h p hp; have : l = [] := List.eq_nil_of_length_eq_zero (by omega); subst this; rw [all_nil] at hp; simp at hp
  | succ n ih =>
    intro a l h p hp
    by_cases hl : l = []
    · subst hl; rw [all_nil] at hp; simp at hp
    · rw [all_cons a l hl, List.mem_cons] at hp
      have h1 := (one_n l).1
      have h2 := (one_n l).2.2 hl
      rcases hp with rfl | hp
      · simp; omega
      · have := ih _ _ (by rw [List.length_drop]; omega) p hp
        rw [List.length_drop] at this
        omega
theorem all_good : ∀ (n : Nat) (l : List Int) (a : Nat), l.length ≤ n → (∀ x ∈ l, 0 ≤ x ∧ x < 256) → (∀ p ∈ all a l, p.2.bad = false) → ∃ R, l = pts R := by
  intro n
  induction n with
  | zero => intro l a h _ _; exact ⟨[], by have : l = [] := List.eq_nil_of_length_eq_zero (by omega); subst this; rfl⟩
  | succ n ih =>
    intro l a h hu hg
    by_cases hl : l = []
    · exact ⟨[], by subst hl; rfl⟩
    rw [all_cons a l hl] at hg
    have hb := hg _ (List.mem_cons_self ..)
    simp only at hb
    obtain ⟨_, hp, _, _⟩ := one_good l hu hb
    have h1 := (one_n l).1
    obtain ⟨R, hR⟩ := ih (l.drop (De.one l).n) (a + (De.one l).n) (by rw [List.length_drop]; omega) (fun x hx => hu x (List.drop_subset _ _ hx)) (fun p hp => hg p (List.mem_cons_of_mem _ hp))
    refine ⟨(De.one l).r :: R, ?_⟩
    rw [pts_cons, hp, ← hR, List.take_append_drop]
theorem fb_full {l : List Int} (hu : ∀ x ∈ l, 0 ≤ x ∧ x < 256) (h : ¬ fb l < l.length) : ∃ R, l = pts R := by
  refine all_good l.length l 0 (Nat.le_refl _) hu fun p hp => ?_
  cases hb : p.2.bad with
  | false => rfl
  | true =>
    exfalso
    unfold fb at h
    cases hf : (all 0 l).find? (·.2.bad) with
    | none => rw [List.find?_eq_none] at hf; exact hf p hp hb
    | some q =>
      rw [hf] at h
      simp only at h
      have hm := List.mem_of_find?_eq_some hf
      obtain ⟨k, hk⟩ := List.mem_iff_getElem?.1 hm
      have := fb_le l
      unfold fb at this
      rw [hf] at this
      simp only at this
      have e : q.1 = l.length := by omega
      exact absurd (all_lt l.length 0 l (Nat.le_refl _) q hm) (by omega)
theorem put_high (r : Int) : put r = [fix r] ∨ ∀ c ∈ put r, 128 ≤ c := by
  rw [← put_fix r]
  rcases put_cases (fix r) (fix_scl r) with ⟨_, h⟩ | ⟨h1, h2, h⟩ | ⟨h1, h2, h⟩ | ⟨h1, h⟩
  · exact .inl h
  all_goals
    right
    rw [h]
    intro c hc
    simp at hc
    omega
/-- a text of runes may be cut ahead of a plain letter -/
theorem pts_cut : ∀ (R : List Int) (b : Nat) (c : Int), (pts R)[b]? = some c → c < 128 → ∃ A B, (pts R).take b = pts A ∧ (pts R).drop b = pts B := by
  intro R
  induction R with
  | nil => intro b c h; simp [pts] at h
  | cons r R ih =>
    intro b c h hc
    by_cases hb0 : b = 0
    · subst hb0; exact ⟨[], r :: R, by simp [pts], by simp⟩
    rw [pts_cons] at h ⊢
    by_cases hb : b < (put r).length
    · exfalso
      rw [List.getElem?_append_left hb] at h
      rcases put_high r with hp | hp
      · rw [hp] at hb; simp at hb; omega
      · have := hp c (List.mem_of_getElem? h); omega
    · rw [List.getElem?_append_right (by omega)] at h
      obtain ⟨A, B, h1, h2⟩ := ih _ _ h hc
      refine ⟨r :: A, B, ?_, ?_⟩
      · rw [List.take_append, List.take_of_length_le (by omega), h1, pts_cons]
      · rw [List.drop_append, List.drop_of_length_le (by omega), h2, List.nil_append]
theorem pts_asc {l : List Int} (h : ∀ x ∈ l, 0 ≤ x ∧ x < 128) : pts l = l := by
  induction l with
  | nil => rfl
  | cons c t ih =>
    have hc := h c (by simp)
    have hs : scl c := ⟨hc.1, by omega, by omega⟩
    rw [pts_cons, ih fun x hx => h x (by simp [hx])]
    rcases put_cases c hs with ⟨_, e⟩ | ⟨h1, _⟩ | ⟨h1, _⟩ | ⟨h1, _⟩
    · rw [e]; rfl
    all_goals omega

theorem rn_full {p : Int → Bool} : ∀ {A B C : List Int}, rn p (A ++ B) = A.length → (∀ c, C.head? = some c → p c = false) → rn p (A ++ C) = A.length := by
  intro A
  induction A with
  | nil =>
    intro B C h hc
    cases C with
    | nil => rfl
    | cons c t => simp [rn, hc c rfl]
  | cons a A ih =>
    intro B C h hc
    simp only [List.cons_append, rn, List.length_cons] at h ⊢
    split at h
    · rename_i ha
      rw [if_pos ha, ih (B := B) (by omega) hc]
    · omega
theorem rn_stop {p : Int → Bool} : ∀ {A B : List Int}, rn p (A ++ B) = A.length → ∀ c, B.head? = some c → p c = false := by
  intro A
  induction A with
  | nil =>
    intro B h c hc
    cases B with
    | nil => simp at hc
    | cons b t =>
      simp at hc; subst hc
      cases hp : p b with
      | false => rfl
      | true => simp [rn, hp] at h
  | cons a A ih =>
    intro B h c hc
    simp only [List.cons_append, rn, List.length_cons] at h
    split at h
    · exact ih (by omega) c hc
    · omega
theorem ex_more : ∀ {e : Bool} {A B C : List Int} {n : Nat}, ex e (A ++ B) = some n → n < A.length → ex e (A ++ C) = some n := by
  intro e A
  induction A generalizing e with
  | nil => intro B C n h hn; simp at hn
  | cons a A ih =>
    intro B C n h hn
    simp only [List.cons_append, ex, List.length_cons] at h hn ⊢
    split at h
    · cases h
    rename_i h10
    rw [if_neg h10]
    split at h
    · rename_i he
      rw [if_pos he]
      simp only [Option.map_eq_some_iff] at h ⊢
      obtain ⟨m, hm, rfl⟩ := h
      exact ⟨m, ih hm (by omega), rfl⟩
    rename_i he
    rw [if_neg he]
    split at h
    · rename_i h47; rw [if_pos h47]; exact h
    · rename_i h47
      rw [if_neg h47]
      simp only [Option.map_eq_some_iff] at h ⊢
      obtain ⟨m, hm, rfl⟩ := h
      exact ⟨m, ih hm (by omega), rfl⟩
/-- a word is one with other things behind it -/
theorem wd_more {A B C : List Int} {x : Wt} (h : wd (A ++ B) = some x) (hz : x.z = A.length) (hC : C.head? = B.head? ∨ C.head? = some 10 ∨ (C.head? = some 32 ∧ A.head? ≠ some 35)) : wd (A ++ C) = some x := by
  have hz1 := (wd_ok h).1
  cases A with
  | nil => simp at hz; omega
  | cons c t =>
    simp only [List.cons_append, wd] at h ⊢
    have key : ∀ (p : Int → Bool), p 10 = false → (p 32 = false ∨ c = 35) → rn p (c :: (t ++ B)) = (c :: t).length → rn p (c :: (t ++ C)) = (c :: t).length := by
      intro p h10 h32 hr
      refine rn_full (A := c :: t) (B := B) hr fun d hd => ?_
      rcases hC with e | e | ⟨e, e2⟩
      · exact rn_stop (A := c :: t) hr d (by rw [← e]; exact hd)
      · rw [hd] at e; cases e; exact h10
      · rw [hd] at e; cases e
        rcases h32 with h | h
        · exact h
        · subst h; simp at e2
    split at h
    · rename_i h1; rw [if_pos h1]; exact h
    rename_i h1; rw [if_neg h1]
    split at h
    · rename_i h2; rw [if_pos h2]
      simp only [Option.some.injEq] at h ⊢
      subst h
      simp only at hz ⊢
      rw [hz, key notNl (by decide) (.inr h2) hz]
    rename_i h2; rw [if_neg h2]
    split at h
    · rename_i h3; rw [if_pos h3]; exact h
    rename_i h3; rw [if_neg h3]
    split at h
    · rename_i h4; rw [if_pos h4]
      simp only [Option.map_eq_some_iff] at h ⊢
      obtain ⟨n, hn, rfl⟩ := h
      simp only [List.length_cons] at hz
      exact ⟨n, ex_more hn (by omega), rfl⟩
    rename_i h4; rw [if_neg h4]
    split at h
    · rename_i h5; rw [if_pos h5]
      simp only [Option.some.injEq] at h ⊢
      subst h
      simp only at hz ⊢
      rw [hz, key lowDig (by decide) (.inl (by decide)) hz]
    rename_i h5; rw [if_neg h5]
    split at h
    · rename_i h6; rw [if_pos h6]
      simp only [Option.some.injEq] at h ⊢
      subst h
      simp only at hz ⊢
      rw [hz, key isDig (by decide) (.inl (by decide)) hz]
    rename_i h6; rw [if_neg h6]
    exact h
/-- places moved by n -/
def mv (n : Nat) (W : List (Nat × Wt)) : List (Nat × Wt) := W.map fun p => (p.1 + n, p.2)
theorem sc_move (n a : Nat) (l : List Int) : sc (a + n) l = (mv n (sc a l).1, (sc a l).2.map (· + n)) := by
  refine sc_ind (P := fun a l => sc (a + n) l = (mv n (sc a l).1, (sc a l).2.map (· + n))) ?_ ?_ ?_ a l
  · intro a; rw [sc_nil, sc_nil]; rfl
  · intro a l hl h; rw [sc_none hl h, sc_none hl h]; rfl
  · intro a l x h ih
    rw [sc_cons h, sc_cons h]
    rw [show a + n + x.z = a + x.z + n from by omega, ih]
    split <;> simp [mv]
theorem sc_blanks (n a : Nat) (l : List Int) : sc a (List.replicate n 32 ++ l) = sc (a + n) l := by
  induction n generalizing a with
  | zero => rfl
  | succ n ih =>
    rw [List.replicate_succ, List.cons_append, sc_cons (x := ⟨0, 0, 0, 1⟩) (by simp [wd])]
    simp only [List.drop_succ_cons, List.drop_zero, if_true]
    rw [ih, show a + 1 + n = a + (n + 1) from by omega]
/-- a line's end behind a text, and whatever follows -/
theorem sc_line (a : Nat) (l t : List Int) (h : (sc a l).2 = none) : sc a (l ++ 10 :: t) = ((sc a l).1 ++ (sc (a + l.length) (10 :: t)).1, (sc (a + l.length) (10 :: t)).2) := by
  revert h
  refine sc_ind (P := fun a l => (sc a l).2 = none → sc a (l ++ 10 :: t) = ((sc a l).1 ++ (sc (a + l.length) (10 :: t)).1, (sc (a + l.length) (10 :: t)).2)) ?_ ?_ ?_ a l
  · intro a _; rw [sc_nil]; simp
  · intro a l hl h h2; rw [sc_none hl h] at h2; cases h2
  · intro a l x h ih h2
    have h1 := (wd_ok h).2.1
    rw [sc_cons h] at h2 ⊢
    have ih := ih h2
    have hw : wd (l ++ 10 :: t) = some x := by
      have e1 : l = l.take x.z ++ l.drop x.z := (List.take_append_drop _ _).symm
      rw [e1] at h
      have := wd_more (C := l.drop x.z ++ 10 :: t) h (by simp; omega) (by
        cases hd : l.drop x.z with
        | nil => right; left; rfl
        | cons c r => left; rfl)
      rwa [← List.append_assoc, List.take_append_drop] at this
    rw [sc_cons hw, List.drop_append_of_le_length h1, ih, List.length_drop, show a + x.z + (l.length - x.z) = a + l.length from by omega]
    split <;> simp
/-- n blanks put in at d -/
def ins (n d : Nat) (l : List Int) : List Int := l.take d ++ (List.replicate n 32 ++ l.drop d)
/-- the places behind, moved -/
def sh (n b : Nat) (W : List (Nat × Wt)) : List (Nat × Wt) := W.map fun p => (if p.1 < b then p.1 else p.1 + n, p.2)
theorem sh_all {n b : Nat} {W : List (Nat × Wt)} (h : ∀ p ∈ W, b ≤ p.1) : sh n b W = mv n W := by
  refine List.map_congr_left fun p hp => ?_
  rw [if_neg (by have := h p hp; omega)]
theorem rn_cross {p : Int → Bool} : ∀ {A B C : List Int}, rn p (A ++ B) = A.length → rn p (A ++ C) = A.length + rn p C := by
  intro A
  induction A with
  | nil => intro B C h; simp
  | cons a A ih =>
    intro B C h
    simp only [List.cons_append, rn, List.length_cons] at h ⊢
    split at h
    · rename_i ha
      rw [if_pos ha, ih (B := B) (by omega)]; omega
    · omega
theorem rn_rep (n : Nat) : rn notNl (List.replicate n 32) = n := by
  induction n with
  | zero => rfl
  | succ n ihn => rw [List.replicate_succ, rn_hit (by decide), ihn]
theorem sc_ins (n a : Nat) (l : List Int) (h : (sc a l).2 = none) : ∀ b x, (b, x) ∈ (sc a l).1 → sc a (ins n (b - a) l) = (sh n b (sc a l).1, none) := by
  revert h
  refine sc_ind (P := fun a l => (sc a l).2 = none → ∀ b x, (b, x) ∈ (sc a l).1 → sc a (ins n (b - a) l) = (sh n b (sc a l).1, none)) ?_ ?_ ?_ a l
  · intro a _ b x hm; rw [sc_nil] at hm; simp at hm
  · intro a l hl h h2; rw [sc_none hl h] at h2; cases h2
  · intro a l y h ih h2 b x hm
    have hp := (sc_parts a l).1
    by_cases hba : b = a
    · subst hba
      rw [Nat.sub_self]
      show sc b (List.replicate n 32 ++ l) = _
      rw [sc_blanks, sc_move, h2, sh_all]
      · rfl
      · intro p hp'
        obtain ⟨k, hk⟩ := List.mem_iff_getElem?.1 hp'
        exact (hp k p.1 p.2 hk).1
    have hz := (wd_ok h).2.1
    have hz1 := (wd_ok h).1
    have hsc := sc_cons (a := a) h
    have h2' : (sc (a + y.z) (l.drop y.z)).2 = none := by rw [hsc] at h2; exact h2
    have hm' : (b, x) ∈ (sc (a + y.z) (l.drop y.z)).1 := by
      rw [hsc] at hm
      simp only at hm
      split at hm
      · exact hm
      · simp only [List.mem_cons, Prod.mk.injEq] at hm
        rcases hm with ⟨e, _⟩ | hm
        · exact absurd e hba
        · exact hm
    obtain ⟨k, hk⟩ := List.mem_iff_getElem?.1 hm'
    obtain ⟨q1, q2, q3, q4⟩ := (sc_parts (a + y.z) (l.drop y.z)).1 k b x hk
    rw [List.length_drop] at q2
    have ih := ih h2' b x hm'
    have hlt : a < b := by omega
    have hab : sh n b (sc a l).1 = if y.k = 0 then sh n b (sc (a + y.z) (l.drop y.z)).1 else (a, y) :: sh n b (sc (a + y.z) (l.drop y.z)).1 := by
      rw [hsc]
      split <;> simp [sh, hlt]
    rw [hab]
    have e1 : ins n (b - a) l = l.take y.z ++ ins n (b - (a + y.z)) (l.drop y.z) := by
      unfold ins
      rw [List.drop_drop, show y.z + (b - (a + y.z)) = b - a from by omega, ← List.append_assoc (l.take y.z), ← List.take_add, show y.z + (b - (a + y.z)) = b - a from by omega]
    have hl1 : (l.take y.z).length = y.z := by simp; omega
    have e2 : l = l.take y.z ++ l.drop y.z := (List.take_append_drop _ _).symm
    have h' := h
    rw [e2] at h'
    by_cases hnote : b = a + y.z ∧ l.head? = some 35
    · -- the note takes the blanks
      obtain ⟨rfl, hh⟩ := hnote
      rw [e1, Nat.sub_self]
      show sc a (l.take y.z ++ (List.replicate n 32 ++ l.drop y.z)) = _
      have hhead : ∃ t, l = 35 :: t := by
        cases l with
        | nil => simp at hh
        | cons c t => simp at hh; exact ⟨t, by rw [hh]⟩
      obtain ⟨t, ht⟩ := hhead
      have hy : y = ⟨0, 0, 0, rn notNl l⟩ := by
        rw [ht] at h ⊢
        simp only [wd] at h
        rw [if_neg (by decide), if_pos trivial] at h
        simpa using h.symm
      have hrn : rn notNl (l.take y.z ++ l.drop y.z) = (l.take y.z).length := by rw [← e2, hl1, hy]
      have hstop := rn_stop hrn
      have hw : wd (l.take y.z ++ (List.replicate n 32 ++ l.drop y.z)) = some ⟨0, 0, 0, y.z + n⟩ := by
        have hr2 : rn notNl (l.take y.z ++ (List.replicate n 32 ++ l.drop y.z)) = y.z + n := by
          rw [rn_cross hrn, hl1]
          have : rn notNl (List.replicate n 32 ++ l.drop y.z) = (List.replicate n (32 : Int)).length := by
            refine rn_full (B := []) ?_ hstop
            rw [List.append_nil, List.length_replicate, rn_rep]
          rw [this, List.length_replicate]
        obtain ⟨u, hu⟩ : ∃ u, l.take y.z ++ (List.replicate n 32 ++ l.drop y.z) = 35 :: u := by
          rw [ht]
          obtain ⟨z, hz⟩ : ∃ z, y.z = z + 1 := ⟨y.z - 1, by omega⟩
          rw [hz]
          exact ⟨_, rfl⟩
        rw [hu] at hr2 ⊢
        simp only [wd]
        rw [if_neg (by decide), if_pos trivial, hr2]
      rw [sc_cons hw]
      simp only [if_true]
      have hyk : y.k = 0 := by rw [hy]
      rw [if_pos hyk]
      have hd : (l.take y.z ++ (List.replicate n 32 ++ l.drop y.z)).drop (y.z + n) = l.drop y.z := by
        rw [← List.append_assoc, List.drop_left' (by simp; omega)]
      rw [hd, show a + (y.z + n) = a + y.z + n from by omega, sc_move, h2', sh_all]
      · rfl
      · intro p hp'
        obtain ⟨k, hk⟩ := List.mem_iff_getElem?.1 hp'
        exact ((sc_parts (a + y.z) (l.drop y.z)).1 k p.1 p.2 hk).1
    · have hw : wd (l.take y.z ++ ins n (b - (a + y.z)) (l.drop y.z)) = some y := by
        refine wd_more h' hl1.symm ?_
        by_cases hb2 : b = a + y.z
        · rw [show b - (a + y.z) = 0 from by omega]
          show (List.replicate n 32 ++ l.drop y.z).head? = _ ∨ (List.replicate n 32 ++ l.drop y.z).head? = _ ∨ ((List.replicate n 32 ++ l.drop y.z).head? = _ ∧ _)
          cases n with
          | zero => left; rfl
          | succ n =>
            right; right
            refine ⟨rfl, ?_⟩
            intro e
            refine hnote ⟨hb2, ?_⟩
            rw [List.head?_take] at e
            split at e
            · cases e
            · exact e
        · left
          obtain ⟨d, hd⟩ : ∃ d, b - (a + y.z) = d + 1 := ⟨b - (a + y.z) - 1, by omega⟩
          rw [hd]
          unfold ins
          cases hdl : l.drop y.z with
          | nil => rw [← List.length_eq_zero_iff, List.length_drop] at hdl; omega
          | cons c r => simp
      rw [e1, sc_cons hw]
      have hd : (l.take y.z ++ ins n (b - (a + y.z)) (l.drop y.z)).drop y.z = ins n (b - (a + y.z)) (l.drop y.z) := List.drop_left' hl1
      rw [hd, ih]
theorem wd_low128 {l : List Int} {x : Wt} (h : wd l = some x) (hk : x.k ≠ 0) : ∃ c, l[0]? = some c ∧ c < 128 := by
  cases l with
  | nil => simp [wd] at h
  | cons c t =>
    refine ⟨c, rfl, ?_⟩
    simp only [wd] at h
    split at h
    · cases h; simp at hk
    split at h
    · omega
    split at h
    · omega
    split at h
    · omega
    split at h
    · rename_i h5; have : 97 ≤ c ∧ c ≤ 122 := of_decide_eq_true h5; omega
    split at h
    · rename_i h6; have : 48 ≤ c ∧ c ≤ 57 := of_decide_eq_true h6; omega
    split at h
    · rename_i h7
      have : c ∈ signs := of_decide_eq_true h7
      simp only [signs, List.mem_cons, List.not_mem_nil, or_false] at this
      omega
    · cases h
def noteL : List Int := [35, 32, 116, 111, 107, 32, 63, 32, 110, 111, 116, 104, 105, 110, 103]
/-- blanks ahead of a word, a note behind: the same words -/
theorem rs_blanks {l : List Int} {W : List (Nat × Wt)} (hu : ∀ x ∈ l, 0 ≤ x ∧ x < 256) (hl : l.length ≤ 100) (h : rs l = .ok W) {b n : Nat} {x : Wt} (hm : (b, x) ∈ W) (hn : n ≤ 5) :
    rs (ins n b l ++ 10 :: noteL) = .ok (sh n b W ++ [(l.length + n, ⟨5, 0, 0, 1⟩)]) := by
  obtain ⟨hW, hs, _, hf⟩ := rs_ok_sc h
  obtain ⟨k, hk⟩ := List.mem_iff_getElem?.1 hm
  obtain ⟨_, q2, q3, q4⟩ := (sc_parts 0 l).1 k b x (by rw [hW]; exact hk)
  rw [Nat.sub_zero] at q2 q3
  obtain ⟨c, hc, hc2⟩ := wd_low128 q3 q4
  rw [List.getElem?_drop, Nat.add_zero] at hc
  obtain ⟨R, hR⟩ := fb_full hu hf
  obtain ⟨A, B, hA, hB⟩ := pts_cut R b c (by rw [← hR]; exact hc) hc2
  rw [← hR] at hA hB
  have hlen : (ins n b l).length = l.length + n := by simp [ins]; omega
  have hP : ins n b l ++ 10 :: noteL = pts (A ++ (List.replicate n 32 ++ B) ++ 10 :: noteL) := by
    rw [pts_app, pts_app, pts_app, pts_asc (l := List.replicate n 32) (by intro x hx; rw [List.mem_replicate] at hx; omega), pts_asc (l := 10 :: noteL) (by decide), ← hA, ← hB]
    rfl
  have hfb := fb_pts (A ++ (List.replicate n 32 ++ B) ++ 10 :: noteL)
  rw [← hP] at hfb
  have hi := sc_ins n 0 l hs b x (by rw [hW]; exact hm)
  rw [Nat.sub_zero] at hi
  have hsl := sc_line 0 (ins n b l) noteL (by rw [hi])
  have he : sc (l.length + n) (10 :: noteL) = ([(l.length + n, ⟨5, 0, 0, 1⟩)], none) := by
    rw [sc_cons (x := ⟨5, 0, 0, 1⟩) rfl]
    have : sc (l.length + n + 1) noteL = ([], none) := by
      rw [sc_cons (x := ⟨0, 0, 0, 15⟩) rfl]
      show (if (0 : Int) = 0 then (sc (l.length + n + 1 + 15) []).1 else _, (sc (l.length + n + 1 + 15) []).2) = _
      rw [sc_nil]; rfl
    show (if (5 : Int) = 0 then _ else (l.length + n, _) :: (sc (l.length + n + 1) noteL).1, (sc (l.length + n + 1) noteL).2) = _
    rw [this]; rfl
  rw [hi, hlen, Nat.zero_add, he, hW] at hsl
  unfold rs
  rw [if_neg (by rw [List.length_append, hlen]; simp [noteL]; omega), hfb, hsl]
  simp
end Wd
end Go.Proofs.Ytkngppkchaadhaa
