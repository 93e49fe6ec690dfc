/- The machine goes as regex reads: plain mathematics. -/
import Derived.Test.YtmgfpcblbbpahaaGreatNfSim
set_option linter.unusedVariables false
set_option linter.unusedSimpArgs false
namespace Go.Proofs.YtmgfpcblbbpahaaGreat
open Go.RowKit Ru

theorem gaps_len (P : List Pc) : ∀ l : List Int, (gaps P l).length ≤ l.length
  | [] => by simp [gaps]
  | [x] => by simp [gaps]
  | x :: y :: l => by
    have ih := gaps_len P (y :: l)
    unfold gaps
    split
    · simp at ih ⊢; omega
    · simp at ih ⊢; omega
theorem insD_len (x : Int) : ∀ l : List Int, (insD x l).length ≤ l.length + 1
  | [] => by simp [insD]
  | y :: l => by
    have ih := insD_len x l
    unfold insD
    split
    · simp
    · split
      · simp
      · simp; omega
theorem srtD_len (l : List Int) : (srtD l).length ≤ l.length := by
  have h : ∀ (l s : List Int), (l.foldl (fun s x => insD x s) s).length ≤ l.length + s.length := by
    intro l
    induction l with
    | nil => intro s; simp
    | cons x l ih =>
      intro s
      have h1 := ih (insD x s)
      have h2 := insD_len x s
      rw [List.foldl_cons, List.length_cons]; omega
  have := h l []
  simpa [srtD] using this
theorem ends_len : ∀ P : List Pc, (ends P).length = 2 * P.length
  | [] => rfl
  | q :: P => by simp [ends, ends_len P]; omega
namespace Nf
end Nf
end Go.Proofs.YtmgfpcblbbpahaaGreat

namespace Go.Proofs.YtmgfpcblbbpahaaGreat
open Go.RowKit Ru

namespace Nf
theorem mem_linkF (tq : List Int) : ∀ (l : List Int) (F : List (List Int)) (i : Nat) (x : Int), (∀ s ∈ l, 0 ≤ s) → (x ∈ (linkF F l tq).getD i [] ↔ x ∈ F.getD i [] ∨ ((i : Int) ∈ l ∧ i < F.length ∧ x ∈ tq)) := by
  intro l
  induction l with
  | nil => intro F i x _; show x ∈ F.getD i [] ↔ _; simp
  | cons s l ih =>
    intro F i x hs
    have h0 := hs s (by simp)
    show x ∈ (linkF (F.set s.toNat (F.getD s.toNat [] ++ tq)) l tq).getD i [] ↔ _
    rw [ih _ i x (fun y hy => hs y (by simp [hy])), List.length_set]
    have hg : x ∈ (F.set s.toNat (F.getD s.toNat [] ++ tq)).getD i [] ↔ x ∈ F.getD i [] ∨ ((i : Int) = s ∧ i < F.length ∧ x ∈ tq) := by
      rw [List.getD_eq_getElem?_getD, List.getElem?_set]
      by_cases e : s.toNat = i
      · subst e
        by_cases hl : s.toNat < F.length
        · rw [if_pos rfl, if_pos hl]
          simp only [Option.getD_some, List.mem_append]
          constructor
          · rintro (h | h)
            · exact .inl h
            · exact .inr ⟨by omega, hl, h⟩
          · rintro (h | ⟨_, _, h⟩)
            · exact .inl h
            · exact .inr h
        · rw [if_pos rfl, if_neg hl, List.getD_eq_getElem?_getD, List.getElem?_eq_none (by omega)]
          simp
          intro _ h; omega
      · rw [if_neg e, ← List.getD_eq_getElem?_getD]
        constructor
        · exact .inl
        · rintro (h | ⟨h, _⟩)
          · exact h
          · exact absurd (by omega) e
    rw [hg, List.mem_cons]
    constructor
    · rintro ((h | ⟨h1, h2, h3⟩) | ⟨h1, h2, h3⟩)
      · exact .inl h
      · exact .inr ⟨.inl h1, h2, h3⟩
      · exact .inr ⟨.inr h1, h2, h3⟩
    · rintro (h | ⟨h1 | h1, h2, h3⟩)
      · exact .inl (.inl h)
      · exact .inl (.inr ⟨h1, h2, h3⟩)
      · exact .inr ⟨h1, h2, h3⟩
theorem mem_pt : ∀ (N : Nat) (e : RE), e.size ≤ N → e.prt = true → ∀ (n : Int) (F : List (List Int)) (i : Nat) (x : Int), 0 ≤ n → n + (sts e).length ≤ (F.length : Int) → (x ∈ (pt e n F).2.2.getD i [] ↔ x ∈ F.getD i [] ∨ Lk e n i x) := by
  intro N
  induction N with
  | zero => intro e h; have := e.size_pos; omega
  | succ N ih =>
    intro e h hp n F i x hn hF
    cases e with
    | mk k s l =>
      rw [RE.size_mk] at h
      rcases prt_cases hp with ⟨rfl, rfl⟩ | ⟨rfl, rfl⟩ | ⟨rfl, rfl, _⟩ | ⟨rfl, a, rfl, ha⟩ | ⟨hk, a, b, rfl, ha, hb⟩
      · rw [pt_nil]; simp [lk_nil]
      · rw [pt_nil]; simp [lk_nil]
      · rw [pt_nil]; simp [lk_nil]
      · rw [RE.sizes_cons, RE.sizes_nil] at h
        rw [sts_one 5 s a (by omega)] at hF
        have h1 := pt_one ha n F
        have hok := pt_ok a.size a (Nat.le_refl _) ha n F hn
        have hr := pe_rng ha n hn
        rw [pt_star]
        simp only
        rw [h1.1, mem_linkF _ _ _ _ _ (fun y hy => by have := hr.2 y hy; omega), ih a (by omega) ha n F i x hn hF, lk_star, hok.len]
        constructor
        · rintro ((h | h) | ⟨h1, h2, h3⟩)
          · exact .inl h
          · exact .inr (.inl h)
          · exact .inr (.inr ⟨h1, h3⟩)
        · rintro (h | h | ⟨h1, h3⟩)
          · exact .inl (.inl h)
          · exact .inl (.inr h)
          · exact .inr ⟨h1, by have := hr.2 _ h1; omega, h3⟩
      · rw [RE.sizes_cons, RE.sizes_cons, RE.sizes_nil] at h
        rw [sts_two k s a b (by omega), List.length_append] at hF
        have h1 := pt_one ha n F
        have hok := pt_ok a.size a (Nat.le_refl _) ha n F hn
        have hr := pe_rng ha n hn
        obtain ⟨y, hy⟩ : ∃ y, pt a n F = y := ⟨_, rfl⟩
        have hA := ih a (by omega) ha n F i x hn (by omega)
        rw [hy] at h1 hok hA
        have h2 := pt_one hb (n + (sts a).length) y.2.2
        have hok2 := pt_ok b.size b (Nat.le_refl _) hb (n + (sts a).length) y.2.2 (by omega)
        have hB := ih b (by omega) hb (n + (sts a).length) y.2.2 i x (by omega) (by rw [hok.len]; omega)
        have hy2 : pt b y.2.1 y.2.2 = pt b (n + (sts a).length) y.2.2 := by rw [h1.2]
        rcases hk with rfl | rfl
        · rw [pt_seq s a b n F y _ hy hy2]
          simp only
          rw [h1.1, h2.1, mem_linkF _ _ _ _ _ (fun z hz => by have := hr.2 z hz; omega), hB, hA, lk_seq, hok2.len, hok.len]
          constructor
          · rintro (((h | h) | h) | ⟨h1, h2, h3⟩)
            · exact .inl h
            · exact .inr (.inl h)
            · exact .inr (.inr (.inl h))
            · exact .inr (.inr (.inr ⟨h1, h3⟩))
          · rintro (h | h | h | ⟨h1, h3⟩)
            · exact .inl (.inl (.inl h))
            · exact .inl (.inl (.inr h))
            · exact .inl (.inr h)
            · exact .inr ⟨h1, by have := hr.2 _ h1; omega, h3⟩
        · rw [pt_alt s a b n F y _ hy hy2]
          simp only
          rw [hB, hA, lk_alt]
          constructor
          · rintro ((h | h) | h)
            · exact .inl h
            · exact .inr (.inl h)
            · exact .inr (.inr h)
          · rintro (h | h | h)
            · exact .inl (.inl h)
            · exact .inl (.inr h)
            · exact .inr h
def nj (l : List RE) (j : Nat) : Int := 1 + ((stsL (l.take j)).length : Int)
theorem mem_bl (l : List RE) (hl : ∀ e ∈ l, e.prt = true ∧ e.size ≤ 60) (N : Nat) (hN : N = 1 + (stsL l).length) : ∀ k, k ≤ l.length → ∀ (i : Nat) (x : Int), i < N →
    ((x ∈ (bl (l.take k) (b0 N)).F.getD i [] ↔ ∃ j e, j < k ∧ l[j]? = some e ∧ (Lk e (nj l j) i x ∨ (i = 0 ∧ x ∈ (pe e (nj l j)).2.1))) ∧
     (x ∈ (bl (l.take k) (b0 N)).E.getD i [] ↔ ∃ j e, j < k ∧ l[j]? = some e ∧ x = (j : Int) ∧ ((i = 0 ∧ e.emp = true) ∨ (i : Int) ∈ (pe e (nj l j)).2.2))) := by
  intro k
  induction k with
  | zero =>
    intro _ i x hi
    rw [List.take_zero]
    have h0 : (List.replicate N ([] : List Int)).getD i [] = [] := by rw [List.getD_eq_getElem?_getD, List.getElem?_replicate, if_pos hi]; rfl
    refine ⟨?_, ?_⟩
    · show x ∈ (List.replicate N []).getD i [] ↔ _
      rw [h0]; simp
    · show x ∈ (List.replicate N []).getD i [] ↔ _
      rw [h0]; simp
  | succ k ih =>
    intro hk i x hi
    obtain ⟨e, he⟩ : ∃ e, l[k]? = some e := ⟨l[k], List.getElem?_eq_getElem (by omega)⟩
    have hle := hl e (List.mem_of_getElem? he)
    have hok := bl_ok l hl k (by omega)
    rw [← hN] at hok
    obtain ⟨ih1, ih2⟩ := ih (by omega) i x hi
    rw [bl_next l _ k e he]
    obtain ⟨y, hy⟩ : ∃ y, y = bl (l.take k) (b0 N) := ⟨_, rfl⟩
    rw [← hy] at hok ih1 ih2 ⊢
    have hn : y.n = nj l k := hok.n
    have hn0 : 0 ≤ nj l k := by unfold nj; omega
    have h1 := pt_one hle.1 (nj l k) y.F
    have hpk := pt_ok e.size e (Nat.le_refl _) hle.1 (nj l k) y.F hn0
    have hlen : nj l k + (sts e).length ≤ (y.F.length : Int) := by
      have h3 := stsL_take_len l (k + 1)
      rw [stsL_next l k e he, List.length_append] at h3
      rw [hok.lf, hN]; unfold nj; omega
    have hm := mem_pt e.size e (Nat.le_refl _) hle.1 (nj l k) y.F i x hn0 hlen
    have hr := pe_rng hle.1 (nj l k) hn0
    have hsplit : ∀ (P : Nat → RE → Prop), (∃ j c, j < k + 1 ∧ l[j]? = some c ∧ P j c) ↔ (∃ j c, j < k ∧ l[j]? = some c ∧ P j c) ∨ P k e := by
      intro P
      constructor
      · rintro ⟨j, c, hj, hc, hP⟩
        rcases Nat.lt_or_ge j k with h | h
        · exact .inl ⟨j, c, h, hc, hP⟩
        · obtain rfl : j = k := by omega
          rw [he] at hc; cases hc
          exact .inr hP
      · rintro (⟨j, c, hj, hc, hP⟩ | hP)
        · exact ⟨j, c, by omega, hc, hP⟩
        · exact ⟨k, e, by omega, he, hP⟩
    rw [hsplit, hsplit]
    unfold bst
    simp only
    rw [hn, h1.1, hok.k]
    refine ⟨?_, ?_⟩
    · rw [mem_linkF _ _ _ _ _ (by simp), hm, ih1, hpk.len, hok.lf]
      constructor
      · rintro ((h | h) | ⟨h1, h2, h3⟩)
        · exact .inl h
        · exact .inr (.inl h)
        · exact .inr (.inr ⟨by simp at h1; omega, h3⟩)
      · rintro (h | h | ⟨h1, h3⟩)
        · exact .inl (.inl h)
        · exact .inl (.inr h)
        · exact .inr ⟨by simp; omega, hi, h3⟩
    · rw [mem_linkF _ _ _ _ _ (fun z hz => by have := hr.2 z hz; omega), pe_emp' hle.1]
      cases hemp : e.emp with
      | false =>
        rw [if_neg (by simp), ih2, hok.le]
        constructor
        · rintro (h | ⟨h1, h2, h3⟩)
          · exact .inl h
          · exact .inr ⟨by simpa using h3, .inr h1⟩
        · rintro (h | ⟨h1, (⟨_, h2⟩ | h2)⟩)
          · exact .inl h
          · cases h2
          · exact .inr ⟨h2, hi, by simpa using h1⟩
      | true =>
        rw [if_pos rfl, mem_linkF _ _ _ _ _ (by simp), ih2, linkF_len, hok.le]
        constructor
        · rintro ((h | ⟨h1, h2, h3⟩) | ⟨h1, h2, h3⟩)
          · exact .inl h
          · exact .inr ⟨by simpa using h3, .inl ⟨by simp at h1; omega, rfl⟩⟩
          · exact .inr ⟨by simpa using h3, .inr h1⟩
        · rintro (h | ⟨h1, (⟨h2, _⟩ | h2)⟩)
          · exact .inl (.inl h)
          · exact .inl (.inr ⟨by simp; omega, hi, by simpa using h1⟩)
          · exact .inr ⟨h2, hi, by simpa using h1⟩
theorem clean_all : ∀ (t : FT) (e : RE) (n : Int), t.clean → Gd e n t ∧ ∀ p, ¬ Act e n t p := by
  intro t
  induction t with
  | leaf q f =>
    intro e n h
    have hf : f = false := h
    subst hf
    have hA : ∀ p, ¬ Act e n (.leaf q false) p := fun p h => by cases h.2.2
    exact ⟨⟨fun h => (by cases h), fun ⟨p, _, h⟩ => absurd h (hA p)⟩, hA⟩
  | one q f a ih =>
    intro e n h
    obtain ⟨hf, h2⟩ := h
    subst hf
    obtain ⟨i1, i2⟩ := ih (e.parts.getD 0 e) n h2
    exact ⟨⟨⟨fun h => (by cases h), fun ⟨p, _, h⟩ => absurd h (i2 p)⟩, i1⟩, i2⟩
  | two q f a b iha ihb =>
    intro e n h
    obtain ⟨hf, h2, h3⟩ := h
    subst hf
    obtain ⟨i1, i2⟩ := iha (e.parts.getD 0 e) n h2
    obtain ⟨j1, j2⟩ := ihb (e.parts.getD 1 e) (n + (sts (e.parts.getD 0 e)).length) h3
    have hA : ∀ p, ¬ Act e n (.two q false a b) p := fun p h => h.elim (i2 p) (j2 p)
    exact ⟨⟨⟨fun h => (by cases h), fun ⟨p, _, h⟩ => absurd h (hA p)⟩, i1, j1⟩, hA⟩
theorem cov_all (σ : Int → List Pc) : ∀ (N : Nat) (e : RE), e.size ≤ N → e.prt = true → ∀ (t : FT) (n : Int), Shp e t → (∀ i : Nat, i < (sts e).length → σ (n + i) = (sts e).getD i []) → Cov σ e n t := by
  intro N
  induction N with
  | zero => intro e h; have := e.size_pos; omega
  | succ N ih =>
    intro e h hp t n hs hσ
    cases e with
    | mk k s l =>
      rw [RE.size_mk] at h
      rcases prt_cases hp with ⟨rfl, rfl⟩ | ⟨rfl, rfl⟩ | ⟨rfl, rfl, _⟩ | ⟨rfl, a, rfl, ha⟩ | ⟨hk, a, b, rfl, ha, hb⟩
      · cases t with
        | leaf q f => intro h; simp [RE.kind] at h
        | one q f a => obtain ⟨ea, he, _⟩ := hs; simp [RE.parts] at he
        | two q f a b => obtain ⟨ea, eb, he, _⟩ := hs; simp [RE.parts] at he
      · cases t with
        | leaf q f => intro h; simp [RE.kind] at h
        | one q f a => obtain ⟨ea, he, _⟩ := hs; simp [RE.parts] at he
        | two q f a b => obtain ⟨ea, eb, he, _⟩ := hs; simp [RE.parts] at he
      · cases t with
        | leaf q f =>
          intro _
          have := hσ 0 (by simp [sts_mk])
          simpa [sts_mk, RE.set] using this
        | one q f a => obtain ⟨ea, he, _⟩ := hs; simp [RE.parts] at he
        | two q f a b => obtain ⟨ea, eb, he, _⟩ := hs; simp [RE.parts] at he
      · rw [RE.sizes_cons, RE.sizes_nil] at h
        rw [sts_one 5 s a (by omega)] at hσ
        cases t with
        | leaf q f => simp [Shp, RE.parts] at hs
        | one q f ta =>
          obtain ⟨ea, he, hs⟩ := hs
          obtain rfl : a = ea := by simpa [RE.parts] using he
          exact ih a (by omega) ha ta n hs hσ
        | two q f a b => obtain ⟨ea, eb, he, _⟩ := hs; simp [RE.parts] at he
      · rw [RE.sizes_cons, RE.sizes_cons, RE.sizes_nil] at h
        rw [sts_two k s a b (by omega)] at hσ
        cases t with
        | leaf q f => simp [Shp, RE.parts] at hs
        | one q f ta => obtain ⟨ea, he, _⟩ := hs; simp [RE.parts] at he
        | two q f ta tb =>
          obtain ⟨ea, eb, he, hs1, hs2⟩ := hs
          obtain ⟨rfl, rfl⟩ : a = ea ∧ b = eb := by simpa [RE.parts] using he
          refine ⟨ih a (by omega) ha ta n hs1 fun i hi => ?_, ih b (by omega) hb tb (n + (sts a).length) hs2 fun i hi => ?_⟩
          · rw [hσ i (by rw [List.length_append]; omega), List.getD_eq_getElem?_getD, List.getD_eq_getElem?_getD, List.getElem?_append_left hi]
          · have := hσ ((sts a).length + i) (by rw [List.length_append]; omega)
            rw [show n + (sts a).length + (i : Int) = n + (((sts a).length + i : Nat) : Int) by omega, this, List.getD_eq_getElem?_getD, List.getD_eq_getElem?_getD, List.getElem?_append_right (by omega)]
            congr 2; omega
theorem nj_next (l : List RE) (j : Nat) (e : RE) (h : l[j]? = some e) : nj l (j + 1) = nj l j + (sts e).length := by unfold nj; rw [stsL_next l j e h, List.length_append]; omega
theorem nj_mono (l : List RE) : ∀ (d j : Nat), nj l j ≤ nj l (j + d) := by
  intro d
  induction d with
  | zero => intro j; exact Int.le_refl _
  | succ d ih =>
    intro j
    have h1 := ih j
    rcases Nat.lt_or_ge (j + d) l.length with h | h
    · have := nj_next l (j + d) l[j + d] (List.getElem?_eq_getElem h)
      rw [show j + (d + 1) = j + d + 1 by omega]; omega
    · have : nj l (j + (d + 1)) = nj l (j + d) := by unfold nj; rw [List.take_of_length_le (by omega), List.take_of_length_le (by omega)]
      omega
theorem nj_one (l : List RE) {i j : Nat} {e c : RE} {p : Int} (hi : l[i]? = some e) (hj : l[j]? = some c) (h1 : nj l i ≤ p ∧ p < nj l i + (sts e).length) (h2 : nj l j ≤ p ∧ p < nj l j + (sts c).length) : i = j ∧ e = c := by
  have n1 := nj_next l i e hi
  have n2 := nj_next l j c hj
  have hij : i = j := by
    rcases Nat.lt_trichotomy i j with h | h | h
    · have := nj_mono l (j - (i + 1)) (i + 1)
      rw [show i + 1 + (j - (i + 1)) = j by omega] at this; omega
    · exact h
    · have := nj_mono l (i - (j + 1)) (j + 1)
      rw [show j + 1 + (i - (j + 1)) = i by omega] at this; omega
  subst hij
  rw [hi] at hj; cases hj
  exact ⟨rfl, rfl⟩
theorem nj_top (l : List RE) {j : Nat} {e : RE} (h : l[j]? = some e) : nj l j + (sts e).length ≤ 1 + ((stsL l).length : Int) := by
  have := nj_next l j e h
  have h3 := stsL_take_len l (j + 1)
  unfold nj at this ⊢; omega
def sg (l : List RE) (p : Int) : List Pc := (mS l).getD p.toNat []
theorem sg_at (l : List RE) {j : Nat} {e : RE} (h : l[j]? = some e) : ∀ i : Nat, i < (sts e).length → sg l (nj l j + i) = (sts e).getD i [] := by
  intro i hi
  have hA : ∀ (a b : List RE), stsL (a ++ b) = stsL a ++ stsL b := by
    intro a b
    induction a with
    | nil => rw [stsL_nil]; rfl
    | cons x a ih => rw [List.cons_append, stsL_cons, stsL_cons, ih, List.append_assoc]
  have hs : stsL l = stsL (l.take j) ++ (sts e ++ stsL (l.drop (j + 1))) := by
    have := hA (l.take (j + 1)) (l.drop (j + 1))
    rw [List.take_append_drop, stsL_next l j e h, List.append_assoc] at this
    exact this
  unfold sg mS nj
  rw [show (1 + ((stsL (l.take j)).length : Int) + (i : Int)).toNat = ((stsL (l.take j)).length + i) + 1 by omega, List.getD_cons_succ, hs, List.getD_eq_getElem?_getD, List.getD_eq_getElem?_getD, List.getElem?_append_right (by omega), Nat.add_sub_cancel_left, List.getElem?_append_left hi]
def onK (S : List (List Pc)) (F : List (List Int)) (s : List Int) : Nat → List Int
  | 0 => [0]
  | k + 1 => nextL S F (onK S F s k) (s.getD k 0)
theorem mem_mF (l : List RE) (q : Nat) (x : Int) : x ∈ (mF l).getD q [] ↔ x ∈ (mB l).F.getD q [] := by
  unfold mF
  rw [List.getD_eq_getElem?_getD, List.getD_eq_getElem?_getD, List.getElem?_map]
  cases (mB l).F[q]? with
  | none => simp
  | some r => simp [mem_ord]
theorem on_act (l : List RE) (hl : ∀ e ∈ l, e.may = true) (s : List Int) (T : Nat → FT) (hT : ∀ (j : Nat) (e : RE), l[j]? = some e → Shp e (T j) ∧ (T j).clean) : ∀ k : Nat,
    (∀ (j : Nat) (e : RE), l[j]? = some e → Shp e (runK e (T j) s k) ∧ Cov (sg l) e (nj l j) (runK e (T j) s k) ∧ Gd e (nj l j) (runK e (T j) s k)) ∧
    (k = 0 ∨ ∀ p, p ∈ onK (mS l) (mF l) s k ↔ ∃ j e, l[j]? = some e ∧ Act e (nj l j) (runK e (T j) s k) p) := by
  have hp : ∀ e ∈ l, e.prt = true ∧ e.size ≤ 60 := fun e he => by
    have := (RE.may_iff e).1 (hl e he)
    exact ⟨this.2.2, this.1⟩
  have hp1 : ∀ (j : Nat) (e : RE), l[j]? = some e → e.prt = true := fun j e he => (hp e (List.mem_of_getElem? he)).1
  have hnj : ∀ j, 1 ≤ nj l j := fun j => by unfold nj; omega
  have hbl := mem_bl l hp (1 + (stsL l).length) rfl l.length (Nat.le_refl _)
  rw [List.take_length] at hbl
  have hok := bl_ok l hp l.length (Nat.le_refl _)
  rw [List.take_length] at hok
  have hlen : (mF l).length = 1 + (stsL l).length := by unfold mF; rw [List.length_map]; exact hok.lf
  intro k
  induction k with
  | zero =>
    refine ⟨fun j e he => ?_, .inl rfl⟩
    obtain ⟨h1, h2⟩ := hT j e he
    exact ⟨h1, cov_all _ e.size e (Nat.le_refl _) (hp1 j e he) _ _ h1 (sg_at l he), (clean_all _ _ _ h2).1⟩
  | succ k ih =>
    obtain ⟨i1, i2⟩ := ih
    have hsim := fun (j : Nat) (e : RE) (he : l[j]? = some e) => sim_all (sg l) e.size e (Nat.le_refl _) (hp1 j e he) (runK e (T j) s k) (nj l j) (by have := hnj j; omega) (i1 j e he).1 (i1 j e he).2.1 (i1 j e he).2.2 (decide (k = 0)) (s.getD k 0)
    refine ⟨fun j e he => ⟨(hsim j e he).1, (hsim j e he).2.1, (hsim j e he).2.2.1⟩, .inr fun p => ?_⟩
    show p ∈ nextL (mS l) (mF l) (onK (mS l) (mF l) s k) (s.getD k 0) ↔ _
    rw [mem_next, hlen]
    have hact := fun (j : Nat) (e : RE) (he : l[j]? = some e) => (hsim j e he).2.2.2 p
    constructor
    · rintro ⟨⟨q, hq, h0, h1, h2⟩, h3⟩
      obtain ⟨m, rfl⟩ : ∃ m : Nat, q = (m : Int) := ⟨q.toNat, by omega⟩
      rw [Int.toNat_natCast, mem_mF] at h2
      obtain ⟨j, e, _, he, hor⟩ := (hbl m p (by omega)).1.1 h2
      have hlr := fun h => lk_rng e.size e (Nat.le_refl _) (hp1 j e he) (nj l j) m p (by have := hnj j; omega) h
      refine ⟨j, e, he, (hact j e he).2 ⟨h3, ?_⟩⟩
      rcases i2 with hk | hk
      · subst hk
        have hm0 : m = 0 := by
          have : (m : Int) ∈ [(0 : Int)] := hq
          rw [List.mem_singleton] at this; omega
        subst hm0
        rcases hor with h | ⟨_, h⟩
        · have := hlr h; have := hnj j; omega
        · exact .inl ⟨rfl, h⟩
      · obtain ⟨j2, e2, he2, hA⟩ := (hk m).1 hq
        have hr2 := act_rng e2.size e2 (Nat.le_refl _) (hp1 j2 e2 he2) _ _ _ (i1 j2 e2 he2).1 hA
        rcases hor with h | ⟨hm0, _⟩
        · obtain ⟨rfl, rfl⟩ := nj_one l he he2 (hlr h).1 hr2
          exact .inr ⟨m, hA, h⟩
        · have := hnj j2; omega
    · rintro ⟨j, e, he, hA⟩
      obtain ⟨h3, hor⟩ := (hact j e he).1 hA
      have hjl : j < l.length := (List.getElem?_eq_some_iff.1 he).1
      have htop := nj_top l he
      refine ⟨?_, h3⟩
      rcases i2 with hk | hk
      · subst hk
        rcases hor with ⟨_, h⟩ | ⟨q, hq, _⟩
        · refine ⟨0, List.mem_singleton.2 rfl, Int.le_refl _, by omega, ?_⟩
          rw [mem_mF]
          exact (hbl 0 p (by omega)).1.2 ⟨j, e, hjl, he, .inr ⟨rfl, h⟩⟩
        · exact absurd hq ((clean_all _ _ _ (hT j e he).2).2 q)
      · rcases hor with ⟨hd, _⟩ | ⟨q, hq, hL⟩
        · have hk0 : k = 0 := by simpa using hd
          subst hk0
          exfalso
          have h00 := (hk 0).1 (List.mem_singleton.2 rfl)
          obtain ⟨j2, e2, he2, hA2⟩ := h00
          exact (clean_all _ _ _ (hT j2 e2 he2).2).2 0 hA2
        · have hqr := (lk_rng e.size e (Nat.le_refl _) (hp1 j e he) (nj l j) q p (by have := hnj j; omega) hL).1
          have hj1 := hnj j
          refine ⟨q, (hk q).2 ⟨j, e, he, hq⟩, by omega, by omega, ?_⟩
          rw [mem_mF]
          have hq2 : ((q.toNat : Nat) : Int) = q := by omega
          exact (hbl q.toNat p (by omega)).1.2 ⟨j, e, hjl, he, .inl (by rw [hq2]; exact hL)⟩
theorem rules_is (l : List RE) (hl : ∀ e ∈ l, e.may = true) (s : List Int) (T : Nat → FT) (hT : ∀ (j : Nat) (e : RE), l[j]? = some e → Shp e (T j) ∧ (T j).clean) (k j : Nat) (e : RE) (he : l[j]? = some e) :
    (j : Int) ∈ gat (mE l) (onK (mS l) (mF l) s k) ↔ isF e (T j) s k = true := by
  have hp : ∀ e ∈ l, e.prt = true ∧ e.size ≤ 60 := fun e he => by
    have := (RE.may_iff e).1 (hl e he)
    exact ⟨this.2.2, this.1⟩
  have hp1 : ∀ (j : Nat) (e : RE), l[j]? = some e → e.prt = true := fun j e he => (hp e (List.mem_of_getElem? he)).1
  have hnj : ∀ j, 1 ≤ nj l j := fun j => by unfold nj; omega
  have hbl := mem_bl l hp (1 + (stsL l).length) rfl l.length (Nat.le_refl _)
  rw [List.take_length] at hbl
  have hok := bl_ok l hp l.length (Nat.le_refl _)
  rw [List.take_length] at hok
  have hlen : (mE l).length = 1 + (stsL l).length := hok.le
  obtain ⟨i1, i2⟩ := on_act l hl s T hT k
  have hjl : j < l.length := (List.getElem?_eq_some_iff.1 he).1
  have hpr := pe_rng (hp1 j e he) (nj l j) (by have := hnj j; omega)
  have htop := nj_top l he
  rw [mem_gat, hlen]
  have hE : ∀ (q : Nat), q < 1 + (stsL l).length → ((j : Int) ∈ (mE l).getD q [] ↔ (q = 0 ∧ e.emp = true) ∨ (q : Int) ∈ (pe e (nj l j)).2.2) := fun q hq => by
    rw [show (mE l).getD q [] = (bl l (b0 (1 + (stsL l).length))).E.getD q [] from rfl, (hbl q j hq).2]
    constructor
    · rintro ⟨j2, e2, _, he2, hjj, h⟩
      obtain rfl : j = j2 := by omega
      rw [he] at he2; cases he2
      exact h
    · intro h; exact ⟨j, e, hjl, he, rfl, h⟩
  unfold isF
  by_cases hk0 : k = 0
  · subst hk0
    rw [if_pos rfl]
    constructor
    · rintro ⟨q, hq, h0, h1, h2⟩
      have hq0 : q = 0 := List.mem_singleton.1 hq
      subst hq0
      rcases (hE 0 (by omega)).1 h2 with ⟨_, h⟩ | h
      · exact h
      · have h1 := hpr.2 _ h; have := hnj j; omega
    · intro h
      exact ⟨0, List.mem_singleton.2 rfl, Int.le_refl _, by omega, (hE 0 (by omega)).2 (.inl ⟨rfl, h⟩)⟩
  · rw [if_neg hk0, (i1 j e he).2.2.f]
    have i3 := i2.resolve_left hk0
    constructor
    · rintro ⟨q, hq, h0, h1, h2⟩
      obtain ⟨m, rfl⟩ : ∃ m : Nat, q = (m : Int) := ⟨q.toNat, by omega⟩
      rw [Int.toNat_natCast] at h2
      obtain ⟨j2, e2, he2, hA⟩ := (i3 m).1 hq
      have hr2 := act_rng e2.size e2 (Nat.le_refl _) (hp1 j2 e2 he2) _ _ _ (i1 j2 e2 he2).1 hA
      rcases (hE m (by omega)).1 h2 with ⟨hm, _⟩ | h
      · have := hnj j2; omega
      · obtain ⟨rfl, rfl⟩ := nj_one l he he2 (hpr.2 _ h) hr2
        exact ⟨m, h, hA⟩
    · rintro ⟨q, h, hA⟩
      have hqr := hpr.2 q h
      have hj1 := hnj j
      refine ⟨q, (i3 q).2 ⟨j, e, he, hA⟩, by omega, by omega, ?_⟩
      have hq2 : ((q.toNat : Nat) : Int) = q := by omega
      exact (hE q.toNat (by omega)).2 (.inr (by rw [hq2]; exact h))
end Nf
end Go.Proofs.YtmgfpcblbbpahaaGreat
