/- What regex's nodes tell is what the positions tell: plain mathematics. -/
import Derived.Test.YtmgfpcblbbpahaaGreatNfIs
set_option linter.unusedVariables false
set_option linter.unusedSimpArgs false
namespace Go.Proofs.YtmgfpcblbbpahaaGreat
open Go.RowKit Ru

namespace Nf
/-- first, last: the part without the table -/
def pe (e : RE) (n : Int) : Bool × List Int × List Int := (pt e n []).1
theorem pt_pe : ∀ (N : Nat) (e : RE), e.size ≤ N → e.prt = true → ∀ (n : Int) (F G : List (List Int)), (pt e n F).1 = (pt e n G).1 ∧ (pt e n F).2.1 = n + (sts e).length := by
  intro N
  induction N with
  | zero => intro e h; have := e.size_pos; omega
  | succ N ih =>
    intro e h hp n F G
    cases e with
    | mk k s l =>
      rw [RE.size_mk] at h
      rcases prt_cases hp with ⟨rfl, rfl⟩ | ⟨rfl, rfl⟩ | ⟨rfl, rfl, _⟩ | ⟨rfl, a, rfl, ha⟩ | ⟨hk, a, b, rfl, ha, hb⟩
      · rw [pt_nil, pt_nil]; simp [sts_mk, stsL_nil]
      · rw [pt_nil, pt_nil]; simp [sts_mk, stsL_nil]
      · rw [pt_nil, pt_nil]; simp [sts_mk, stsL_nil]
      · rw [RE.sizes_cons, RE.sizes_nil] at h
        have h1 := ih a (by omega) ha n F G
        rw [pt_star, pt_star]
        simp only [h1.1, h1.2, true_and]
        simp [sts_mk, stsL_cons, stsL_nil]
      · rw [RE.sizes_cons, RE.sizes_cons, RE.sizes_nil] at h
        have h1 := ih a (by omega) ha n F G
        have h1' := ih a (by omega) ha n G F
        have h2 := ih b (by omega) hb (n + (sts a).length) (pt a n F).2.2 (pt a n G).2.2
        have k2 : ¬ k = 2 := by omega
        rcases hk with rfl | rfl
        · rw [pt_seq s a b n F _ _ rfl rfl, pt_seq s a b n G _ _ rfl rfl]
          rw [h1.2, h1'.2]
          simp only [h1.1, h2.1, h2.2, true_and]
          simp [sts_mk, stsL_cons, stsL_nil]; omega
        · rw [pt_alt s a b n F _ _ rfl rfl, pt_alt s a b n G _ _ rfl rfl]
          rw [h1.2, h1'.2]
          simp only [h1.1, h2.1, h2.2, true_and]
          simp [sts_mk, stsL_cons, stsL_nil]; omega
theorem pt_one {e : RE} (hp : e.prt = true) (n : Int) (F : List (List Int)) : (pt e n F).1 = pe e n ∧ (pt e n F).2.1 = n + (sts e).length := ⟨(pt_pe e.size e (Nat.le_refl _) hp n F []).1, (pt_pe e.size e (Nat.le_refl _) hp n F []).2⟩
theorem pe_nil (k : Int) (s : List Pc) (n : Int) : pe (.mk k s []) n = if k = 1 then (true, [], []) else if k = 2 then (false, [n], [n]) else (false, [], []) := by
  unfold pe; rw [pt_nil]; split
  · rfl
  · split <;> rfl
theorem pe_star {a : RE} (s : List Pc) (n : Int) : pe (.mk 5 s [a]) n = (true, (pe a n).2.1, (pe a n).2.2) := by unfold pe; rw [pt_star]
theorem pe_alt {a b : RE} (ha : a.prt = true) (hb : b.prt = true) (s : List Pc) (n : Int) : pe (.mk 4 s [a, b]) n = ((pe a n).1 || (pe b (n + (sts a).length)).1, (pe a n).2.1 ++ (pe b (n + (sts a).length)).2.1, (pe a n).2.2 ++ (pe b (n + (sts a).length)).2.2) := by
  have h1 := pt_one ha n []
  have h2 := pt_one hb (n + (sts a).length) (pt a n []).2.2
  unfold pe
  rw [pt_alt s a b n [] _ _ rfl rfl]
  simp only [h1.2, h2.1]
  rfl
theorem pe_seq {a b : RE} (ha : a.prt = true) (hb : b.prt = true) (s : List Pc) (n : Int) : pe (.mk 3 s [a, b]) n = ((pe a n).1 && (pe b (n + (sts a).length)).1, (if (pe a n).1 = true then (pe a n).2.1 ++ (pe b (n + (sts a).length)).2.1 else (pe a n).2.1), (if (pe b (n + (sts a).length)).1 = true then (pe b (n + (sts a).length)).2.2 ++ (pe a n).2.2 else (pe b (n + (sts a).length)).2.2)) := by
  have h1 := pt_one ha n []
  have h2 := pt_one hb (n + (sts a).length) (pt a n []).2.2
  unfold pe
  rw [pt_seq s a b n [] _ _ rfl rfl]
  simp only [h1.2, h2.1]
  rfl
theorem pe_emp : ∀ (N : Nat) (e : RE), e.size ≤ N → e.prt = true → ∀ n, (pe e n).1 = e.emp := by
  intro N
  induction N with
  | zero => intro e h; have := e.size_pos; omega
  | succ N ih =>
    intro e h hp n
    cases e with
    | mk k s l =>
      rw [RE.size_mk] at h
      rw [RE.emp_eq]
      rcases prt_cases hp with ⟨rfl, rfl⟩ | ⟨rfl, rfl⟩ | ⟨rfl, rfl, _⟩ | ⟨rfl, a, rfl, ha⟩ | ⟨hk, a, b, rfl, ha, hb⟩
      · rw [pe_nil]; simp [RE.kind]
      · rw [pe_nil]; simp [RE.kind]
      · rw [pe_nil]; simp [RE.kind]
      · rw [pe_star]; simp [RE.kind]
      · rw [RE.sizes_cons, RE.sizes_cons, RE.sizes_nil] at h
        have h1 := ih a (by omega) ha n
        have h2 := ih b (by omega) hb (n + (sts a).length)
        rcases hk with rfl | rfl
        · rw [pe_seq ha hb, h1, h2]; simp [RE.kind, RE.parts, RE.twoE_two]
        · rw [pe_alt ha hb, h1, h2]
          simp only [RE.kind, RE.parts, RE.anyE]
          simp
theorem pe_emp' {e : RE} (hp : e.prt = true) (n : Int) : (pe e n).1 = e.emp := pe_emp e.size e (Nat.le_refl _) hp n
theorem pe_rng {e : RE} (hp : e.prt = true) (n : Int) (hn : 0 ≤ n) : (∀ x ∈ (pe e n).2.1, n ≤ x ∧ x < n + (sts e).length) ∧ (∀ x ∈ (pe e n).2.2, n ≤ x ∧ x < n + (sts e).length) := by
  have h := pt_ok e.size e (Nat.le_refl _) hp n [] hn
  have h2 := (pt_one hp n []).2
  refine ⟨fun x hx => ?_, fun x hx => ?_⟩
  · have := h.fst x hx; rw [h2] at this; exact this
  · have := h.lst x hx; rw [h2] at this; exact this
/-- who follows whom within e -/
def Lk : RE → Int → Int → Int → Prop
  | .mk k _ l, n, q, x =>
    match l with
    | [a] => k = 5 ∧ (Lk a n q x ∨ (q ∈ (pe a n).2.2 ∧ x ∈ (pe a n).2.1))
    | [a, b] => (k = 4 ∧ (Lk a n q x ∨ Lk b (n + (sts a).length) q x)) ∨ (k = 3 ∧ (Lk a n q x ∨ Lk b (n + (sts a).length) q x ∨ (q ∈ (pe a n).2.2 ∧ x ∈ (pe b (n + (sts a).length)).2.1)))
    | _ => False
theorem lk_nil (k : Int) (s : List Pc) (n q x : Int) : ¬ Lk (.mk k s []) n q x := by intro h; simp [Lk] at h
theorem lk_star (s : List Pc) (a : RE) (n q x : Int) : Lk (.mk 5 s [a]) n q x ↔ Lk a n q x ∨ (q ∈ (pe a n).2.2 ∧ x ∈ (pe a n).2.1) := by rw [Lk]; simp
theorem lk_alt (s : List Pc) (a b : RE) (n q x : Int) : Lk (.mk 4 s [a, b]) n q x ↔ Lk a n q x ∨ Lk b (n + (sts a).length) q x := by rw [Lk]; simp
theorem lk_seq (s : List Pc) (a b : RE) (n q x : Int) : Lk (.mk 3 s [a, b]) n q x ↔ Lk a n q x ∨ Lk b (n + (sts a).length) q x ∨ (q ∈ (pe a n).2.2 ∧ x ∈ (pe b (n + (sts a).length)).2.1) := by rw [Lk]; simp
theorem sts_one (k : Int) (s : List Pc) (a : RE) (k2 : k ≠ 2) : sts (.mk k s [a]) = sts a := by simp [sts_mk, stsL_cons, stsL_nil, k2]
theorem sts_two (k : Int) (s : List Pc) (a b : RE) (k2 : k ≠ 2) : sts (.mk k s [a, b]) = sts a ++ sts b := by simp [sts_mk, stsL_cons, stsL_nil, k2]
theorem lk_rng : ∀ (N : Nat) (e : RE), e.size ≤ N → e.prt = true → ∀ n q x : Int, 0 ≤ n → Lk e n q x → (n ≤ q ∧ q < n + (sts e).length) ∧ (n ≤ x ∧ x < n + (sts e).length) := by
  intro N
  induction N with
  | zero => intro e h; have := e.size_pos; omega
  | succ N ih =>
    intro e h hp n q x hn hl
    cases e with
    | mk k s l =>
      rw [RE.size_mk] at h
      rcases prt_cases hp with ⟨rfl, rfl⟩ | ⟨rfl, rfl⟩ | ⟨rfl, rfl, _⟩ | ⟨rfl, a, rfl, ha⟩ | ⟨hk, a, b, rfl, ha, hb⟩
      · exact absurd hl (lk_nil _ _ _ _ _)
      · exact absurd hl (lk_nil _ _ _ _ _)
      · exact absurd hl (lk_nil _ _ _ _ _)
      · rw [RE.sizes_cons, RE.sizes_nil] at h
        rw [sts_one 5 s a (by omega)]
        rcases (lk_star s a n q x).1 hl with h1 | ⟨h1, h2⟩
        · exact ih a (by omega) ha n q x hn h1
        · exact ⟨(pe_rng ha n hn).2 q h1, (pe_rng ha n hn).1 x h2⟩
      · rw [RE.sizes_cons, RE.sizes_cons, RE.sizes_nil] at h
        rw [sts_two k s a b (by omega), List.length_append]
        have hA := fun h1 => ih a (by omega) ha n q x hn h1
        have hB := fun h1 => ih b (by omega) hb (n + (sts a).length) q x (by omega) h1
        have c1 : Lk a n q x ∨ Lk b (n + (sts a).length) q x → (n ≤ q ∧ q < n + (((sts a).length + (sts b).length : Nat) : Int)) ∧ (n ≤ x ∧ x < n + (((sts a).length + (sts b).length : Nat) : Int)) := by
          rintro (h1 | h1)
          · have := hA h1; omega
          · have := hB h1; omega
        rcases hk with rfl | rfl
        · rcases (lk_seq s a b n q x).1 hl with h1 | h1 | ⟨h1, h2⟩
          · exact c1 (.inl h1)
          · exact c1 (.inr h1)
          · have g1 := (pe_rng ha n hn).2 q h1
            have g2 := (pe_rng hb (n + (sts a).length) (by omega)).1 x h2
            omega
        · exact c1 ((lk_alt s a b n q x).1 hl)
/-- the position p of e is lit -/
def Act : RE → Int → FT → Int → Prop
  | e, n, .leaf _ f, p => e.kind = 2 ∧ p = n ∧ f = true
  | e, n, .one _ _ a, p => Act (e.parts.getD 0 e) n a p
  | e, n, .two _ _ a b, p => Act (e.parts.getD 0 e) n a p ∨ Act (e.parts.getD 1 e) (n + (sts (e.parts.getD 0 e)).length) b p
/-- a node's mark tells of its last positions -/
def Gd : RE → Int → FT → Prop
  | e, n, .leaf q f => (f = true ↔ ∃ p ∈ (pe e n).2.2, Act e n (.leaf q f) p)
  | e, n, .one q f a => (f = true ↔ ∃ p ∈ (pe e n).2.2, Act e n (.one q f a) p) ∧ Gd (e.parts.getD 0 e) n a
  | e, n, .two q f a b => (f = true ↔ ∃ p ∈ (pe e n).2.2, Act e n (.two q f a b) p) ∧ Gd (e.parts.getD 0 e) n a ∧ Gd (e.parts.getD 1 e) (n + (sts (e.parts.getD 0 e)).length) b
theorem Gd.f {e : RE} {n : Int} {t : FT} (h : Gd e n t) : t.f = true ↔ ∃ p ∈ (pe e n).2.2, Act e n t p := by
  cases t
  · exact h
  · exact h.1
  · exact h.1
/-- the sets of e from n on -/
def Cov (σ : Int → List Pc) : RE → Int → FT → Prop
  | e, n, .leaf _ _ => e.kind = 2 → σ n = e.set
  | e, n, .one _ _ a => Cov σ (e.parts.getD 0 e) n a
  | e, n, .two _ _ a b => Cov σ (e.parts.getD 0 e) n a ∧ Cov σ (e.parts.getD 1 e) (n + (sts (e.parts.getD 0 e)).length) b
theorem act_rng : ∀ (N : Nat) (e : RE), e.size ≤ N → e.prt = true → ∀ (t : FT) (n p : Int), Shp e t → Act e n t p → n ≤ p ∧ p < n + (sts e).length := by
  intro N
  induction N with
  | zero => intro e h; have := e.size_pos; omega
  | succ N ih =>
    intro e h hp t n p hs ha
    cases e with
    | mk k s l =>
      rw [RE.size_mk] at h
      rcases prt_cases hp with ⟨rfl, rfl⟩ | ⟨rfl, rfl⟩ | ⟨rfl, rfl, _⟩ | ⟨rfl, a, rfl, ha'⟩ | ⟨hk, a, b, rfl, ha', hb⟩
      · cases t with
        | leaf q f => exact absurd ha.1 (by simp [RE.kind])
        | one q f a => obtain ⟨ea, he, _⟩ := hs; simp [RE.parts] at he
        | two q f a b => obtain ⟨ea, eb, he, _⟩ := hs; simp [RE.parts] at he
      · cases t with
        | leaf q f => exact absurd ha.1 (by simp [RE.kind])
        | one q f a => obtain ⟨ea, he, _⟩ := hs; simp [RE.parts] at he
        | two q f a b => obtain ⟨ea, eb, he, _⟩ := hs; simp [RE.parts] at he
      · cases t with
        | leaf q f => obtain ⟨_, rfl, _⟩ := ha; simp [sts_mk, stsL_nil]; omega
        | one q f a => obtain ⟨ea, he, _⟩ := hs; simp [RE.parts] at he
        | two q f a b => obtain ⟨ea, eb, he, _⟩ := hs; simp [RE.parts] at he
      · rw [RE.sizes_cons, RE.sizes_nil] at h
        rw [sts_one 5 s a (by omega)]
        cases t with
        | leaf q f => simp [Shp, RE.parts] at hs
        | one q f ta =>
          obtain ⟨ea, he, hs⟩ := hs
          obtain rfl : a = ea := by simpa [RE.parts] using he
          exact ih a (by omega) ha' ta n p hs ha
        | two q f a b => obtain ⟨ea, eb, he, _⟩ := hs; simp [RE.parts] at he
      · rw [RE.sizes_cons, RE.sizes_cons, RE.sizes_nil] at h
        rw [sts_two k s a b (by omega), List.length_append]
        cases t with
        | leaf q f => simp [Shp, RE.parts] at hs
        | one q f ta => obtain ⟨ea, he, _⟩ := hs; simp [RE.parts] at he
        | two q f ta tb =>
          obtain ⟨ea, eb, he, hs1, hs2⟩ := hs
          obtain ⟨rfl, rfl⟩ : a = ea ∧ b = eb := by simpa [RE.parts] using he
          rcases ha with h1 | h1
          · have := ih a (by omega) ha' ta n p hs1 h1
            omega
          · have := ih b (by omega) hb tb (n + (sts a).length) p hs2 h1
            omega
/-- reading a rune lights what may follow -/
def Sim (σ : Int → List Pc) (e : RE) (n : Int) (t : FT) (en : Bool) (r : Int) : Prop :=
  Shp e (rd e t en r) ∧ Cov σ e n (rd e t en r) ∧ Gd e n (rd e t en r) ∧ ∀ p, Act e n (rd e t en r) p ↔ has (σ p) r = true ∧ ((en = true ∧ p ∈ (pe e n).2.1) ∨ ∃ q, Act e n t q ∧ Lk e n q p)
theorem sim_all (σ : Int → List Pc) : ∀ (N : Nat) (e : RE), e.size ≤ N → e.prt = true → ∀ (t : FT) (n : Int), 0 ≤ n → Shp e t → Cov σ e n t → Gd e n t → ∀ (en : Bool) (r : Int), Sim σ e n t en r := by
  intro N
  induction N with
  | zero => intro e h; have := e.size_pos; omega
  | succ N ih =>
    intro e h hp t n hn hs hc hg en r
    cases e with
    | mk k s l =>
      rw [RE.size_mk] at h
      rcases prt_cases hp with ⟨rfl, rfl⟩ | ⟨rfl, rfl⟩ | ⟨rfl, rfl, _⟩ | ⟨rfl, a, rfl, ha⟩ | ⟨hk, a, b, rfl, ha, hb⟩
      · cases t with
        | leaf q f =>
          refine ⟨hs, hc, ?_, fun p => ?_⟩
          · simpa [rd, RE.kind] using hg
          · simp [rd, Act, RE.kind, pe_nil, lk_nil]
        | one q f a => obtain ⟨ea, he, _⟩ := hs; simp [RE.parts] at he
        | two q f a b => obtain ⟨ea, eb, he, _⟩ := hs; simp [RE.parts] at he
      · cases t with
        | leaf q f =>
          refine ⟨hs, hc, ?_, fun p => ?_⟩
          · simpa [rd, RE.kind] using hg
          · simp [rd, Act, RE.kind, pe_nil, lk_nil]
        | one q f a => obtain ⟨ea, he, _⟩ := hs; simp [RE.parts] at he
        | two q f a b => obtain ⟨ea, eb, he, _⟩ := hs; simp [RE.parts] at he
      · cases t with
        | leaf q f =>
          have hc2 : σ n = s := hc rfl
          refine ⟨hs, hc, ?_, fun p => ?_⟩
          · simp [rd, Gd, Act, RE.kind, pe_nil]
          · simp only [rd, Act, RE.kind, RE.set, pe_nil, lk_nil, if_true]
            simp
            constructor
            · rintro ⟨rfl, h1, h2⟩; exact ⟨by rw [hc2]; exact h2, h1, rfl⟩
            · rintro ⟨h1, h2, rfl⟩; exact ⟨rfl, h2, by rw [hc2] at h1; exact h1⟩
        | one q f a => obtain ⟨ea, he, _⟩ := hs; simp [RE.parts] at he
        | two q f a b => obtain ⟨ea, eb, he, _⟩ := hs; simp [RE.parts] at he
      · rw [RE.sizes_cons, RE.sizes_nil] at h
        cases t with
        | leaf q f => simp [Shp, RE.parts] at hs
        | one q f ta =>
          obtain ⟨ea, he, hs⟩ := hs
          obtain rfl : a = ea := by simpa [RE.parts] using he
          have hgd : (RE.mk 5 s [a]).parts.getD 0 (.mk 5 s [a]) = a := rfl
          have hgf := hg.2.f
          rw [hgd] at hgf
          obtain ⟨i1, i2, i3, i4⟩ := ih a (by omega) ha ta n hn hs hc hg.2 (en || ta.f) r
          unfold Sim
          rw [rd_star]
          have hact : ∀ p, Act (.mk 5 s [a]) n (.one q (rd a ta (en || ta.f) r).f (rd a ta (en || ta.f) r)) p ↔ Act a n (rd a ta (en || ta.f) r) p := fun p => Iff.rfl
          refine ⟨⟨a, rfl, i1⟩, i2, ⟨?_, i3⟩, fun p => ?_⟩
          · rw [pe_star]
            exact i3.f
          · rw [hact, i4, pe_star]
            simp only [Bool.or_eq_true, hgf, lk_star]
            constructor
            · rintro ⟨h1, (⟨h2 | ⟨q, hq, hq2⟩, h3⟩ | ⟨q, hq, hq2⟩)⟩
              · exact ⟨h1, .inl ⟨h2, h3⟩⟩
              · exact ⟨h1, .inr ⟨q, hq2, .inr ⟨hq, h3⟩⟩⟩
              · exact ⟨h1, .inr ⟨q, hq, .inl hq2⟩⟩
            · rintro ⟨h1, (⟨h2, h3⟩ | ⟨q, hq, (h4 | ⟨h4, h5⟩)⟩)⟩
              · exact ⟨h1, .inl ⟨.inl h2, h3⟩⟩
              · exact ⟨h1, .inr ⟨q, hq, h4⟩⟩
              · exact ⟨h1, .inl ⟨.inr ⟨q, h4, hq⟩, h5⟩⟩
        | two q f a b => obtain ⟨ea, eb, he, _⟩ := hs; simp [RE.parts] at he
      · rw [RE.sizes_cons, RE.sizes_cons, RE.sizes_nil] at h
        cases t with
        | leaf q f => simp [Shp, RE.parts] at hs
        | one q f ta => obtain ⟨ea, he, _⟩ := hs; simp [RE.parts] at he
        | two q f ta tb =>
          obtain ⟨ea, eb, he, hs1, hs2⟩ := hs
          obtain ⟨rfl, rfl⟩ : a = ea ∧ b = eb := by simpa [RE.parts] using he
          obtain ⟨hc1, hc2⟩ := hc
          obtain ⟨hg0, hg1, hg2⟩ := hg
          have hgf := hg1.f
          have ra := fun t p h1 => act_rng a.size a (Nat.le_refl _) ha t n p h1
          have rb := fun t p h1 => act_rng b.size b (Nat.le_refl _) hb t (n + (sts a).length) p h1
          have la := fun q x h1 => lk_rng a.size a (Nat.le_refl _) ha n q x hn h1
          have lb := fun q x h1 => lk_rng b.size b (Nat.le_refl _) hb (n + (sts a).length) q x (by omega) h1
          have pa := pe_rng ha n hn
          have pb := pe_rng hb (n + (sts a).length) (by omega)
          have hgd0 : (RE.mk k s [a, b]).parts.getD 0 (.mk k s [a, b]) = a := rfl
          have hgd1 : (RE.mk k s [a, b]).parts.getD 1 (.mk k s [a, b]) = b := rfl
          rw [hgd0] at hc1 hc2 hg1 hg2 hgf
          rw [hgd1] at hc2 hg2
          rcases hk with rfl | rfl
          · obtain ⟨i1, i2, i3, i4⟩ := ih a (by omega) ha ta n hn hs1 hc1 hg1 en r
            obtain ⟨j1, j2, j3, j4⟩ := ih b (by omega) hb tb (n + (sts a).length) (by omega) hs2 hc2 hg2 (ta.f || (en && a.emp)) r
            unfold Sim
            rw [rd_seq]
            obtain ⟨nb, hnb⟩ : ∃ u, u = (ta.f || (en && a.emp)) := ⟨_, rfl⟩
            rw [← hnb] at j1 j2 j3 j4 ⊢
            have hnb2 : nb = true ↔ (∃ q ∈ (pe a n).2.2, Act a n ta q) ∨ (en = true ∧ a.emp = true) := by rw [hnb, Bool.or_eq_true, Bool.and_eq_true, hgf]
            obtain ⟨ua, hua⟩ : ∃ u, u = rd a ta en r := ⟨_, rfl⟩
            obtain ⟨ub, hub⟩ : ∃ u, u = rd b tb nb r := ⟨_, rfl⟩
            rw [← hua] at i1 i2 i3 i4 ⊢
            rw [← hub] at j1 j2 j3 j4 ⊢
            have hact : ∀ p, Act (.mk 3 s [a, b]) n (.two q (ub.f || (ua.f && b.emp)) ua ub) p ↔ Act a n ua p ∨ Act b (n + (sts a).length) ub p := fun p => Iff.rfl
            have hact2 : ∀ p, Act (.mk 3 s [a, b]) n (.two q f ta tb) p ↔ Act a n ta p ∨ Act b (n + (sts a).length) tb p := fun p => Iff.rfl
            have hfi : ∀ p, p ∈ (pe (.mk 3 s [a, b]) n).2.1 ↔ p ∈ (pe a n).2.1 ∨ (a.emp = true ∧ p ∈ (pe b (n + (sts a).length)).2.1) := fun p => by
              rw [pe_seq ha hb, pe_emp' ha]
              show p ∈ (if a.emp = true then _ else _) ↔ _
              split
              · rename_i h; simp [h]
              · rename_i h; simp [h]
            have hla : ∀ p, p ∈ (pe (.mk 3 s [a, b]) n).2.2 ↔ p ∈ (pe b (n + (sts a).length)).2.2 ∨ (b.emp = true ∧ p ∈ (pe a n).2.2) := fun p => by
              rw [pe_seq ha hb, pe_emp' hb]
              show p ∈ (if b.emp = true then _ else _) ↔ _
              split
              · rename_i h; simp [h]
              · rename_i h; simp [h]
            refine ⟨⟨a, b, rfl, i1, j1⟩, ⟨i2, j2⟩, ⟨?_, i3, j3⟩, fun p => ?_⟩
            · rw [Bool.or_eq_true, Bool.and_eq_true, i3.f, j3.f]
              constructor
              · rintro (⟨p, h1, h2⟩ | ⟨⟨p, h1, h2⟩, h3⟩)
                · exact ⟨p, (hla p).2 (.inl h1), (hact p).2 (.inr h2)⟩
                · exact ⟨p, (hla p).2 (.inr ⟨h3, h1⟩), (hact p).2 (.inl h2)⟩
              · rintro ⟨p, h1, h2⟩
                rcases (hla p).1 h1 with h1 | ⟨h3, h1⟩ <;> rcases (hact p).1 h2 with h2 | h2
                · have := pb.2 p h1; have := ra _ _ i1 h2; omega
                · exact .inl ⟨p, h1, h2⟩
                · exact .inr ⟨⟨p, h1, h2⟩, h3⟩
                · have := pa.2 p h1; have := rb _ _ j1 h2; omega
            · rw [hact, i4, j4, hfi]
              simp only [lk_seq, hact2, hnb2]
              constructor
              · rintro (⟨h1, (⟨h2, h3⟩ | ⟨q, h2, h3⟩)⟩ | ⟨h1, (⟨(⟨q, h2, h4⟩ | ⟨h2, h4⟩), h3⟩ | ⟨q, h2, h3⟩)⟩)
                · exact ⟨h1, .inl ⟨h2, .inl h3⟩⟩
                · exact ⟨h1, .inr ⟨q, .inl h2, .inl h3⟩⟩
                · exact ⟨h1, .inr ⟨q, .inl h4, .inr (.inr ⟨h2, h3⟩)⟩⟩
                · exact ⟨h1, .inl ⟨h2, .inr ⟨h4, h3⟩⟩⟩
                · exact ⟨h1, .inr ⟨q, .inr h2, .inr (.inl h3)⟩⟩
              · rintro ⟨h1, (⟨h2, (h3 | ⟨h4, h3⟩)⟩ | ⟨q, (h2 | h2), (h3 | h3 | ⟨h3, h4⟩)⟩)⟩
                · exact .inl ⟨h1, .inl ⟨h2, h3⟩⟩
                · exact .inr ⟨h1, .inl ⟨.inr ⟨h2, h4⟩, h3⟩⟩
                · exact .inl ⟨h1, .inr ⟨q, h2, h3⟩⟩
                · have := ra _ _ hs1 h2; have := lb _ _ h3; omega
                · exact .inr ⟨h1, .inl ⟨.inl ⟨q, h3, h2⟩, h4⟩⟩
                · have := rb _ _ hs2 h2; have := la _ _ h3; omega
                · exact .inr ⟨h1, .inr ⟨q, h2, h3⟩⟩
                · have := rb _ _ hs2 h2; have := pa.2 _ h3; omega
          · obtain ⟨i1, i2, i3, i4⟩ := ih a (by omega) ha ta n hn hs1 hc1 hg1 en r
            obtain ⟨j1, j2, j3, j4⟩ := ih b (by omega) hb tb (n + (sts a).length) (by omega) hs2 hc2 hg2 en r
            unfold Sim
            rw [rd_alt]
            obtain ⟨ua, hua⟩ : ∃ u, u = rd a ta en r := ⟨_, rfl⟩
            obtain ⟨ub, hub⟩ : ∃ u, u = rd b tb en r := ⟨_, rfl⟩
            rw [← hua] at i1 i2 i3 i4 ⊢
            rw [← hub] at j1 j2 j3 j4 ⊢
            have hact : ∀ p, Act (.mk 4 s [a, b]) n (.two q (ua.f || ub.f) ua ub) p ↔ Act a n ua p ∨ Act b (n + (sts a).length) ub p := fun p => Iff.rfl
            have hact2 : ∀ p, Act (.mk 4 s [a, b]) n (.two q f ta tb) p ↔ Act a n ta p ∨ Act b (n + (sts a).length) tb p := fun p => Iff.rfl
            refine ⟨⟨a, b, rfl, i1, j1⟩, ⟨i2, j2⟩, ⟨?_, i3, j3⟩, fun p => ?_⟩
            · rw [pe_alt ha hb, Bool.or_eq_true, i3.f, j3.f]
              constructor
              · rintro (⟨p, h1, h2⟩ | ⟨p, h1, h2⟩)
                · exact ⟨p, List.mem_append.2 (.inl h1), (hact p).2 (.inl h2)⟩
                · exact ⟨p, List.mem_append.2 (.inr h1), (hact p).2 (.inr h2)⟩
              · rintro ⟨p, h1, h2⟩
                rcases List.mem_append.1 h1 with h1 | h1 <;> rcases (hact p).1 h2 with h2 | h2
                · exact .inl ⟨p, h1, h2⟩
                · have := pa.2 p h1; have := rb _ _ j1 h2; omega
                · have := pb.2 p h1; have := ra _ _ i1 h2; omega
                · exact .inr ⟨p, h1, h2⟩
            · rw [hact, i4, j4, pe_alt ha hb]
              simp only [lk_alt, hact2, List.mem_append]
              constructor
              · rintro (⟨h1, (⟨h2, h3⟩ | ⟨q, h2, h3⟩)⟩ | ⟨h1, (⟨h2, h3⟩ | ⟨q, h2, h3⟩)⟩)
                · exact ⟨h1, .inl ⟨h2, .inl h3⟩⟩
                · exact ⟨h1, .inr ⟨q, .inl h2, .inl h3⟩⟩
                · exact ⟨h1, .inl ⟨h2, .inr h3⟩⟩
                · exact ⟨h1, .inr ⟨q, .inr h2, .inr h3⟩⟩
              · rintro ⟨h1, (⟨h2, (h3 | h3)⟩ | ⟨q, (h2 | h2), (h3 | h3)⟩)⟩
                · exact .inl ⟨h1, .inl ⟨h2, h3⟩⟩
                · exact .inr ⟨h1, .inl ⟨h2, h3⟩⟩
                · exact .inl ⟨h1, .inr ⟨q, h2, h3⟩⟩
                · have := ra _ _ hs1 h2; have := lb _ _ h3; omega
                · have := rb _ _ hs2 h2; have := la _ _ h3; omega
                · exact .inr ⟨h1, .inr ⟨q, h2, h3⟩⟩
end Nf
end Go.Proofs.YtmgfpcblbbpahaaGreat
