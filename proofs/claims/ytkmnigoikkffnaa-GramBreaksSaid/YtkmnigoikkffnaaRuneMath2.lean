/- Sets of runes: counts, and which lists are in normal form. No Go in sight. -/
import Derived.Test.YtkmnigoikkffnaaRuneMath
set_option linter.unusedVariables false
set_option linter.unusedSimpArgs false
namespace Go.Proofs.Ytkmnigoikkffnaa.Ru

def inB (P : List Pc) (p : Int) : Bool := P.any fun q => decide (q.1 ≤ p) && decide (p < q.2)
theorem inB_iff (P : List Pc) (p : Int) : inB P p = true ↔ inP P p := by simp [inB, inP]
theorem inB_cons (q : Pc) (P : List Pc) (p : Int) : inB (q :: P) p = ((decide (q.1 ≤ p) && decide (p < q.2)) || inB P p) := by simp [inB]
def card (f : Int → Bool) : Nat → Int
  | 0 => 0
  | n + 1 => card f n + if f (n : Int) = true then 1 else 0
theorem card_congr {f g : Int → Bool} : ∀ (n : Nat), (∀ p : Nat, p < n → f p = g p) → card f n = card g n
  | 0, _ => rfl
  | n + 1, h => by unfold card; rw [card_congr n (fun p hp => h p (by omega)), h n (by omega)]
theorem card_add (f g : Int → Bool) : ∀ n : Nat, card (fun p => f p || g p) n + card (fun p => f p && g p) n = card f n + card g n
  | 0 => rfl
  | n + 1 => by
    have ih := card_add f g n
    unfold card
    cases f n <;> cases g n <;> simp <;> omega
theorem card_false : ∀ n : Nat, card (fun _ => false) n = 0
  | 0 => rfl
  | n + 1 => by unfold card; rw [card_false n]; simp
theorem card_true : ∀ n : Nat, card (fun _ => true) n = n
  | 0 => rfl
  | n + 1 => by unfold card; rw [card_true n]; simp
theorem card_int {a b : Int} (h0 : 0 ≤ a) (h : a ≤ b) : ∀ n : Nat, card (fun p => decide (a ≤ p) && decide (p < b)) n = min b n - min a n
  | 0 => by simp [card]; omega
  | n + 1 => by
    unfold card; rw [card_int h0 h n]
    by_cases h1 : a ≤ n
    · by_cases h2 : (n : Int) < b <;> simp [h1, h2] <;> omega
    · simp [h1]; omega
theorem cnt_card (n : Nat) : ∀ (P : List Pc) (b : Int), Nf b P → -1 ≤ b → (∀ q ∈ P, q.2 ≤ n) → cnt P = card (inB P) n
  | [], b, _, _, _ => by
    have : inB [] = fun _ => false := by funext p; simp [inB]
    rw [this, card_false]; rfl
  | q :: P, b, h, hb, hn => by
    have ih := cnt_card n P q.2 h.2.2 (by have := h.1; have := h.2.1; omega) (fun r hr => hn r (by simp [hr]))
    have h1 := card_add (fun p => decide (q.1 ≤ p) && decide (p < q.2)) (inB P) n
    have h2 : card (fun p => (decide (q.1 ≤ p) && decide (p < q.2)) && inB P p) n = 0 := by
      rw [← card_false n]
      refine card_congr n fun p _ => ?_
      cases hp : inB P p with
      | false => simp
      | true =>
        have := h.2.2.above ((inB_iff _ _).1 hp)
        simp; omega
    have h3 : inB (q :: P) = fun p => (decide (q.1 ≤ p) && decide (p < q.2)) || inB P p := by funext p; exact inB_cons q P p
    have h4 := card_int (a := q.1) (b := q.2) (by have := h.1; omega) (by have := h.2.1; omega) n
    have h5 := hn q (by simp)
    have h6 := h.2.1
    rw [h3]
    unfold cnt
    rw [ih]
    omega
/-- how many scalar values are in a set -/
theorem cntF_card (n : Nat) (hn : 1112064 ≤ n) (l : List Pc) : cntF l = card (inB (pcs l)) n := by
  unfold cntF
  exact cnt_card n _ (-1) (pcs_nf l) (by omega) (fun q hq => by have := pcs_bd l q hq; omega)
theorem cntF_congr {a b : List Pc} (h : ∀ p, inR a p ↔ inR b p) : cntF a = cntF b := by unfold cntF; rw [pcs_ext h]
theorem inB_bool {P : List Pc} {p : Int} {b : Bool} (h : inP P p ↔ b = true) : inB P p = b := by
  rw [Bool.eq_iff_iff, inB_iff]; exact h
theorem cntF_split (a b c d : List Pc) (h1 : ∀ p, inR c p ↔ inR a p ∨ inR b p) (h2 : ∀ p, inR d p ↔ inR a p ∧ inR b p) : cntF c + cntF d = cntF a + cntF b := by
  obtain ⟨n, hn⟩ : ∃ n : Nat, 1112064 ≤ n := ⟨_, Nat.le_refl _⟩
  rw [cntF_card n hn, cntF_card n hn, cntF_card n hn, cntF_card n hn, ← card_add (inB (pcs a)) (inB (pcs b)) n]
  rw [card_congr (f := inB (pcs c)) (g := fun p => inB (pcs a) p || inB (pcs b) p) n (fun p _ => inB_bool (by rw [pcs_in, h1, Bool.or_eq_true, inB_iff, inB_iff, pcs_in, pcs_in]))]
  rw [card_congr (f := inB (pcs d)) (g := fun p => inB (pcs a) p && inB (pcs b) p) n (fun p _ => inB_bool (by rw [pcs_in, h2, Bool.and_eq_true, inB_iff, inB_iff, pcs_in, pcs_in]))]
theorem cntF_or_and (a b : List Pc) : cntF (orF a b) + cntF (andF a b) = cntF a + cntF b := cntF_split a b _ _ (inR_or a b) (inR_and a b)
theorem card_upto (m : Nat) {f : Int → Bool} (h : ∀ p : Nat, f p = true ↔ p < m) : ∀ n : Nat, m ≤ n → card f n = m
  | 0, hm => by have : m = 0 := by omega
                subst this; rfl
  | n + 1, hm => by
    unfold card
    by_cases e : m = n + 1
    · have : card f n = card (fun _ => true) n := card_congr n fun p hp => (h p).2 (by omega)
      rw [this, card_true, if_pos ((h n).2 (by omega))]; omega
    · rw [card_upto m h n (by omega), if_neg (fun k => by have := (h n).1 k; omega)]; omega
theorem cntF_all {l : List Pc} (h : ∀ p : Int, 0 ≤ p → p < 1112064 → inR l p) : cntF l = 1112064 := by
  obtain ⟨m, hm⟩ : ∃ m : Nat, m = 1112064 := ⟨_, rfl⟩
  have := card_upto m (f := inB (pcs l)) (fun p => by
    rw [inB_iff, pcs_in]
    constructor
    · intro h; have := inR_range h; omega
    · intro hp; exact h p (by omega) (by omega)) m (Nat.le_refl _)
  rw [cntF_card m (by omega), this]; omega
theorem cntF_none {l : List Pc} (h : ∀ p : Int, ¬ inR l p) : cntF l = 0 := by
  obtain ⟨n, hn⟩ : ∃ n : Nat, 1112064 ≤ n := ⟨_, Nat.le_refl _⟩
  rw [cntF_card n hn, card_congr (g := fun _ => false) n (fun p hp => inB_bool (by rw [pcs_in]; simp; exact h p)), card_false]
theorem cntF_not (a : List Pc) : cntF (nrm a) + cntF (nt a) = 1112064 := by
  have h := cntF_split (nrm a) (nt a) (orF (nrm a) (nt a)) (andF (nrm a) (nt a)) (inR_or _ _) (inR_and _ _)
  rw [← h, cntF_all (l := orF _ _), cntF_none (l := andF _ _)]
  · omega
  · intro p; rw [inR_and, inR_nrm, inR_nt]; rintro ⟨h1, _, _, h2⟩; exact h2 h1
  · intro p h1 h2; rw [inR_or, inR_nrm, inR_nt]
    by_cases h : inR a p
    · exact .inl h
    · exact .inr ⟨h1, h2, h⟩
theorem cntF_nrm (a : List Pc) : cntF (nrm a) = cntF a := cntF_congr fun p => inR_nrm a p
theorem cnt_nonneg : ∀ {P : List Pc} {b : Int}, Nf b P → 0 ≤ cnt P
  | [], _, _ => Int.le_refl _
  | q :: P, _, h => by have := cnt_nonneg h.2.2; have := h.2.1; unfold cnt; omega
theorem cntF_le (l : List Pc) : 0 ≤ cntF l ∧ cntF l ≤ 1112064 := by
  have h1 := cnt_nonneg (pcs_nf l)
  have h2 := cnt_nonneg (pcs_nf (nt l))
  have := cntF_not l
  rw [cntF_nrm] at this
  unfold cntF at *; omega

/-- Go's test of one range -/
def okR (x : Pc) : Bool := decide (x.1 ≤ x.2) && (scal x.1 && scal x.2)
/-- Go's May -/
def mayB (l : List Pc) : Bool := (List.range l.length).all fun i => okR (l.getD i (0, 0)) && (decide (i = 0) || decide (plc (l.getD (i - 1) (0, 0)).2 + 1 < plc (l.getD i (0, 0)).1))
theorem mayB_iff (l : List Pc) : mayB l = true ↔ ∀ i, i < l.length → okR (l.getD i (0, 0)) = true ∧ (0 < i → plc (l.getD (i - 1) (0, 0)).2 + 1 < plc (l.getD i (0, 0)).1) := by
  unfold mayB
  simp only [List.all_eq_true, List.mem_range, Bool.and_eq_true, Bool.or_eq_true, decide_eq_true_eq]
  constructor
  · intro h i hi; refine ⟨(h i hi).1, fun h0 => ?_⟩
    rcases (h i hi).2 with h2 | h2
    · omega
    · exact h2
  · intro h i hi; refine ⟨(h i hi).1, ?_⟩
    by_cases h0 : i = 0
    · exact .inl h0
    · exact .inr ((h i hi).2 (by omega))
def Mr : Int → List Pc → Prop
  | _, [] => True
  | b, x :: l => okR x = true ∧ b < plc x.1 ∧ Mr (plc x.2 + 1) l
theorem mr_of : ∀ (l : List Pc) (b : Int), (∀ i, i < l.length → okR (l.getD i (0, 0)) = true ∧ (0 < i → plc (l.getD (i - 1) (0, 0)).2 + 1 < plc (l.getD i (0, 0)).1)) → (∀ x, l.head? = some x → b < plc x.1) → Mr b l
  | [], _, _, _ => trivial
  | x :: l, b, h, hb => by
    refine ⟨(h 0 (by simp)).1, hb x rfl, mr_of l _ (fun i hi => ?_) (fun y hy => ?_)⟩
    · have := h (i + 1) (by simp; omega)
      refine ⟨by simpa using this.1, fun h0 => ?_⟩
      have h2 := this.2 (by omega)
      obtain ⟨j, rfl⟩ : ∃ j, i = j + 1 := ⟨i - 1, by omega⟩
      simpa using h2
    · cases l with
      | nil => simp at hy
      | cons z l =>
        simp at hy; subst hy
        have := (h 1 (by simp)).2 (by omega)
        simpa using this
theorem of_mr : ∀ (l : List Pc) (b : Int), Mr b l → ∀ i, i < l.length → okR (l.getD i (0, 0)) = true ∧ (0 < i → plc (l.getD (i - 1) (0, 0)).2 + 1 < plc (l.getD i (0, 0)).1)
  | [], _, _, i, hi => by simp at hi
  | x :: l, b, h, 0, _ => ⟨by simpa using h.1, fun h => absurd h (by omega)⟩
  | x :: l, b, h, i + 1, hi => by
    have ih := of_mr l _ h.2.2 i (by simpa using hi)
    refine ⟨by simpa using ih.1, fun _ => ?_⟩
    cases i with
    | zero =>
      cases l with
      | nil => simp at hi
      | cons y l => simpa using h.2.2.2.1
    | succ j => simpa using ih.2 (by omega)
theorem okR_iff (x : Pc) : okR x = true ↔ x.1 ≤ x.2 ∧ scal x.1 = true ∧ scal x.2 = true := by simp [okR]
theorem plc_mono {a b : Int} (h : a ≤ b) : plc a ≤ plc b := by unfold plc; repeat' split <;> omega
theorem nf_mr : ∀ (l : List Pc) (b : Int), Mr b l → Nf b (l.map pcOf) ∧ Bd (l.map pcOf) ∧ rngs (l.map pcOf) = l
  | [], _, _ => ⟨trivial, by simp [Bd], rfl⟩
  | x :: l, b, h => by
    obtain ⟨h1, h2, h3⟩ := (okR_iff x).1 h.1
    obtain ⟨i1, i2, i3⟩ := nf_mr l _ h.2.2
    have e : pcOf x = (plc x.1, plc x.2 + 1) := by unfold pcOf; rw [if_pos h3]
    have hp := plc_scal h3
    have hm := plc_mono h1
    simp only [List.map_cons, e]
    refine ⟨⟨h.2.1, by omega, i1⟩, ?_, ?_⟩
    · intro q hq
      rcases List.mem_cons.1 hq with rfl | hq
      · simp; omega
      · exact i2 q hq
    · have i3' : rngs ((plc x.1, plc x.2 + 1) :: l.map pcOf) = (vlu (plc x.1), vlu (plc x.2 + 1 - 1)) :: rngs (l.map pcOf) := rfl
      rw [i3', i3, vlu_plc h2, show plc x.2 + 1 - 1 = plc x.2 by omega, vlu_plc h3]
theorem mr_nf : ∀ (P : List Pc) (b : Int), -1 ≤ b → Nf b P → Bd P → Mr b (rngs P)
  | [], _, _, _, _ => trivial
  | q :: P, b, hb, h, h2 => by
    have hq := h2 q (by simp)
    have h1 := h.1
    have h3 := h.2.1
    have ih := mr_nf P q.2 (by omega) h.2.2 (fun r hr => h2 r (by simp [hr]))
    refine ⟨(okR_iff _).2 ⟨vlu_mono.1 (by omega), scal_vlu (by omega) (by omega), scal_vlu (by omega) (by omega)⟩, ?_, ?_⟩
    · show b < plc (vlu q.1); rw [plc_vlu (by omega) (by omega)]; exact h1
    · show Mr (plc (vlu (q.2 - 1)) + 1) (rngs P)
      rw [plc_vlu (by omega) (by omega), show q.2 - 1 + 1 = q.2 by omega]; exact ih
/-- a list may be just if it is its own normal form -/
theorem may_nrm (l : List Pc) : mayB l = true ↔ l = nrm l := by
  rw [mayB_iff]
  constructor
  · intro h
    have hm := mr_of l (-1) h (fun x _ => by have := plc_range x.1; omega)
    obtain ⟨h1, h2, h3⟩ := nf_mr l _ hm
    have : l.map pcOf = pcs l := pcs_uniq h1 fun p => Iff.rfl
    unfold nrm; rw [← this, h3]
  · intro h
    rw [h]
    exact of_mr _ (-1) (mr_nf _ _ (by omega) (pcs_nf l) (pcs_bd l))
theorem may_eq (l : List Pc) : mayB l = decide (l = nrm l) := by rw [Bool.eq_iff_iff, may_nrm]; simp
theorem may_of {l : List Pc} (h : nrm l = l) : mayB l = true := (may_nrm l).2 h.symm
theorem nt_nt (a : List Pc) : nt (nt a) = nrm a := norm_ext (nt_norm _) (nrm_norm a) fun p => by
  rw [inR_nt, inR_nt, inR_nrm]
  constructor
  · rintro ⟨h1, h2, h3⟩; apply Classical.byContradiction; intro h; exact h3 ⟨h1, h2, h⟩
  · intro h; have := inR_range h; exact ⟨this.1, this.2, fun k => k.2.2 h⟩
theorem or_comm' (a b : List Pc) : orF a b = orF b a := nrm_ext fun p => by rw [inR_append, inR_append]; exact Or.comm
theorem nt_or (a b : List Pc) : nt (orF a b) = andF (nt a) (nt b) := norm_ext (nt_norm _) (nt_norm _) fun p => by
  rw [inR_nt, inR_or, inR_and, inR_nt, inR_nt]
  constructor
  · rintro ⟨h1, h2, h3⟩; exact ⟨⟨h1, h2, fun h => h3 (.inl h)⟩, h1, h2, fun h => h3 (.inr h)⟩
  · rintro ⟨⟨h1, h2, h3⟩, _, _, h4⟩; exact ⟨h1, h2, fun h => h.elim h3 h4⟩
theorem has_nrm (a : List Pc) (r : Int) : has (nrm a) r = has a r := by
  by_cases h : scal r = true
  · rw [Bool.eq_iff_iff, has_inR _ h, has_inR _ h, inR_nrm]
  · rw [has_not (by simpa using h), has_not (by simpa using h)]
theorem has_or (a b : List Pc) (r : Int) : has (orF a b) r = (has a r || has b r) := by
  by_cases h : scal r = true
  · rw [Bool.eq_iff_iff, Bool.or_eq_true, has_inR _ h, has_inR _ h, has_inR _ h, inR_or]
  · rw [has_not (by simpa using h), has_not (by simpa using h), has_not (by simpa using h)]; rfl
theorem has_and (a b : List Pc) (r : Int) : has (andF a b) r = (has a r && has b r) := by
  by_cases h : scal r = true
  · rw [Bool.eq_iff_iff, Bool.and_eq_true, has_inR _ h, has_inR _ h, has_inR _ h, inR_and]
  · rw [has_not (by simpa using h), has_not (by simpa using h), has_not (by simpa using h)]; rfl
theorem has_nt (a : List Pc) (r : Int) : has (nt a) r = (scal r && !has a r) := by
  by_cases h : scal r = true
  · rw [Bool.eq_iff_iff, has_inR _ h, inR_nt, h]
    have h1 := plc_range r
    have h2 := plc_scal h
    simp only [Bool.true_and, Bool.not_eq_true']
    rw [← Bool.not_eq_true, has_inR _ h]
    constructor
    · exact fun h => h.2.2
    · exact fun h => ⟨h1.1, h2, h⟩
  · rw [has_not (by simpa using h), Bool.not_eq_true] at *; simp [h, has_not h]
end Go.Proofs.Ytkmnigoikkffnaa.Ru
