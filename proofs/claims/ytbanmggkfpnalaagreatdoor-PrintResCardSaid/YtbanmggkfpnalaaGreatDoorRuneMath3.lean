/- Sets of runes: cells between cuts, and runs of places. No Go in sight. -/
import Derived.Test.YtbanmggkfpnalaaGreatDoorRuneMath
set_option linter.unusedVariables false
set_option linter.unusedSimpArgs false
namespace Go.Proofs.YtbanmggkfpnalaaGreatDoor.Ru

def inB (P : List Pc) (p : Int) : Bool := P.any fun q => decide (q.1 ≤ p) && decide (p < q.2)
theorem inB_iff (P : List Pc) (p : Int) : inB P p = true ↔ inP P p := by simp [inB, inP]
theorem inB_cons (q : Pc) (P : List Pc) (p : Int) : inB (q :: P) p = ((decide (q.1 ≤ p) && decide (p < q.2)) || inB P p) := by simp [inB]
def card (f : Int → Bool) : Nat → Int
  | 0 => 0
  | n + 1 => card f n + if f (n : Int) = true then 1 else 0
theorem card_congr {f g : Int → Bool} : ∀ (n : Nat), (∀ p : Nat, p < n → f p = g p) → card f n = card g n
  | 0, _ => rfl
  | n + 1, h => by unfold card; rw [card_congr n (fun p hp => h p (by omega)), h n (by omega)]
theorem card_add (f g : Int → Bool) : ∀ n : Nat, card (fun p => f p || g p) n + card (fun p => f p && g p) n = card f n + card g n
  | 0 => rfl
  | n + 1 => by
    have ih := card_add f g n
    unfold card
    cases f n <;> cases g n <;> simp <;> omega
theorem card_false : ∀ n : Nat, card (fun _ => false) n = 0
  | 0 => rfl
  | n + 1 => by unfold card; rw [card_false n]; simp
theorem card_true : ∀ n : Nat, card (fun _ => true) n = n
  | 0 => rfl
  | n + 1 => by unfold card; rw [card_true n]; simp
theorem card_int {a b : Int} (h0 : 0 ≤ a) (h : a ≤ b) : ∀ n : Nat, card (fun p => decide (a ≤ p) && decide (p < b)) n = min b n - min a n
  | 0 => by simp [card]; omega
  | n + 1 => by
    unfold card; rw [card_int h0 h n]
    by_cases h1 : a ≤ n
    · by_cases h2 : (n : Int) < b <;> simp [h1, h2] <;> omega
    · simp [h1]; omega
theorem cnt_card (n : Nat) : ∀ (P : List Pc) (b : Int), Nf b P → -1 ≤ b → (∀ q ∈ P, q.2 ≤ n) → cnt P = card (inB P) n
  | [], b, _, _, _ => by
    have : inB [] = fun _ => false := by funext p; simp [inB]
    rw [this, card_false]; rfl
  | q :: P, b, h, hb, hn => by
    have ih := cnt_card n P q.2 h.2.2 (by have := h.1; have := h.2.1; omega) (fun r hr => hn r (by simp [hr]))
    have h1 := card_add (fun p => decide (q.1 ≤ p) && decide (p < q.2)) (inB P) n
    have h2 : card (fun p => (decide (q.1 ≤ p) && decide (p < q.2)) && inB P p) n = 0 := by
      rw [← card_false n]
      refine card_congr n fun p _ => ?_
      cases hp : inB P p with
      | false => simp
      | true =>
        have := h.2.2.above ((inB_iff _ _).1 hp)
        simp; omega
    have h3 : inB (q :: P) = fun p => (decide (q.1 ≤ p) && decide (p < q.2)) || inB P p := by funext p; exact inB_cons q P p
    have h4 := card_int (a := q.1) (b := q.2) (by have := h.1; omega) (by have := h.2.1; omega) n
    have h5 := hn q (by simp)
    have h6 := h.2.1
    rw [h3]
    unfold cnt
    rw [ih]
    omega
/-- how many scalar values are in a set -/
theorem cntF_card (n : Nat) (hn : 1112064 ≤ n) (l : List Pc) : cntF l = card (inB (pcs l)) n := by
  unfold cntF
  exact cnt_card n _ (-1) (pcs_nf l) (by omega) (fun q hq => by have := pcs_bd l q hq; omega)
theorem cntF_congr {a b : List Pc} (h : ∀ p, inR a p ↔ inR b p) : cntF a = cntF b := by unfold cntF; rw [pcs_ext h]
theorem inB_bool {P : List Pc} {p : Int} {b : Bool} (h : inP P p ↔ b = true) : inB P p = b := by
  rw [Bool.eq_iff_iff, inB_iff]; exact h
theorem cntF_split (a b c d : List Pc) (h1 : ∀ p, inR c p ↔ inR a p ∨ inR b p) (h2 : ∀ p, inR d p ↔ inR a p ∧ inR b p) : cntF c + cntF d = cntF a + cntF b := by
  obtain ⟨n, hn⟩ : ∃ n : Nat, 1112064 ≤ n := ⟨_, Nat.le_refl _⟩
  rw [cntF_card n hn, cntF_card n hn, cntF_card n hn, cntF_card n hn, ← card_add (inB (pcs a)) (inB (pcs b)) n]
  rw [card_congr (f := inB (pcs c)) (g := fun p => inB (pcs a) p || inB (pcs b) p) n (fun p _ => inB_bool (by rw [pcs_in, h1, Bool.or_eq_true, inB_iff, inB_iff, pcs_in, pcs_in]))]
  rw [card_congr (f := inB (pcs d)) (g := fun p => inB (pcs a) p && inB (pcs b) p) n (fun p _ => inB_bool (by rw [pcs_in, h2, Bool.and_eq_true, inB_iff, inB_iff, pcs_in, pcs_in]))]
theorem cntF_or_and (a b : List Pc) : cntF (orF a b) + cntF (andF a b) = cntF a + cntF b := cntF_split a b _ _ (inR_or a b) (inR_and a b)
theorem card_upto (m : Nat) {f : Int → Bool} (h : ∀ p : Nat, f p = true ↔ p < m) : ∀ n : Nat, m ≤ n → card f n = m
  | 0, hm => by have : m = 0 := by omega
                subst this; rfl
  | n + 1, hm => by
    unfold card
    by_cases e : m = n + 1
    · have : card f n = card (fun _ => true) n := card_congr n fun p hp => (h p).2 (by omega)
      rw [this, card_true, if_pos ((h n).2 (by omega))]; omega
    · rw [card_upto m h n (by omega), if_neg (fun k => by have := (h n).1 k; omega)]; omega
theorem cntF_all {l : List Pc} (h : ∀ p : Int, 0 ≤ p → p < 1112064 → inR l p) : cntF l = 1112064 := by
  obtain ⟨m, hm⟩ : ∃ m : Nat, m = 1112064 := ⟨_, rfl⟩
  have := card_upto m (f := inB (pcs l)) (fun p => by
    rw [inB_iff, pcs_in]
    constructor
    · intro h; have := inR_range h; omega
    · intro hp; exact h p (by omega) (by omega)) m (Nat.le_refl _)
  rw [cntF_card m (by omega), this]; omega
theorem cntF_none {l : List Pc} (h : ∀ p : Int, ¬ inR l p) : cntF l = 0 := by
  obtain ⟨n, hn⟩ : ∃ n : Nat, 1112064 ≤ n := ⟨_, Nat.le_refl _⟩
  rw [cntF_card n hn, card_congr (g := fun _ => false) n (fun p hp => inB_bool (by rw [pcs_in]; simp; exact h p)), card_false]
theorem cntF_not (a : List Pc) : cntF (nrm a) + cntF (nt a) = 1112064 := by
  have h := cntF_split (nrm a) (nt a) (orF (nrm a) (nt a)) (andF (nrm a) (nt a)) (inR_or _ _) (inR_and _ _)
  rw [← h, cntF_all (l := orF _ _), cntF_none (l := andF _ _)]
  · omega
  · intro p; rw [inR_and, inR_nrm, inR_nt]; rintro ⟨h1, _, _, h2⟩; exact h2 h1
  · intro p h1 h2; rw [inR_or, inR_nrm, inR_nt]
    by_cases h : inR a p
    · exact .inl h
    · exact .inr ⟨h1, h2, h⟩
theorem cntF_nrm (a : List Pc) : cntF (nrm a) = cntF a := cntF_congr fun p => inR_nrm a p
theorem cnt_nonneg : ∀ {P : List Pc} {b : Int}, Nf b P → 0 ≤ cnt P
  | [], _, _ => Int.le_refl _
  | q :: P, _, h => by have := cnt_nonneg h.2.2; have := h.2.1; unfold cnt; omega
theorem cntF_le (l : List Pc) : 0 ≤ cntF l ∧ cntF l ≤ 1112064 := by
  have h1 := cnt_nonneg (pcs_nf l)
  have h2 := cnt_nonneg (pcs_nf (nt l))
  have := cntF_not l
  rw [cntF_nrm] at this
  unfold cntF at *; omega

/-- Go's test of one range -/
def okR (x : Pc) : Bool := decide (x.1 ≤ x.2) && (scal x.1 && scal x.2)
/-- Go's May -/
def mayB (l : List Pc) : Bool := (List.range l.length).all fun i => okR (l.getD i (0, 0)) && (decide (i = 0) || decide (plc (l.getD (i - 1) (0, 0)).2 + 1 < plc (l.getD i (0, 0)).1))
theorem mayB_iff (l : List Pc) : mayB l = true ↔ ∀ i, i < l.length → okR (l.getD i (0, 0)) = true ∧ (0 < i → plc (l.getD (i - 1) (0, 0)).2 + 1 < plc (l.getD i (0, 0)).1) := by
  unfold mayB
  simp only [List.all_eq_true, List.mem_range, Bool.and_eq_true, Bool.or_eq_true, decide_eq_true_eq]
  constructor
  · intro h i hi; refine ⟨(h i hi).1, fun h0 => ?_⟩
    rcases (h i hi).2 with h2 | h2
    · omega
    · exact h2
  · intro h i hi; refine ⟨(h i hi).1, ?_⟩
    by_cases h0 : i = 0
    · exact .inl h0
    · exact .inr ((h i hi).2 (by omega))
def Mr : Int → List Pc → Prop
  | _, [] => True
  | b, x :: l => okR x = true ∧ b < plc x.1 ∧ Mr (plc x.2 + 1) l
theorem mr_of : ∀ (l : List Pc) (b : Int), (∀ i, i < l.length → okR (l.getD i (0, 0)) = true ∧ (0 < i → plc (l.getD (i - 1) (0, 0)).2 + 1 < plc (l.getD i (0, 0)).1)) → (∀ x, l.head? = some x → b < plc x.1) → Mr b l
  | [], _, _, _ => trivial
  | x :: l, b, h, hb => by
    refine ⟨(h 0 (by simp)).1, hb x rfl, mr_of l _ (fun i hi => ?_) (fun y hy => ?_)⟩
    · have := h (i + 1) (by simp; omega)
      refine ⟨by simpa using this.1, fun h0 => ?_⟩
      have h2 := this.2 (by omega)
      obtain ⟨j, rfl⟩ : ∃ j, i = j + 1 := ⟨i - 1, by omega⟩
      simpa using h2
    · cases l with
      | nil => simp at hy
      | cons z l =>
        simp at hy; subst hy
        have := (h 1 (by simp)).2 (by omega)
        simpa using this
theorem of_mr : ∀ (l : List Pc) (b : Int), Mr b l → ∀ i, i < l.length → okR (l.getD i (0, 0)) = true ∧ (0 < i → plc (l.getD (i - 1) (0, 0)).2 + 1 < plc (l.getD i (0, 0)).1)
  | [], _, _, i, hi => by simp at hi
  | x :: l, b, h, 0, _ => ⟨by simpa using h.1, fun h => absurd h (by omega)⟩
  | x :: l, b, h, i + 1, hi => by
    have ih := of_mr l _ h.2.2 i (by simpa using hi)
    refine ⟨by simpa using ih.1, fun _ => ?_⟩
    cases i with
    | zero =>
      cases l with
      | nil => simp at hi
      | cons y l => simpa using h.2.2.2.1
    | succ j => simpa using ih.2 (by omega)
theorem okR_iff (x : Pc) : okR x = true ↔ x.1 ≤ x.2 ∧ scal x.1 = true ∧ scal x.2 = true := by simp [okR]
theorem plc_mono {a b : Int} (h : a ≤ b) : plc a ≤ plc b := by unfold plc; repeat' split <;> omega
theorem nf_mr : ∀ (l : List Pc) (b : Int), Mr b l → Nf b (l.map pcOf) ∧ Bd (l.map pcOf) ∧ rngs (l.map pcOf) = l
  | [], _, _ => ⟨trivial, by simp [Bd], rfl⟩
  | x :: l, b, h => by
    obtain ⟨h1, h2, h3⟩ := (okR_iff x).1 h.1
    obtain ⟨i1, i2, i3⟩ := nf_mr l _ h.2.2
    have e : pcOf x = (plc x.1, plc x.2 + 1) := by unfold pcOf; rw [if_pos h3]
    have hp := plc_scal h3
    have hm := plc_mono h1
    simp only [List.map_cons, e]
    refine ⟨⟨h.2.1, by omega, i1⟩, ?_, ?_⟩
    · intro q hq
      rcases List.mem_cons.1 hq with rfl | hq
      · simp; omega
      · exact i2 q hq
    · have i3' : rngs ((plc x.1, plc x.2 + 1) :: l.map pcOf) = (vlu (plc x.1), vlu (plc x.2 + 1 - 1)) :: rngs (l.map pcOf) := rfl
      rw [i3', i3, vlu_plc h2, show plc x.2 + 1 - 1 = plc x.2 by omega, vlu_plc h3]
theorem mr_nf : ∀ (P : List Pc) (b : Int), -1 ≤ b → Nf b P → Bd P → Mr b (rngs P)
  | [], _, _, _, _ => trivial
  | q :: P, b, hb, h, h2 => by
    have hq := h2 q (by simp)
    have h1 := h.1
    have h3 := h.2.1
    have ih := mr_nf P q.2 (by omega) h.2.2 (fun r hr => h2 r (by simp [hr]))
    refine ⟨(okR_iff _).2 ⟨vlu_mono.1 (by omega), scal_vlu (by omega) (by omega), scal_vlu (by omega) (by omega)⟩, ?_, ?_⟩
    · show b < plc (vlu q.1); rw [plc_vlu (by omega) (by omega)]; exact h1
    · show Mr (plc (vlu (q.2 - 1)) + 1) (rngs P)
      rw [plc_vlu (by omega) (by omega), show q.2 - 1 + 1 = q.2 by omega]; exact ih
/-- a list may be just if it is its own normal form -/
theorem may_nrm (l : List Pc) : mayB l = true ↔ l = nrm l := by
  rw [mayB_iff]
  constructor
  · intro h
    have hm := mr_of l (-1) h (fun x _ => by have := plc_range x.1; omega)
    obtain ⟨h1, h2, h3⟩ := nf_mr l _ hm
    have : l.map pcOf = pcs l := pcs_uniq h1 fun p => Iff.rfl
    unfold nrm; rw [← this, h3]
  · intro h
    rw [h]
    exact of_mr _ (-1) (mr_nf _ _ (by omega) (pcs_nf l) (pcs_bd l))
theorem may_eq (l : List Pc) : mayB l = decide (l = nrm l) := by rw [Bool.eq_iff_iff, may_nrm]; simp
theorem may_of {l : List Pc} (h : nrm l = l) : mayB l = true := (may_nrm l).2 h.symm
theorem nt_nt (a : List Pc) : nt (nt a) = nrm a := norm_ext (nt_norm _) (nrm_norm a) fun p => by
  rw [inR_nt, inR_nt, inR_nrm]
  constructor
  · rintro ⟨h1, h2, h3⟩; apply Classical.byContradiction; intro h; exact h3 ⟨h1, h2, h⟩
  · intro h; have := inR_range h; exact ⟨this.1, this.2, fun k => k.2.2 h⟩
theorem or_comm' (a b : List Pc) : orF a b = orF b a := nrm_ext fun p => by rw [inR_append, inR_append]; exact Or.comm
theorem nt_or (a b : List Pc) : nt (orF a b) = andF (nt a) (nt b) := norm_ext (nt_norm _) (nt_norm _) fun p => by
  rw [inR_nt, inR_or, inR_and, inR_nt, inR_nt]
  constructor
  · rintro ⟨h1, h2, h3⟩; exact ⟨⟨h1, h2, fun h => h3 (.inl h)⟩, h1, h2, fun h => h3 (.inr h)⟩
  · rintro ⟨⟨h1, h2, h3⟩, _, _, h4⟩; exact ⟨h1, h2, fun h => h.elim h3 h4⟩
theorem has_nrm (a : List Pc) (r : Int) : has (nrm a) r = has a r := by
  by_cases h : scal r = true
  · rw [Bool.eq_iff_iff, has_inR _ h, has_inR _ h, inR_nrm]
  · rw [has_not (by simpa using h), has_not (by simpa using h)]
theorem has_or (a b : List Pc) (r : Int) : has (orF a b) r = (has a r || has b r) := by
  by_cases h : scal r = true
  · rw [Bool.eq_iff_iff, Bool.or_eq_true, has_inR _ h, has_inR _ h, has_inR _ h, inR_or]
  · rw [has_not (by simpa using h), has_not (by simpa using h), has_not (by simpa using h)]; rfl
theorem has_and (a b : List Pc) (r : Int) : has (andF a b) r = (has a r && has b r) := by
  by_cases h : scal r = true
  · rw [Bool.eq_iff_iff, Bool.and_eq_true, has_inR _ h, has_inR _ h, has_inR _ h, inR_and]
  · rw [has_not (by simpa using h), has_not (by simpa using h), has_not (by simpa using h)]; rfl
theorem has_nt (a : List Pc) (r : Int) : has (nt a) r = (scal r && !has a r) := by
  by_cases h : scal r = true
  · rw [Bool.eq_iff_iff, has_inR _ h, inR_nt, h]
    have h1 := plc_range r
    have h2 := plc_scal h
    simp only [Bool.true_and, Bool.not_eq_true']
    rw [← Bool.not_eq_true, has_inR _ h]
    constructor
    · exact fun h => h.2.2
    · exact fun h => ⟨h1.1, h2, h⟩
  · rw [has_not (by simpa using h), Bool.not_eq_true] at *; simp [h, has_not h]
end Go.Proofs.YtbanmggkfpnalaaGreatDoor.Ru

set_option linter.unusedVariables false
set_option linter.unusedSimpArgs false
namespace Go.Proofs.YtbanmggkfpnalaaGreatDoor.Ru

/-- rising, each once, all above b -/
def Ris : Int → List Int → Prop
  | _, [] => True
  | b, x :: l => b < x ∧ Ris x l
theorem Ris.weaken {a b : Int} {l : List Int} (h : Ris b l) (hab : a ≤ b) : Ris a l := by
  cases l with
  | nil => trivial
  | cons x l => exact ⟨by have := h.1; omega, h.2⟩
theorem Ris.above : ∀ {b : Int} {l : List Int}, Ris b l → ∀ x ∈ l, b < x
  | b, [], _, x, hx => by simp at hx
  | b, y :: l, h, x, hx => by
    rcases List.mem_cons.1 hx with rfl | hx
    · exact h.1
    · have := Ris.above h.2 x hx; have := h.1; omega
theorem Ris.uniq : ∀ {a b : Int} {l m : List Int}, Ris a l → Ris b m → (∀ x, x ∈ l ↔ x ∈ m) → l = m
  | _, _, [], [], _, _, _ => rfl
  | _, _, [], y :: m, _, _, h => by have := (h y).2 (by simp); simp at this
  | _, _, x :: l, [], _, _, h => by have := (h x).1 (by simp); simp at this
  | _, _, x :: l, y :: m, hl, hm, h => by
    have k1 : y ≤ x := by
      rcases List.mem_cons.1 ((h x).1 (by simp)) with k | k
      · omega
      · have := hm.2.above x k; omega
    have k2 : x ≤ y := by
      rcases List.mem_cons.1 ((h y).2 (by simp)) with k | k
      · omega
      · have := hl.2.above y k; omega
    obtain rfl : x = y := by omega
    rw [Ris.uniq hl.2 hm.2 (by
      intro z
      constructor
      · intro hz
        rcases List.mem_cons.1 ((h z).1 (by simp [hz])) with k | k
        · have := hl.2.above z hz; omega
        · exact k
      · intro hz
        rcases List.mem_cons.1 ((h z).2 (by simp [hz])) with k | k
        · have := hm.2.above z hz; omega
        · exact k)]
/-- insertion without doubles -/
def insD (x : Int) : List Int → List Int
  | [] => [x]
  | y :: l => if x < y then x :: y :: l else if x = y then y :: l else y :: insD x l
def srtD (l : List Int) : List Int := l.foldl (fun s x => insD x s) []
theorem mem_insD (x z : Int) : ∀ l, z ∈ insD x l ↔ z = x ∨ z ∈ l
  | [] => by simp [insD]
  | y :: l => by
    unfold insD
    split
    · simp
    · split
      · rename_i h; subst h; simp
      · simp only [List.mem_cons, mem_insD x z l]
        constructor
        · rintro (h | h | h) <;> simp [h]
        · rintro (h | h | h) <;> simp [h]
theorem ris_insD (x : Int) : ∀ (l : List Int) (b : Int), b < x → Ris b l → Ris b (insD x l)
  | [], b, h, _ => ⟨h, trivial⟩
  | y :: l, b, h, hl => by
    unfold insD
    split
    · exact ⟨h, by assumption, hl.2⟩
    · split
      · exact hl
      · exact ⟨hl.1, ris_insD x l y (by omega) hl.2⟩
theorem srtD_all : ∀ (l s : List Int) (b : Int), Ris b s → (∀ x ∈ l, b < x) → Ris b (l.foldl (fun s x => insD x s) s) ∧ ∀ z, z ∈ l.foldl (fun s x => insD x s) s ↔ z ∈ l ∨ z ∈ s
  | [], s, b, h, _ => ⟨h, by simp⟩
  | x :: l, s, b, h, h2 => by
    obtain ⟨h3, h4⟩ := srtD_all l (insD x s) b (ris_insD x s b (h2 x (by simp)) h) (fun y hy => h2 y (by simp [hy]))
    refine ⟨h3, fun z => ?_⟩
    rw [List.foldl_cons, h4, mem_insD]
    simp only [List.mem_cons]
    constructor
    · rintro (h | h | h) <;> simp [h]
    · rintro ((h | h) | h) <;> simp [h]
theorem srtD_ris {l : List Int} {b : Int} (h : ∀ x ∈ l, b < x) : Ris b (srtD l) := (srtD_all l [] b trivial h).1
theorem mem_srtD {l : List Int} {b : Int} (h : ∀ x ∈ l, b < x) (z : Int) : z ∈ srtD l ↔ z ∈ l := by rw [show srtD l = l.foldl (fun s x => insD x s) [] from rfl, (srtD_all l [] b trivial h).2]; simp

/-- both ends of each piece -/
def ends : List Pc → List Int
  | [] => []
  | q :: P => q.1 :: q.2 :: ends P
theorem mem_ends : ∀ (P : List Pc) (z : Int), z ∈ ends P ↔ ∃ q ∈ P, z = q.1 ∨ z = q.2
  | [], z => by simp [ends]
  | q :: P, z => by simp only [ends, List.mem_cons, mem_ends P z]; simp [or_assoc]
/-- what lies between one cut and the next one, where a piece is -/
def gaps (P : List Pc) : List Int → List Pc
  | x :: y :: l => if x < y ∧ inB P x = true then (x, y) :: gaps P (y :: l) else gaps P (y :: l)
  | _ => []
def cutF (P : List Pc) : List Pc := gaps P (srtD (ends P))
def cutsF (ls : List (List Pc)) : List Pc := rngs (cutF (ls.flatMap pcs))

/-- rising, doubles allowed -/
def AscI : List Int → Prop
  | x :: y :: l => x ≤ y ∧ AscI (y :: l)
  | _ => True
def dd : List Int → List Int
  | x :: y :: l => if x = y then dd (y :: l) else x :: dd (y :: l)
  | l => l
theorem gaps_dd (P : List Pc) : ∀ l, AscI l → gaps P (dd l) = gaps P l
  | [], _ => rfl
  | [x], _ => rfl
  | x :: y :: l, h => by
    have ih := gaps_dd P (y :: l) h.2
    unfold dd
    split
    · rename_i e; subst e
      rw [ih]; conv => rhs; unfold gaps
      rw [if_neg (by omega)]
    · have hd : ∃ t, dd (y :: l) = y :: t := by
        clear ih h
        induction l generalizing y with
        | nil => exact ⟨[], rfl⟩
        | cons z l ih2 =>
          rename_i hxy
          by_cases e : y = z
          · subst e
            obtain ⟨t, ht⟩ := ih2 y hxy
            exact ⟨t, by rw [dd, if_pos rfl, ht]⟩
          · exact ⟨_, by rw [dd, if_neg e]⟩
      obtain ⟨t, ht⟩ := hd
      rw [ht] at ih ⊢
      rw [gaps, gaps, ih]
theorem dd_ris : ∀ (l : List Int) (b : Int), AscI l → (∀ x, l.head? = some x → b < x) → Ris b (dd l)
  | [], _, _, _ => trivial
  | [x], b, _, h => ⟨h x rfl, trivial⟩
  | x :: y :: l, b, h, hb => by
    have hx := hb x rfl
    unfold dd
    split
    · rename_i e; subst e; exact dd_ris (x :: l) b h.2 (fun z hz => by simp at hz; omega)
    · exact ⟨hx, dd_ris (y :: l) x h.2 (fun z hz => by simp at hz; have := h.1; omega)⟩
theorem mem_dd : ∀ (l : List Int) (z : Int), z ∈ dd l ↔ z ∈ l
  | [], z => by simp [dd]
  | [x], z => by simp [dd]
  | x :: y :: l, z => by
    have ih := mem_dd (y :: l) z
    unfold dd
    split
    · rename_i e; subst e; rw [ih]; simp
    · rw [List.mem_cons, ih]; simp
/-- cuts in any rising order, doubles or not, make the same cells -/
theorem gaps_eq (P : List Pc) (l : List Int) (b : Int) (h : AscI l) (hb : ∀ x ∈ l, b < x) (hm : ∀ z, z ∈ l ↔ z ∈ ends P) : gaps P l = cutF P := by
  rw [← gaps_dd P l h]
  unfold cutF
  rw [(dd_ris l b h (fun x hx => hb x (by cases l with | nil => simp at hx | cons y l => simp at hx; simp [hx]))).uniq (srtD_ris (b := b) (fun x hx => hb x ((hm x).2 hx)))]
  intro z
  rw [mem_dd, hm, mem_srtD (b := b) (fun x hx => hb x ((hm x).2 hx))]
theorem gaps_snoc (P : List Pc) : ∀ (l : List Int) (x y : Int), gaps P (l ++ [x, y]) = gaps P (l ++ [x]) ++ if x < y ∧ inB P x = true then [(x, y)] else []
  | [], x, y => by simp [gaps]
  | [z], x, y => by
    simp only [List.cons_append, List.nil_append, gaps]
    by_cases h1 : z < x ∧ inB P z = true <;> by_cases h2 : x < y ∧ inB P x = true <;> simp [h1, h2]
  | z :: u :: l, x, y => by
    have ih := gaps_snoc P (u :: l) x y
    simp only [List.cons_append] at ih ⊢
    rw [gaps, gaps, ih]
    by_cases h1 : z < u ∧ inB P z = true <;> simp [h1]
theorem take_two {α} (l : List α) (d : α) (k : Nat) (h : k + 1 < l.length) : l.take (k + 2) = l.take k ++ [l.getD k d, l.getD (k + 1) d] := by
  have e1 : l.take (k + 2) = l.take (k + 1) ++ [l[k + 1]] := List.take_succ_eq_append_getElem h
  have e2 : l.take (k + 1) = l.take k ++ [l[k]] := List.take_succ_eq_append_getElem (by omega)
  have e3 : l.getD k d = l[k] := by simp [List.getD, List.getElem?_eq_getElem (show k < l.length by omega)]
  have e4 : l.getD (k + 1) d = l[k + 1] := by simp [List.getD, List.getElem?_eq_getElem h]
  rw [e1, e2, e3, e4, List.append_assoc]; rfl
theorem take_one {α} (l : List α) (d : α) (k : Nat) (h : k < l.length) : l.take (k + 1) = l.take k ++ [l.getD k d] := by
  rw [List.take_succ_eq_append_getElem h]
  simp [List.getD, List.getElem?_eq_getElem h]
/-- the cells behind k + 2 cuts, out of those behind k + 1 -/
theorem gaps_take (P : List Pc) (l : List Int) (k : Nat) (h : k + 1 < l.length) : gaps P (l.take (k + 2)) = gaps P (l.take (k + 1)) ++ if l.getD k 0 < l.getD (k + 1) 0 ∧ inB P (l.getD k 0) = true then [(l.getD k 0, l.getD (k + 1) 0)] else [] := by
  rw [take_two l 0 k h, take_one l 0 k (by omega), gaps_snoc]
theorem gaps_one (P : List Pc) (l : List Int) : gaps P (l.take 1) = [] := by
  cases l <;> simp [gaps]
theorem gaps_zero (P : List Pc) (l : List Int) : gaps P (l.take 0) = [] := by simp [gaps]

/-- what is added up to a place -/
def bal : List Pc → Int → Int
  | [], _ => 0
  | e :: E, x => (if e.1 ≤ x then e.2 else 0) + bal E x
def sumB : List Pc → Int
  | [] => 0
  | e :: E => e.2 + sumB E
/-- the edges of pieces: one more from its beginning on, one less from its end on -/
def edges : List Pc → List Pc
  | [] => []
  | q :: P => (q.1, 1) :: (q.2, -1) :: edges P
theorem bal_perm {E F : List Pc} (h : E.Perm F) (x : Int) : bal E x = bal F x := by
  induction h with
  | nil => rfl
  | cons e _ ih => simp only [bal]; omega
  | swap e f l => simp only [bal]; omega
  | trans _ _ h1 h2 => omega
theorem edges_fst : ∀ P : List Pc, (edges P).map Prod.fst = ends P
  | [] => rfl
  | q :: P => by simp [edges, ends, edges_fst P]
theorem bal_edges : ∀ (P : List Pc) (x : Int), (∀ q ∈ P, q.1 < q.2) → 0 ≤ bal (edges P) x ∧ (0 < bal (edges P) x ↔ inB P x = true)
  | [], x, _ => by simp [bal, edges, inB]
  | q :: P, x, h => by
    obtain ⟨h1, h2⟩ := bal_edges P x (fun r hr => h r (by simp [hr]))
    have hq := h q (by simp)
    rw [inB_cons]
    simp only [edges, bal, Bool.or_eq_true, ← h2, Bool.and_eq_true, decide_eq_true_eq]
    by_cases a : q.1 ≤ x <;> by_cases b : q.2 ≤ x <;> simp [a, b] <;> omega
theorem bal_none : ∀ (E : List Pc) (x : Int), (∀ e ∈ E, x < e.1) → bal E x = 0
  | [], _, _ => rfl
  | e :: E, x, h => by
    have := h e (by simp)
    unfold bal; rw [bal_none E x (fun f hf => h f (by simp [hf])), if_neg (by omega)]; rfl
theorem sum_bal : ∀ (E : List Pc) (k : Nat) (x : Int), (∀ e ∈ E.take k, e.1 ≤ x) → (∀ e ∈ E.drop k, x < e.1) → sumB (E.take k) = bal E x
  | E, 0, x, _, h => by rw [bal_none E x (by simpa using h)]; simp [sumB]
  | [], k + 1, x, _, _ => by simp [sumB, bal]
  | e :: E, k + 1, x, h1, h2 => by
    have ih := sum_bal E k x (fun f hf => h1 f (by simp [hf])) (by simpa using h2)
    have := h1 e (by simp)
    simp only [List.take_succ_cons, sumB, bal, ih, if_pos this]
theorem sumB_snoc : ∀ (E : List Pc) (e : Pc), sumB (E ++ [e]) = sumB E + e.2
  | [], e => by simp [sumB]
  | f :: E, e => by simp only [List.cons_append, sumB, sumB_snoc E e]; omega
theorem sumB_le : ∀ (E : List Pc), (∀ e ∈ E, e.2 = 1 ∨ e.2 = -1) → -(E.length : Int) ≤ sumB E ∧ sumB E ≤ E.length
  | [], _ => by simp [sumB]
  | e :: E, h => by
    have ih := sumB_le E (fun f hf => h f (by simp [hf]))
    have := h e (by simp)
    simp only [sumB, List.length_cons]; omega
theorem edges_by : ∀ (P : List Pc), ∀ e ∈ edges P, e.2 = 1 ∨ e.2 = -1
  | [], e, h => by simp [edges] at h
  | q :: P, e, h => by
    simp only [edges, List.mem_cons] at h
    rcases h with rfl | rfl | h
    · exact .inl rfl
    · exact .inr rfl
    · exact edges_by P e h
theorem edges_append : ∀ (P Q : List Pc), edges (P ++ Q) = edges P ++ edges Q
  | [], Q => rfl
  | q :: P, Q => by simp [edges, edges_append P Q]
theorem edges_len : ∀ (P : List Pc), (edges P).length = 2 * P.length
  | [] => rfl
  | q :: P => by simp [edges, edges_len P]; omega
end Go.Proofs.YtbanmggkfpnalaaGreatDoor.Ru
