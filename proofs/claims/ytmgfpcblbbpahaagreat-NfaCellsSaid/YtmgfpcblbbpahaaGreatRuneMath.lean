/- Sets of runes as plain lists of places: pieces, their normal form, what is in them. No Go in sight. -/
set_option linter.unusedVariables false
set_option linter.unusedSimpArgs false
namespace Go.Proofs.YtmgfpcblbbpahaaGreat.Ru

abbrev Pc := Int × Int
/-- is a number a scalar value -/
def scal (r : Int) : Bool := decide (0 ≤ r) && (decide (r ≤ 1114111) && (decide (r < 55296) || decide (57344 ≤ r)))
/-- how many scalar values are below a number -/
def plc (n : Int) : Int := if n < 0 then 0 else if n < 55296 then n else if n < 57344 then 55296 else if n ≤ 1114111 then n - 2048 else 1112064
/-- the scalar value at a place -/
def vlu (p : Int) : Int := if p < 55296 then p else p + 2048
def pcOf (x : Pc) : Pc := (plc x.1, if scal x.2 = true then plc x.2 + 1 else plc x.2)

theorem scal_iff (r : Int) : scal r = true ↔ 0 ≤ r ∧ r ≤ 1114111 ∧ (r < 55296 ∨ 57344 ≤ r) := by simp [scal]
theorem scal_not (r : Int) : scal r = false ↔ ¬ (0 ≤ r ∧ r ≤ 1114111 ∧ (r < 55296 ∨ 57344 ≤ r)) := by rw [← scal_iff]; simp
theorem plc_range (n : Int) : 0 ≤ plc n ∧ plc n ≤ 1112064 := by unfold plc; repeat' split <;> omega
theorem plc_scal {r : Int} (h : scal r = true) : plc r < 1112064 := by rw [scal_iff] at h; unfold plc; repeat' split <;> omega
theorem plc_vlu {p : Int} (h : 0 ≤ p) (h2 : p < 1112064) : plc (vlu p) = p := by unfold vlu; split <;> (unfold plc; repeat' split <;> omega)
theorem vlu_plc {r : Int} (h : scal r = true) : vlu (plc r) = r := by rw [scal_iff] at h; unfold vlu plc; repeat' split <;> omega
theorem scal_vlu {p : Int} (h : 0 ≤ p) (h2 : p < 1112064) : scal (vlu p) = true := by rw [scal_iff]; unfold vlu; split <;> omega
theorem vlu_mono {p q : Int} : p ≤ q ↔ vlu p ≤ vlu q := by unfold vlu; split <;> split <;> omega
theorem pcOf_range (x : Pc) : 0 ≤ (pcOf x).1 ∧ (pcOf x).1 ≤ 1112064 ∧ 0 ≤ (pcOf x).2 ∧ (pcOf x).2 ≤ 1112064 := by
  have h1 := plc_range x.1; have h2 := plc_range x.2
  unfold pcOf
  by_cases h : scal x.2 = true
  · have := plc_scal h; simp only [h, if_true]; omega
  · simp only [h, if_false]; simp; omega
theorem pcOf_in (x : Pc) {p : Int} (h : 0 ≤ p) (h2 : p < 1112064) : ((pcOf x).1 ≤ p ∧ p < (pcOf x).2) ↔ (x.1 ≤ vlu p ∧ vlu p ≤ x.2) := by
  have e1 : (pcOf x).1 ≤ p ↔ x.1 ≤ vlu p := by
    unfold pcOf plc vlu; repeat' split <;> omega
  have e2 : p < (pcOf x).2 ↔ vlu p ≤ x.2 := by
    unfold pcOf
    by_cases hs : scal x.2 = true
    · simp only [hs, if_true]; rw [scal_iff] at hs; unfold plc vlu; repeat' split <;> omega
    · simp only [hs]; rw [scal_iff] at hs; simp only [Bool.false_eq_true, if_false]; unfold plc vlu; repeat' split <;> omega
  rw [e1, e2]
theorem pcOf_vlu {a b : Int} (h0 : 0 ≤ a) (h1 : a < b) (h2 : b ≤ 1112064) : pcOf (vlu a, vlu (b - 1)) = (a, b) := by
  unfold pcOf
  rw [if_pos (scal_vlu (by omega) (by omega))]
  have e1 := plc_vlu h0 (show a < 1112064 by omega)
  have e2 := plc_vlu (show 0 ≤ b - 1 by omega) (show b - 1 < 1112064 by omega)
  exact Prod.ext e1 (by show plc (vlu (b - 1)) + 1 = b; omega)

/-- p is in a piece of P -/
def inP (P : List Pc) (p : Int) : Prop := ∃ q ∈ P, q.1 ≤ p ∧ p < q.2
/-- ascending, none empty, a gap between any two, all above b -/
def Nf : Int → List Pc → Prop
  | _, [] => True
  | b, q :: P => b < q.1 ∧ q.1 < q.2 ∧ Nf q.2 P
/-- all at most n -/
def Bd (P : List Pc) : Prop := ∀ q ∈ P, q.2 ≤ 1112064

theorem inP_nil (p : Int) : ¬ inP [] p := by simp [inP]
theorem inP_cons (q : Pc) (P : List Pc) (p : Int) : inP (q :: P) p ↔ (q.1 ≤ p ∧ p < q.2) ∨ inP P p := by simp [inP]
theorem inP_append (P Q : List Pc) (p : Int) : inP (P ++ Q) p ↔ inP P p ∨ inP Q p := by
  simp only [inP, List.mem_append]
  constructor
  · rintro ⟨q, h | h, h2⟩
    · exact .inl ⟨q, h, h2⟩
    · exact .inr ⟨q, h, h2⟩
  · rintro (⟨q, h, h2⟩ | ⟨q, h, h2⟩)
    · exact ⟨q, .inl h, h2⟩
    · exact ⟨q, .inr h, h2⟩
theorem Nf.above : ∀ {b : Int} {P : List Pc} (h : Nf b P) {p : Int}, inP P p → b < p
  | b, [], _, p, hp => absurd hp (inP_nil p)
  | b, q :: P, h, p, hp => by
    rcases (inP_cons q P p).1 hp with hp | hp
    · have := h.1; omega
    · have := Nf.above h.2.2 hp; have := h.1; have := h.2.1; omega
theorem Nf.uniq : ∀ {a b : Int} {P Q : List Pc}, Nf a P → Nf b Q → (∀ p, inP P p ↔ inP Q p) → P = Q
  | _, _, [], [], _, _, _ => rfl
  | _, _, [], q :: Q, _, hQ, h => absurd ((h q.1).2 ((inP_cons q Q _).2 (.inl ⟨Int.le_refl _, hQ.2.1⟩))) (inP_nil _)
  | _, _, q :: P, [], hP, _, h => absurd ((h q.1).1 ((inP_cons q P _).2 (.inl ⟨Int.le_refl _, hP.2.1⟩))) (inP_nil _)
  | _, _, q :: P, r :: Q, hP, hQ, h => by
    obtain ⟨_, hq, hP'⟩ := hP
    obtain ⟨_, hr, hQ'⟩ := hQ
    have k1 : r.1 ≤ q.1 := by
      rcases (inP_cons r Q _).1 ((h q.1).1 ((inP_cons q P _).2 (.inl ⟨Int.le_refl _, hq⟩))) with k | k
      · exact k.1
      · have := hQ'.above k; omega
    have k2 : q.1 ≤ r.1 := by
      rcases (inP_cons q P _).1 ((h r.1).2 ((inP_cons r Q _).2 (.inl ⟨Int.le_refl _, hr⟩))) with k | k
      · exact k.1
      · have := hP'.above k; omega
    have k3 : r.2 ≤ q.2 := by
      apply Int.not_lt.1; intro hlt
      rcases (inP_cons q P _).1 ((h q.2).2 ((inP_cons r Q _).2 (.inl ⟨by omega, hlt⟩))) with k | k
      · omega
      · have := hP'.above k; omega
    have k4 : q.2 ≤ r.2 := by
      apply Int.not_lt.1; intro hlt
      rcases (inP_cons r Q _).1 ((h r.2).1 ((inP_cons q P _).2 (.inl ⟨by omega, hlt⟩))) with k | k
      · omega
      · have := hQ'.above k; omega
    obtain ⟨q1, q2⟩ := q
    obtain ⟨r1, r2⟩ := r
    simp only at *
    obtain rfl : q1 = r1 := by omega
    obtain rfl : q2 = r2 := by omega
    have e : P = Q := Nf.uniq hP' hQ' (by
      intro p
      constructor
      · intro hp
        rcases (inP_cons _ Q _).1 ((h p).1 ((inP_cons _ P _).2 (.inr hp))) with k | k
        · have := hP'.above hp; simp at k; omega
        · exact k
      · intro hp
        rcases (inP_cons _ P _).1 ((h p).2 ((inP_cons _ Q _).2 (.inr hp))) with k | k
        · have := hQ'.above hp; simp at k; omega
        · exact k)
    rw [e]

/-- insertion by the beginning -/
def ins (p : Pc) : List Pc → List Pc
  | [] => [p]
  | q :: l => if p.1 ≤ q.1 then p :: q :: l else q :: ins p l
def srt : List Pc → List Pc
  | [] => []
  | p :: l => ins p (srt l)
/-- pieces one behind the other, those that touch made one -/
def mrg : Pc → List Pc → List Pc
  | c, [] => [c]
  | c, p :: l => if p.1 ≤ c.2 then mrg (c.1, max c.2 p.2) l else c :: mrg p l
def merge : List Pc → List Pc
  | [] => []
  | p :: l => mrg p l
/-- ranges in places, those that are empty left out -/
def raw (l : List Pc) : List Pc := (l.map pcOf).filter fun p => decide (p.1 < p.2)
/-- the normal form, in places -/
def pcs (l : List Pc) : List Pc := merge (srt (raw l))
def rngs (P : List Pc) : List Pc := P.map fun p => (vlu p.1, vlu (p.2 - 1))
def cnt : List Pc → Int
  | [] => 0
  | p :: P => p.2 - p.1 + cnt P
def nrm (l : List Pc) : List Pc := rngs (pcs l)
def has (l : List Pc) (r : Int) : Bool := scal r && l.any fun x => decide (x.1 ≤ r) && decide (r ≤ x.2)
/-- the same of ranges -/
def inR (l : List Pc) (p : Int) : Prop := inP (l.map pcOf) p

theorem mem_ins (p q : Pc) : ∀ l, q ∈ ins p l ↔ q = p ∨ q ∈ l
  | [] => by simp [ins]
  | r :: l => by
    unfold ins
    split
    · simp
    · simp only [List.mem_cons, mem_ins p q l]
      constructor
      · rintro (h | h | h) <;> simp [h]
      · rintro (h | h | h) <;> simp [h]
theorem mem_srt (q : Pc) : ∀ l, q ∈ srt l ↔ q ∈ l
  | [] => by simp [srt]
  | p :: l => by simp [srt, mem_ins, mem_srt q l]
def Asc : List Pc → Prop
  | [] => True
  | [_] => True
  | p :: q :: l => p.1 ≤ q.1 ∧ Asc (q :: l)
theorem asc_ins (p : Pc) : ∀ l, Asc l → Asc (ins p l)
  | [], _ => trivial
  | [q], _ => by
    unfold ins
    split
    · exact ⟨by assumption, trivial⟩
    · exact ⟨by omega, trivial⟩
  | q :: r :: l, h => by
    unfold ins
    split
    · exact ⟨by assumption, h⟩
    · have ih := asc_ins p (r :: l) h.2
      unfold ins at ih ⊢
      split
      · rename_i h1 h2; rw [if_pos h2] at ih; exact ⟨by omega, ih⟩
      · rename_i h1 h2; rw [if_neg h2] at ih; exact ⟨h.1, ih⟩
theorem asc_srt : ∀ l, Asc (srt l)
  | [] => trivial
  | p :: l => asc_ins p _ (asc_srt l)
theorem inP_mem {P Q : List Pc} (h : ∀ q, q ∈ P ↔ q ∈ Q) (p : Int) : inP P p ↔ inP Q p := by
  unfold inP; simp only [h]
theorem inP_srt (l : List Pc) (p : Int) : inP (srt l) p ↔ inP l p := inP_mem (fun q => mem_srt q l) p
theorem inP_raw (l : List Pc) (p : Int) : inP (raw l) p ↔ inR l p := by
  unfold raw inR inP
  constructor
  · rintro ⟨q, hq, h⟩; exact ⟨q, (List.mem_filter.1 hq).1, h⟩
  · rintro ⟨q, hq, h⟩; exact ⟨q, List.mem_filter.2 ⟨hq, by simp; omega⟩, h⟩

theorem mrg_nf : ∀ (l : List Pc) (c : Pc) (b : Int), b < c.1 → c.1 < c.2 → Asc (c :: l) → (∀ q ∈ l, q.1 < q.2) → Nf b (mrg c l)
  | [], c, b, h1, h2, _, _ => ⟨h1, h2, trivial⟩
  | p :: l, c, b, h1, h2, h3, h4 => by
    unfold mrg
    split
    · refine mrg_nf l (c.1, max c.2 p.2) b h1 (by simp; omega) ?_ (fun q hq => h4 q (by simp [hq]))
      cases l with
      | nil => trivial
      | cons q l => exact ⟨by have := h3.1; have := h3.2.1; simp; omega, h3.2.2⟩
    · exact ⟨h1, h2, mrg_nf l p c.2 (by omega) (h4 p (by simp)) h3.2 (fun q hq => h4 q (by simp [hq]))⟩
theorem mrg_in : ∀ (l : List Pc) (c : Pc) (p : Int), c.1 ≤ c.2 → Asc (c :: l) → (∀ q ∈ l, q.1 ≤ q.2) → (inP (mrg c l) p ↔ inP (c :: l) p)
  | [], c, p, _, _, _ => Iff.rfl
  | q :: l, c, p, h0, h1, h2 => by
    have hq := h2 q (by simp)
    have hcq := h1.1
    unfold mrg
    split
    · rename_i hle
      rw [mrg_in l _ p (by simp; omega) (by cases l with | nil => trivial | cons r l => exact ⟨by have := h1.1; have := h1.2.1; simp; omega, h1.2.2⟩) (fun r hr => h2 r (by simp [hr]))]
      simp only [inP_cons]
      have : (c.1 ≤ p ∧ p < max c.2 q.2) ↔ ((c.1 ≤ p ∧ p < c.2) ∨ (q.1 ≤ p ∧ p < q.2)) := by omega
      rw [this, or_assoc]
    · rw [inP_cons, mrg_in l q p hq h1.2 (fun r hr => h2 r (by simp [hr])), inP_cons c]
theorem mrg_bd : ∀ (l : List Pc) (c : Pc), c.2 ≤ 1112064 → Bd l → Bd (mrg c l)
  | [], c, h, _ => by simpa [mrg, Bd] using h
  | q :: l, c, h, hb => by
    have hq := hb q (by simp)
    unfold mrg
    split
    · exact mrg_bd l _ (by simp; omega) (fun r hr => hb r (by simp [hr]))
    · intro r hr
      rcases List.mem_cons.1 hr with rfl | hr
      · exact h
      · exact mrg_bd l q hq (fun r hr => hb r (by simp [hr])) r hr
theorem raw_mem {l : List Pc} {q : Pc} (h : q ∈ raw l) : 0 ≤ q.1 ∧ q.1 < q.2 ∧ q.2 ≤ 1112064 := by
  obtain ⟨h1, h2⟩ := List.mem_filter.1 h
  obtain ⟨x, _, rfl⟩ := List.mem_map.1 h1
  have := pcOf_range x
  simp at h2; omega
theorem merge_nf {l : List Pc} (h : Asc l) (h2 : ∀ q ∈ l, 0 ≤ q.1 ∧ q.1 < q.2 ∧ q.2 ≤ 1112064) : Nf (-1) (merge l) ∧ Bd (merge l) ∧ ∀ p, inP (merge l) p ↔ inP l p := by
  cases l with
  | nil => exact ⟨trivial, by simp [merge, Bd], fun _ => Iff.rfl⟩
  | cons c l =>
    have hc := h2 c (by simp)
    exact ⟨mrg_nf l c (-1) (by omega) hc.2.1 h (fun q hq => (h2 q (by simp [hq])).2.1), mrg_bd l c hc.2.2 (fun q hq => (h2 q (by simp [hq])).2.2), fun p => mrg_in l c p (by omega) h (fun q hq => by have := (h2 q (by simp [hq])).2.1; omega)⟩
theorem pcs_all (l : List Pc) : Nf (-1) (pcs l) ∧ Bd (pcs l) ∧ ∀ p, inP (pcs l) p ↔ inR l p := by
  obtain ⟨h1, h2, h3⟩ := merge_nf (asc_srt (raw l)) (fun q hq => raw_mem ((mem_srt q _).1 hq))
  exact ⟨h1, h2, fun p => by unfold pcs; rw [h3, inP_srt, inP_raw]⟩
theorem pcs_nf (l : List Pc) : Nf (-1) (pcs l) := (pcs_all l).1
theorem pcs_bd (l : List Pc) : Bd (pcs l) := (pcs_all l).2.1
theorem pcs_in (l : List Pc) (p : Int) : inP (pcs l) p ↔ inR l p := (pcs_all l).2.2 p
theorem Nf.pos : ∀ {b : Int} {P : List Pc}, Nf b P → ∀ q ∈ P, b < q.1 ∧ q.1 < q.2
  | b, [], _, q, hq => by simp at hq
  | b, r :: P, h, q, hq => by
    rcases List.mem_cons.1 hq with rfl | hq
    · exact ⟨h.1, h.2.1⟩
    · have := Nf.pos h.2.2 q hq; have := h.1; have := h.2.1; omega
theorem inP_range {b : Int} {P : List Pc} (h : Nf b P) (hb : -1 ≤ b) (h2 : Bd P) {p : Int} (hp : inP P p) : 0 ≤ p ∧ p < 1112064 := by
  obtain ⟨q, hq, h3⟩ := hp
  have := h.pos q hq; have := h2 q hq; omega
theorem inR_range {l : List Pc} {p : Int} (h : inR l p) : 0 ≤ p ∧ p < 1112064 := inP_range (pcs_nf l) (by omega) (pcs_bd l) ((pcs_in l p).2 h)
/-- any normal pieces with the right places are the normal form -/
theorem pcs_uniq {l P : List Pc} (h : Nf (-1) P) (h2 : ∀ p, inP P p ↔ inR l p) : P = pcs l := h.uniq (pcs_nf l) fun p => by rw [h2, pcs_in]

theorem map_pcOf_rngs {P : List Pc} {b : Int} (h : Nf b P) (hb : -1 ≤ b) (h2 : Bd P) : (rngs P).map pcOf = P := by
  unfold rngs
  rw [List.map_map]
  conv => rhs; rw [← List.map_id P]
  apply List.map_congr_left
  intro q hq
  have h1 := h.pos q hq
  have h3 := h2 q hq
  simp only [Function.comp, id]
  rw [pcOf_vlu (by omega) h1.2 h3]
theorem inR_rngs {P : List Pc} (h : Nf (-1) P) (h2 : Bd P) (p : Int) : inR (rngs P) p ↔ inP P p := by
  unfold inR; rw [map_pcOf_rngs h (by omega) h2]
theorem pcs_rngs {P : List Pc} (h : Nf (-1) P) (h2 : Bd P) : pcs (rngs P) = P := (pcs_uniq h fun p => (inR_rngs h h2 p).symm).symm
theorem inR_nrm (l : List Pc) (p : Int) : inR (nrm l) p ↔ inR l p := by unfold nrm; rw [inR_rngs (pcs_nf l) (pcs_bd l), pcs_in]
theorem inR_has (l : List Pc) {p : Int} (h : 0 ≤ p) (h2 : p < 1112064) : inR l p ↔ has l (vlu p) = true := by
  unfold inR inP has
  rw [scal_vlu h h2]
  simp only [Bool.true_and, List.any_eq_true, Bool.and_eq_true, decide_eq_true_eq, List.mem_map]
  constructor
  · rintro ⟨q, ⟨x, hx, rfl⟩, h3⟩; exact ⟨x, hx, (pcOf_in x h h2).1 h3⟩
  · rintro ⟨x, hx, h3⟩; exact ⟨_, ⟨x, hx, rfl⟩, (pcOf_in x h h2).2 h3⟩
theorem has_inR (l : List Pc) {r : Int} (h : scal r = true) : has l r = true ↔ inR l (plc r) := by
  have h1 := plc_range r
  have h2 := plc_scal h
  rw [inR_has l h1.1 h2, vlu_plc h]
/-- a normal list of ranges: one that is its own normal form -/
def Norm (l : List Pc) : Prop := l = nrm l
theorem nrm_norm (l : List Pc) : nrm (nrm l) = nrm l := by unfold nrm; rw [pcs_rngs (pcs_nf l) (pcs_bd l)]
/-- two in normal form that have the same are the same -/
theorem norm_ext {a b : List Pc} (ha : nrm a = a) (hb : nrm b = b) (h : ∀ p, inR a p ↔ inR b p) : a = b := by
  rw [← ha, ← hb]; unfold nrm; rw [(pcs_nf a).uniq (pcs_nf b) fun p => by rw [pcs_in, pcs_in, h]]
end Go.Proofs.YtmgfpcblbbpahaaGreat.Ru
