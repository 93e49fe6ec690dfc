/- Sets of runes: what the loops do, step by step. No Go in sight. -/
set_option linter.unusedVariables false
set_option linter.unusedSimpArgs false
namespace Go.Proofs.YtmgfpcblbbpahaaGreat.Ru

abbrev Pc := Int × Int
def scal (r : Int) : Bool := decide (0 ≤ r) && (decide (r ≤ 1114111) && (decide (r < 55296) || decide (57344 ≤ r)))
def plc (n : Int) : Int := if n < 0 then 0 else if n < 55296 then n else if n < 57344 then 55296 else if n ≤ 1114111 then n - 2048 else 1112064
def vlu (p : Int) : Int := if p < 55296 then p else p + 2048
def pcOf (x : Pc) : Pc := (plc x.1, if scal x.2 = true then plc x.2 + 1 else plc x.2)

theorem scal_iff (r : Int) : scal r = true ↔ 0 ≤ r ∧ r ≤ 1114111 ∧ (r < 55296 ∨ 57344 ≤ r) := by simp [scal]
theorem scal_not (r : Int) : scal r = false ↔ ¬ (0 ≤ r ∧ r ≤ 1114111 ∧ (r < 55296 ∨ 57344 ≤ r)) := by rw [← scal_iff]; simp
theorem plc_range (n : Int) : 0 ≤ plc n ∧ plc n ≤ 1112064 := by unfold plc; repeat' split <;> omega
theorem plc_scal {r : Int} (h : scal r = true) : plc r < 1112064 := by rw [scal_iff] at h; unfold plc; repeat' split <;> omega
theorem plc_vlu {p : Int} (h : 0 ≤ p) (h2 : p < 1112064) : plc (vlu p) = p := by unfold vlu; split <;> (unfold plc; repeat' split <;> omega)
theorem vlu_plc {r : Int} (h : scal r = true) : vlu (plc r) = r := by rw [scal_iff] at h; unfold vlu plc; repeat' split <;> omega
theorem scal_vlu {p : Int} (h : 0 ≤ p) (h2 : p < 1112064) : scal (vlu p) = true := by rw [scal_iff]; unfold vlu; split <;> omega
theorem vlu_mono {p q : Int} : p ≤ q ↔ vlu p ≤ vlu q := by unfold vlu; split <;> split <;> omega
theorem vlu_range {p : Int} (h : 0 ≤ p) (h2 : p < 1112064) : 0 ≤ vlu p ∧ vlu p ≤ 1114111 := by unfold vlu; split <;> omega

theorem pcOf_range (x : Pc) : 0 ≤ (pcOf x).1 ∧ (pcOf x).1 ≤ 1112064 ∧ 0 ≤ (pcOf x).2 ∧ (pcOf x).2 ≤ 1112064 := by
  have h1 := plc_range x.1; have h2 := plc_range x.2
  unfold pcOf
  by_cases h : scal x.2 = true
  · have := plc_scal h; simp only [h, if_true]; omega
  · simp only [h, if_false]; simp; omega
theorem pcOf_vlu {a b : Int} (h0 : 0 ≤ a) (h1 : a < b) (h2 : b ≤ 1112064) : pcOf (vlu a, vlu (b - 1)) = (a, b) := by
  unfold pcOf
  rw [if_pos (scal_vlu (by omega) (by omega))]
  have e1 := plc_vlu h0 (show a < 1112064 by omega)
  have e2 := plc_vlu (show 0 ≤ b - 1 by omega) (show b - 1 < 1112064 by omega)
  exact Prod.ext e1 (by show plc (vlu (b - 1)) + 1 = b; omega)

def inP (P : List Pc) (p : Int) : Prop := ∃ q ∈ P, q.1 ≤ p ∧ p < q.2
def Nf : Int → List Pc → Prop
  | _, [] => True
  | b, q :: P => b < q.1 ∧ q.1 < q.2 ∧ Nf q.2 P
def Bd (P : List Pc) : Prop := ∀ q ∈ P, q.2 ≤ 1112064

theorem inP_nil (p : Int) : ¬ inP [] p := by simp [inP]
theorem inP_cons (q : Pc) (P : List Pc) (p : Int) : inP (q :: P) p ↔ (q.1 ≤ p ∧ p < q.2) ∨ inP P p := by simp [inP]
theorem inP_append (P Q : List Pc) (p : Int) : inP (P ++ Q) p ↔ inP P p ∨ inP Q p := by
  simp only [inP, List.mem_append]
  constructor
  · rintro ⟨q, h | h, h2⟩
    · exact .inl ⟨q, h, h2⟩
    · exact .inr ⟨q, h, h2⟩
  · rintro (⟨q, h, h2⟩ | ⟨q, h, h2⟩)
    · exact ⟨q, .inl h, h2⟩
    · exact ⟨q, .inr h, h2⟩
theorem Nf.above : ∀ {b : Int} {P : List Pc} (h : Nf b P) {p : Int}, inP P p → b < p
  | b, [], _, p, hp => absurd hp (inP_nil p)
  | b, q :: P, h, p, hp => by
    rcases (inP_cons q P p).1 hp with hp | hp
    · have := h.1; omega
    · have := Nf.above h.2.2 hp; have := h.1; have := h.2.1; omega
theorem Nf.uniq : ∀ {a b : Int} {P Q : List Pc}, Nf a P → Nf b Q → (∀ p, inP P p ↔ inP Q p) → P = Q
  | _, _, [], [], _, _, _ => rfl
  | _, _, [], q :: Q, _, hQ, h => absurd ((h q.1).2 ((inP_cons q Q _).2 (.inl ⟨Int.le_refl _, hQ.2.1⟩))) (inP_nil _)
  | _, _, q :: P, [], hP, _, h => absurd ((h q.1).1 ((inP_cons q P _).2 (.inl ⟨Int.le_refl _, hP.2.1⟩))) (inP_nil _)
  | _, _, q :: P, r :: Q, hP, hQ, h => by
    obtain ⟨_, hq, hP'⟩ := hP
    obtain ⟨_, hr, hQ'⟩ := hQ
    have k1 : r.1 ≤ q.1 := by
      rcases (inP_cons r Q _).1 ((h q.1).1 ((inP_cons q P _).2 (.inl ⟨Int.le_refl _, hq⟩))) with k | k
      · exact k.1
      · have := hQ'.above k; omega
    have k2 : q.1 ≤ r.1 := by
      rcases (inP_cons q P _).1 ((h r.1).2 ((inP_cons r Q _).2 (.inl ⟨Int.le_refl _, hr⟩))) with k | k
      · exact k.1
      · have := hP'.above k; omega
    have k3 : r.2 ≤ q.2 := by
      apply Int.not_lt.1; intro hlt
      rcases (inP_cons q P _).1 ((h q.2).2 ((inP_cons r Q _).2 (.inl ⟨by omega, hlt⟩))) with k | k
      · omega
      · have := hP'.above k; omega
    have k4 : q.2 ≤ r.2 := by
      apply Int.not_lt.1; intro hlt
      rcases (inP_cons r Q _).1 ((h r.2).1 ((inP_cons q P _).2 (.inl ⟨by omega, hlt⟩))) with k | k
      · omega
      · have := hQ'.above k; omega
    obtain ⟨q1, q2⟩ := q
    obtain ⟨r1, r2⟩ := r
    simp only at *
    obtain rfl : q1 = r1 := by omega
    obtain rfl : q2 = r2 := by omega
    have e : P = Q := Nf.uniq hP' hQ' (by
      intro p
      constructor
      · intro hp
        rcases (inP_cons _ Q _).1 ((h p).1 ((inP_cons _ P _).2 (.inr hp))) with k | k
        · have := hP'.above hp; simp at k; omega
        · exact k
      · intro hp
        rcases (inP_cons _ P _).1 ((h p).2 ((inP_cons _ Q _).2 (.inr hp))) with k | k
        · have := hQ'.above hp; simp at k; omega
        · exact k)
    rw [e]

def ins (p : Pc) : List Pc → List Pc
  | [] => [p]
  | q :: l => if p.1 ≤ q.1 then p :: q :: l else q :: ins p l
def srt : List Pc → List Pc
  | [] => []
  | p :: l => ins p (srt l)
def mrg : Pc → List Pc → List Pc
  | c, [] => [c]
  | c, p :: l => if p.1 ≤ c.2 then mrg (c.1, max c.2 p.2) l else c :: mrg p l
def merge : List Pc → List Pc
  | [] => []
  | p :: l => mrg p l
def raw (l : List Pc) : List Pc := (l.map pcOf).filter fun p => decide (p.1 < p.2)
def pcs (l : List Pc) : List Pc := merge (srt (raw l))
def rngs (P : List Pc) : List Pc := P.map fun p => (vlu p.1, vlu (p.2 - 1))
def cnt : List Pc → Int
  | [] => 0
  | p :: P => p.2 - p.1 + cnt P
def nrm (l : List Pc) : List Pc := rngs (pcs l)
def has (l : List Pc) (r : Int) : Bool := scal r && l.any fun x => decide (x.1 ≤ r) && decide (r ≤ x.2)
def inR (l : List Pc) (p : Int) : Prop := inP (l.map pcOf) p

theorem mem_ins (p q : Pc) : ∀ l, q ∈ ins p l ↔ q = p ∨ q ∈ l
  | [] => by simp [ins]
  | r :: l => by
    unfold ins
    split
    · simp
    · simp only [List.mem_cons, mem_ins p q l]
      constructor
      · rintro (h | h | h) <;> simp [h]
      · rintro (h | h | h) <;> simp [h]
theorem mem_srt (q : Pc) : ∀ l, q ∈ srt l ↔ q ∈ l
  | [] => by simp [srt]
  | p :: l => by simp [srt, mem_ins, mem_srt q l]
def Asc : List Pc → Prop
  | [] => True
  | [_] => True
  | p :: q :: l => p.1 ≤ q.1 ∧ Asc (q :: l)
theorem asc_ins (p : Pc) : ∀ l, Asc l → Asc (ins p l)
  | [], _ => trivial
  | [q], _ => by
    unfold ins
    split
    · exact ⟨by assumption, trivial⟩
    · exact ⟨by omega, trivial⟩
  | q :: r :: l, h => by
    unfold ins
    split
    · exact ⟨by assumption, h⟩
    · have ih := asc_ins p (r :: l) h.2
      unfold ins at ih ⊢
      split
      · rename_i h1 h2; rw [if_pos h2] at ih; exact ⟨by omega, ih⟩
      · rename_i h1 h2; rw [if_neg h2] at ih; exact ⟨h.1, ih⟩
theorem asc_srt : ∀ l, Asc (srt l)
  | [] => trivial
  | p :: l => asc_ins p _ (asc_srt l)
theorem inP_mem {P Q : List Pc} (h : ∀ q, q ∈ P ↔ q ∈ Q) (p : Int) : inP P p ↔ inP Q p := by
  unfold inP; simp only [h]
theorem inP_srt (l : List Pc) (p : Int) : inP (srt l) p ↔ inP l p := inP_mem (fun q => mem_srt q l) p
theorem inP_raw (l : List Pc) (p : Int) : inP (raw l) p ↔ inR l p := by
  unfold raw inR inP
  constructor
  · rintro ⟨q, hq, h⟩; exact ⟨q, (List.mem_filter.1 hq).1, h⟩
  · rintro ⟨q, hq, h⟩; exact ⟨q, List.mem_filter.2 ⟨hq, by simp; omega⟩, h⟩

theorem mrg_nf : ∀ (l : List Pc) (c : Pc) (b : Int), b < c.1 → c.1 < c.2 → Asc (c :: l) → (∀ q ∈ l, q.1 < q.2) → Nf b (mrg c l)
  | [], c, b, h1, h2, _, _ => ⟨h1, h2, trivial⟩
  | p :: l, c, b, h1, h2, h3, h4 => by
    unfold mrg
    split
    · refine mrg_nf l (c.1, max c.2 p.2) b h1 (by simp; omega) ?_ (fun q hq => h4 q (by simp [hq]))
      cases l with
      | nil => trivial
      | cons q l => exact ⟨by have := h3.1; have := h3.2.1; simp; omega, h3.2.2⟩
    · exact ⟨h1, h2, mrg_nf l p c.2 (by omega) (h4 p (by simp)) h3.2 (fun q hq => h4 q (by simp [hq]))⟩
theorem mrg_in : ∀ (l : List Pc) (c : Pc) (p : Int), c.1 ≤ c.2 → Asc (c :: l) → (∀ q ∈ l, q.1 ≤ q.2) → (inP (mrg c l) p ↔ inP (c :: l) p)
  | [], c, p, _, _, _ => Iff.rfl
  | q :: l, c, p, h0, h1, h2 => by
    have hq := h2 q (by simp)
    have hcq := h1.1
    unfold mrg
    split
    · rename_i hle
      rw [mrg_in l _ p (by simp; omega) (by cases l with | nil => trivial | cons r l => exact ⟨by have := h1.1; have := h1.2.1; simp; omega, h1.2.2⟩) (fun r hr => h2 r (by simp [hr]))]
      simp only [inP_cons]
      have : (c.1 ≤ p ∧ p < max c.2 q.2) ↔ ((c.1 ≤ p ∧ p < c.2) ∨ (q.1 ≤ p ∧ p < q.2)) := by omega
      rw [this, or_assoc]
    · rw [inP_cons, mrg_in l q p hq h1.2 (fun r hr => h2 r (by simp [hr])), inP_cons c]
theorem mrg_bd : ∀ (l : List Pc) (c : Pc), c.2 ≤ 1112064 → Bd l → Bd (mrg c l)
  | [], c, h, _ => by simpa [mrg, Bd] using h
  | q :: l, c, h, hb => by
    have hq := hb q (by simp)
    unfold mrg
    split
    · exact mrg_bd l _ (by simp; omega) (fun r hr => hb r (by simp [hr]))
    · intro r hr
      rcases List.mem_cons.1 hr with rfl | hr
      · exact h
      · exact mrg_bd l q hq (fun r hr => hb r (by simp [hr])) r hr
theorem raw_mem {l : List Pc} {q : Pc} (h : q ∈ raw l) : 0 ≤ q.1 ∧ q.1 < q.2 ∧ q.2 ≤ 1112064 := by
  obtain ⟨h1, h2⟩ := List.mem_filter.1 h
  obtain ⟨x, _, rfl⟩ := List.mem_map.1 h1
  have := pcOf_range x
  simp at h2; omega
theorem merge_nf {l : List Pc} (h : Asc l) (h2 : ∀ q ∈ l, 0 ≤ q.1 ∧ q.1 < q.2 ∧ q.2 ≤ 1112064) : Nf (-1) (merge l) ∧ Bd (merge l) ∧ ∀ p, inP (merge l) p ↔ inP l p := by
  cases l with
  | nil => exact ⟨trivial, by simp [merge, Bd], fun _ => Iff.rfl⟩
  | cons c l =>
    have hc := h2 c (by simp)
    exact ⟨mrg_nf l c (-1) (by omega) hc.2.1 h (fun q hq => (h2 q (by simp [hq])).2.1), mrg_bd l c hc.2.2 (fun q hq => (h2 q (by simp [hq])).2.2), fun p => mrg_in l c p (by omega) h (fun q hq => by have := (h2 q (by simp [hq])).2.1; omega)⟩
theorem pcs_all (l : List Pc) : Nf (-1) (pcs l) ∧ Bd (pcs l) ∧ ∀ p, inP (pcs l) p ↔ inR l p := by
  obtain ⟨h1, h2, h3⟩ := merge_nf (asc_srt (raw l)) (fun q hq => raw_mem ((mem_srt q _).1 hq))
  exact ⟨h1, h2, fun p => by unfold pcs; rw [h3, inP_srt, inP_raw]⟩
theorem pcs_nf (l : List Pc) : Nf (-1) (pcs l) := (pcs_all l).1
theorem pcs_bd (l : List Pc) : Bd (pcs l) := (pcs_all l).2.1
theorem pcs_in (l : List Pc) (p : Int) : inP (pcs l) p ↔ inR l p := (pcs_all l).2.2 p
theorem Nf.pos : ∀ {b : Int} {P : List Pc}, Nf b P → ∀ q ∈ P, b < q.1 ∧ q.1 < q.2
  | b, [], _, q, hq => by simp at hq
  | b, r :: P, h, q, hq => by
    rcases List.mem_cons.1 hq with rfl | hq
    · exact ⟨h.1, h.2.1⟩
    · have := Nf.pos h.2.2 q hq; have := h.1; have := h.2.1; omega
theorem inP_range {b : Int} {P : List Pc} (h : Nf b P) (hb : -1 ≤ b) (h2 : Bd P) {p : Int} (hp : inP P p) : 0 ≤ p ∧ p < 1112064 := by
  obtain ⟨q, hq, h3⟩ := hp
  have := h.pos q hq; have := h2 q hq; omega
theorem inR_range {l : List Pc} {p : Int} (h : inR l p) : 0 ≤ p ∧ p < 1112064 := inP_range (pcs_nf l) (by omega) (pcs_bd l) ((pcs_in l p).2 h)
theorem pcs_uniq {l P : List Pc} (h : Nf (-1) P) (h2 : ∀ p, inP P p ↔ inR l p) : P = pcs l := h.uniq (pcs_nf l) fun p => by rw [h2, pcs_in]

theorem map_pcOf_rngs {P : List Pc} {b : Int} (h : Nf b P) (hb : -1 ≤ b) (h2 : Bd P) : (rngs P).map pcOf = P := by
  unfold rngs
  rw [List.map_map]
  conv => rhs; rw [← List.map_id P]
  apply List.map_congr_left
  intro q hq
  have h1 := h.pos q hq
  have h3 := h2 q hq
  simp only [Function.comp, id]
  rw [pcOf_vlu (by omega) h1.2 h3]
theorem inR_rngs {P : List Pc} (h : Nf (-1) P) (h2 : Bd P) (p : Int) : inR (rngs P) p ↔ inP P p := by
  unfold inR; rw [map_pcOf_rngs h (by omega) h2]
theorem pcs_rngs {P : List Pc} (h : Nf (-1) P) (h2 : Bd P) : pcs (rngs P) = P := (pcs_uniq h fun p => (inR_rngs h h2 p).symm).symm
theorem inR_nrm (l : List Pc) (p : Int) : inR (nrm l) p ↔ inR l p := by unfold nrm; rw [inR_rngs (pcs_nf l) (pcs_bd l), pcs_in]
def Norm (l : List Pc) : Prop := l = nrm l
theorem nrm_norm (l : List Pc) : nrm (nrm l) = nrm l := by unfold nrm; rw [pcs_rngs (pcs_nf l) (pcs_bd l)]
theorem norm_ext {a b : List Pc} (ha : nrm a = a) (hb : nrm b = b) (h : ∀ p, inR a p ↔ inR b p) : a = b := by
  rw [← ha, ← hb]; unfold nrm; rw [(pcs_nf a).uniq (pcs_nf b) fun p => by rw [pcs_in, pcs_in, h]]
end Go.Proofs.YtmgfpcblbbpahaaGreat.Ru

namespace Go.Proofs.YtmgfpcblbbpahaaGreat.Ru

def inB (P : List Pc) (p : Int) : Bool := P.any fun q => decide (q.1 ≤ p) && decide (p < q.2)
theorem inB_iff (P : List Pc) (p : Int) : inB P p = true ↔ inP P p := by simp [inB, inP]
theorem inB_cons (q : Pc) (P : List Pc) (p : Int) : inB (q :: P) p = ((decide (q.1 ≤ p) && decide (p < q.2)) || inB P p) := by simp [inB]
def okR (x : Pc) : Bool := decide (x.1 ≤ x.2) && (scal x.1 && scal x.2)
def mayB (l : List Pc) : Bool := (List.range l.length).all fun i => okR (l.getD i (0, 0)) && (decide (i = 0) || decide (plc (l.getD (i - 1) (0, 0)).2 + 1 < plc (l.getD i (0, 0)).1))
theorem mayB_iff (l : List Pc) : mayB l = true ↔ ∀ i, i < l.length → okR (l.getD i (0, 0)) = true ∧ (0 < i → plc (l.getD (i - 1) (0, 0)).2 + 1 < plc (l.getD i (0, 0)).1) := by
  unfold mayB
  simp only [List.all_eq_true, List.mem_range, Bool.and_eq_true, Bool.or_eq_true, decide_eq_true_eq]
  constructor
  · intro h i hi; refine ⟨(h i hi).1, fun h0 => ?_⟩
    rcases (h i hi).2 with h2 | h2
    · omega
    · exact h2
  · intro h i hi; refine ⟨(h i hi).1, ?_⟩
    by_cases h0 : i = 0
    · exact .inl h0
    · exact .inr ((h i hi).2 (by omega))
def Mr : Int → List Pc → Prop
  | _, [] => True
  | b, x :: l => okR x = true ∧ b < plc x.1 ∧ Mr (plc x.2 + 1) l
theorem mr_of : ∀ (l : List Pc) (b : Int), (∀ i, i < l.length → okR (l.getD i (0, 0)) = true ∧ (0 < i → plc (l.getD (i - 1) (0, 0)).2 + 1 < plc (l.getD i (0, 0)).1)) → (∀ x, l.head? = some x → b < plc x.1) → Mr b l
  | [], _, _, _ => trivial
  | x :: l, b, h, hb => by
    refine ⟨(h 0 (by simp)).1, hb x rfl, mr_of l _ (fun i hi => ?_) (fun y hy => ?_)⟩
    · have := h (i + 1) (by simp; omega)
      refine ⟨by simpa using this.1, fun h0 => ?_⟩
      have h2 := this.2 (by omega)
      obtain ⟨j, rfl⟩ : ∃ j, i = j + 1 := ⟨i - 1, by omega⟩
      simpa using h2
    · cases l with
      | nil => simp at hy
      | cons z l =>
        simp at hy; subst hy
        have := (h 1 (by simp)).2 (by omega)
        simpa using this
theorem of_mr : ∀ (l : List Pc) (b : Int), Mr b l → ∀ i, i < l.length → okR (l.getD i (0, 0)) = true ∧ (0 < i → plc (l.getD (i - 1) (0, 0)).2 + 1 < plc (l.getD i (0, 0)).1)
  | [], _, _, i, hi => by simp at hi
  | x :: l, b, h, 0, _ => ⟨by simpa using h.1, fun h => absurd h (by omega)⟩
  | x :: l, b, h, i + 1, hi => by
    have ih := of_mr l _ h.2.2 i (by simpa using hi)
    refine ⟨by simpa using ih.1, fun _ => ?_⟩
    cases i with
    | zero =>
      cases l with
      | nil => simp at hi
      | cons y l => simpa using h.2.2.2.1
    | succ j => simpa using ih.2 (by omega)
theorem okR_iff (x : Pc) : okR x = true ↔ x.1 ≤ x.2 ∧ scal x.1 = true ∧ scal x.2 = true := by simp [okR]
theorem plc_mono {a b : Int} (h : a ≤ b) : plc a ≤ plc b := by unfold plc; repeat' split <;> omega
theorem nf_mr : ∀ (l : List Pc) (b : Int), Mr b l → Nf b (l.map pcOf) ∧ Bd (l.map pcOf) ∧ rngs (l.map pcOf) = l
  | [], _, _ => ⟨trivial, by simp [Bd], rfl⟩
  | x :: l, b, h => by
    obtain ⟨h1, h2, h3⟩ := (okR_iff x).1 h.1
    obtain ⟨i1, i2, i3⟩ := nf_mr l _ h.2.2
    have e : pcOf x = (plc x.1, plc x.2 + 1) := by unfold pcOf; rw [if_pos h3]
    have hp := plc_scal h3
    have hm := plc_mono h1
    simp only [List.map_cons, e]
    refine ⟨⟨h.2.1, by omega, i1⟩, ?_, ?_⟩
    · intro q hq
      rcases List.mem_cons.1 hq with rfl | hq
      · simp; omega
      · exact i2 q hq
    · have i3' : rngs ((plc x.1, plc x.2 + 1) :: l.map pcOf) = (vlu (plc x.1), vlu (plc x.2 + 1 - 1)) :: rngs (l.map pcOf) := rfl
      rw [i3', i3, vlu_plc h2, show plc x.2 + 1 - 1 = plc x.2 by omega, vlu_plc h3]
theorem mr_nf : ∀ (P : List Pc) (b : Int), -1 ≤ b → Nf b P → Bd P → Mr b (rngs P)
  | [], _, _, _, _ => trivial
  | q :: P, b, hb, h, h2 => by
    have hq := h2 q (by simp)
    have h1 := h.1
    have h3 := h.2.1
    have ih := mr_nf P q.2 (by omega) h.2.2 (fun r hr => h2 r (by simp [hr]))
    refine ⟨(okR_iff _).2 ⟨vlu_mono.1 (by omega), scal_vlu (by omega) (by omega), scal_vlu (by omega) (by omega)⟩, ?_, ?_⟩
    · show b < plc (vlu q.1); rw [plc_vlu (by omega) (by omega)]; exact h1
    · show Mr (plc (vlu (q.2 - 1)) + 1) (rngs P)
      rw [plc_vlu (by omega) (by omega), show q.2 - 1 + 1 = q.2 by omega]; exact ih
theorem may_nrm (l : List Pc) : mayB l = true ↔ l = nrm l := by
  rw [mayB_iff]
  constructor
  · intro h
    have hm := mr_of l (-1) h (fun x _ => by have := plc_range x.1; omega)
    obtain ⟨h1, h2, h3⟩ := nf_mr l _ hm
    have : l.map pcOf = pcs l := pcs_uniq h1 fun p => Iff.rfl
    unfold nrm; rw [← this, h3]
  · intro h
    rw [h]
    exact of_mr _ (-1) (mr_nf _ _ (by omega) (pcs_nf l) (pcs_bd l))
theorem may_eq (l : List Pc) : mayB l = decide (l = nrm l) := by rw [Bool.eq_iff_iff, may_nrm]; simp
end Go.Proofs.YtmgfpcblbbpahaaGreat.Ru

namespace Go.Proofs.YtmgfpcblbbpahaaGreat.Ru

def Ris : Int → List Int → Prop
  | _, [] => True
  | b, x :: l => b < x ∧ Ris x l
theorem Ris.above : ∀ {b : Int} {l : List Int}, Ris b l → ∀ x ∈ l, b < x
  | b, [], _, x, hx => by simp at hx
  | b, y :: l, h, x, hx => by
    rcases List.mem_cons.1 hx with rfl | hx
    · exact h.1
    · have := Ris.above h.2 x hx; have := h.1; omega
theorem Ris.uniq : ∀ {a b : Int} {l m : List Int}, Ris a l → Ris b m → (∀ x, x ∈ l ↔ x ∈ m) → l = m
  | _, _, [], [], _, _, _ => rfl
  | _, _, [], y :: m, _, _, h => by have := (h y).2 (by simp); simp at this
  | _, _, x :: l, [], _, _, h => by have := (h x).1 (by simp); simp at this
  | _, _, x :: l, y :: m, hl, hm, h => by
    have k1 : y ≤ x := by
      rcases List.mem_cons.1 ((h x).1 (by simp)) with k | k
      · omega
      · have := hm.2.above x k; omega
    have k2 : x ≤ y := by
      rcases List.mem_cons.1 ((h y).2 (by simp)) with k | k
      · omega
      · have := hl.2.above y k; omega
    obtain rfl : x = y := by omega
    rw [Ris.uniq hl.2 hm.2 (by
      intro z
      constructor
      · intro hz
        rcases List.mem_cons.1 ((h z).1 (by simp [hz])) with k | k
        · have := hl.2.above z hz; omega
        · exact k
      · intro hz
        rcases List.mem_cons.1 ((h z).2 (by simp [hz])) with k | k
        · have := hm.2.above z hz; omega
        · exact k)]
def insD (x : Int) : List Int → List Int
  | [] => [x]
  | y :: l => if x < y then x :: y :: l else if x = y then y :: l else y :: insD x l
def srtD (l : List Int) : List Int := l.foldl (fun s x => insD x s) []
theorem mem_insD (x z : Int) : ∀ l, z ∈ insD x l ↔ z = x ∨ z ∈ l
  | [] => by simp [insD]
  | y :: l => by
    unfold insD
    split
    · simp
    · split
      · rename_i h; subst h; simp
      · simp only [List.mem_cons, mem_insD x z l]
        constructor
        · rintro (h | h | h) <;> simp [h]
        · rintro (h | h | h) <;> simp [h]
theorem ris_insD (x : Int) : ∀ (l : List Int) (b : Int), b < x → Ris b l → Ris b (insD x l)
  | [], b, h, _ => ⟨h, trivial⟩
  | y :: l, b, h, hl => by
    unfold insD
    split
    · exact ⟨h, by assumption, hl.2⟩
    · split
      · exact hl
      · exact ⟨hl.1, ris_insD x l y (by omega) hl.2⟩
theorem srtD_all : ∀ (l s : List Int) (b : Int), Ris b s → (∀ x ∈ l, b < x) → Ris b (l.foldl (fun s x => insD x s) s) ∧ ∀ z, z ∈ l.foldl (fun s x => insD x s) s ↔ z ∈ l ∨ z ∈ s
  | [], s, b, h, _ => ⟨h, by simp⟩
  | x :: l, s, b, h, h2 => by
    obtain ⟨h3, h4⟩ := srtD_all l (insD x s) b (ris_insD x s b (h2 x (by simp)) h) (fun y hy => h2 y (by simp [hy]))
    refine ⟨h3, fun z => ?_⟩
    rw [List.foldl_cons, h4, mem_insD]
    simp only [List.mem_cons]
    constructor
    · rintro (h | h | h) <;> simp [h]
    · rintro ((h | h) | h) <;> simp [h]
theorem srtD_ris {l : List Int} {b : Int} (h : ∀ x ∈ l, b < x) : Ris b (srtD l) := (srtD_all l [] b trivial h).1
theorem mem_srtD {l : List Int} {b : Int} (h : ∀ x ∈ l, b < x) (z : Int) : z ∈ srtD l ↔ z ∈ l := by rw [show srtD l = l.foldl (fun s x => insD x s) [] from rfl, (srtD_all l [] b trivial h).2]; simp

def ends : List Pc → List Int
  | [] => []
  | q :: P => q.1 :: q.2 :: ends P
theorem mem_ends : ∀ (P : List Pc) (z : Int), z ∈ ends P ↔ ∃ q ∈ P, z = q.1 ∨ z = q.2
  | [], z => by simp [ends]
  | q :: P, z => by simp only [ends, List.mem_cons, mem_ends P z]; simp [or_assoc]
def gaps (P : List Pc) : List Int → List Pc
  | x :: y :: l => if x < y ∧ inB P x = true then (x, y) :: gaps P (y :: l) else gaps P (y :: l)
  | _ => []
def cutF (P : List Pc) : List Pc := gaps P (srtD (ends P))
def cutsF (ls : List (List Pc)) : List Pc := rngs (cutF (ls.flatMap pcs))

def AscI : List Int → Prop
  | x :: y :: l => x ≤ y ∧ AscI (y :: l)
  | _ => True
def dd : List Int → List Int
  | x :: y :: l => if x = y then dd (y :: l) else x :: dd (y :: l)
  | l => l
theorem gaps_dd (P : List Pc) : ∀ l, AscI l → gaps P (dd l) = gaps P l
  | [], _ => rfl
  | [x], _ => rfl
  | x :: y :: l, h => by
    have ih := gaps_dd P (y :: l) h.2
    unfold dd
    split
    · rename_i e; subst e
      rw [ih]; conv => rhs; unfold gaps
      rw [if_neg (by omega)]
    · have hd : ∃ t, dd (y :: l) = y :: t := by
        clear ih h
        induction l generalizing y with
        | nil => exact ⟨[], rfl⟩
        | cons z l ih2 =>
          rename_i hxy
          by_cases e : y = z
          · subst e
            obtain ⟨t, ht⟩ := ih2 y hxy
            exact ⟨t, by rw [dd, if_pos rfl, ht]⟩
          · exact ⟨_, by rw [dd, if_neg e]⟩
      obtain ⟨t, ht⟩ := hd
      rw [ht] at ih ⊢
      rw [gaps, gaps, ih]
theorem dd_ris : ∀ (l : List Int) (b : Int), AscI l → (∀ x, l.head? = some x → b < x) → Ris b (dd l)
  | [], _, _, _ => trivial
  | [x], b, _, h => ⟨h x rfl, trivial⟩
  | x :: y :: l, b, h, hb => by
    have hx := hb x rfl
    unfold dd
    split
    · rename_i e; subst e; exact dd_ris (x :: l) b h.2 (fun z hz => by simp at hz; omega)
    · exact ⟨hx, dd_ris (y :: l) x h.2 (fun z hz => by simp at hz; have := h.1; omega)⟩
theorem mem_dd : ∀ (l : List Int) (z : Int), z ∈ dd l ↔ z ∈ l
  | [], z => by simp [dd]
  | [x], z => by simp [dd]
  | x :: y :: l, z => by
    have ih := mem_dd (y :: l) z
    unfold dd
    split
    · rename_i e; subst e; rw [ih]; simp
    · rw [List.mem_cons, ih]; simp
theorem gaps_eq (P : List Pc) (l : List Int) (b : Int) (h : AscI l) (hb : ∀ x ∈ l, b < x) (hm : ∀ z, z ∈ l ↔ z ∈ ends P) : gaps P l = cutF P := by
  rw [← gaps_dd P l h]
  unfold cutF
  rw [(dd_ris l b h (fun x hx => hb x (by cases l with | nil => simp at hx | cons y l => simp at hx; simp [hx]))).uniq (srtD_ris (b := b) (fun x hx => hb x ((hm x).2 hx)))]
  intro z
  rw [mem_dd, hm, mem_srtD (b := b) (fun x hx => hb x ((hm x).2 hx))]
theorem gaps_snoc (P : List Pc) : ∀ (l : List Int) (x y : Int), gaps P (l ++ [x, y]) = gaps P (l ++ [x]) ++ if x < y ∧ inB P x = true then [(x, y)] else []
  | [], x, y => by simp [gaps]
  | [z], x, y => by
    simp only [List.cons_append, List.nil_append, gaps]
    by_cases h1 : z < x ∧ inB P z = true <;> by_cases h2 : x < y ∧ inB P x = true <;> simp [h1, h2]
  | z :: u :: l, x, y => by
    have ih := gaps_snoc P (u :: l) x y
    simp only [List.cons_append] at ih ⊢
    rw [gaps, gaps, ih]
    by_cases h1 : z < u ∧ inB P z = true <;> simp [h1]
theorem take_two {α} (l : List α) (d : α) (k : Nat) (h : k + 1 < l.length) : l.take (k + 2) = l.take k ++ [l.getD k d, l.getD (k + 1) d] := by
  have e1 : l.take (k + 2) = l.take (k + 1) ++ [l[k + 1]] := List.take_succ_eq_append_getElem h
  have e2 : l.take (k + 1) = l.take k ++ [l[k]] := List.take_succ_eq_append_getElem (by omega)
  have e3 : l.getD k d = l[k] := by simp [List.getD, List.getElem?_eq_getElem (show k < l.length by omega)]
  have e4 : l.getD (k + 1) d = l[k + 1] := by simp [List.getD, List.getElem?_eq_getElem h]
  rw [e1, e2, e3, e4, List.append_assoc]; rfl
theorem take_one {α} (l : List α) (d : α) (k : Nat) (h : k < l.length) : l.take (k + 1) = l.take k ++ [l.getD k d] := by
  rw [List.take_succ_eq_append_getElem h]
  simp [List.getD, List.getElem?_eq_getElem h]
theorem gaps_take (P : List Pc) (l : List Int) (k : Nat) (h : k + 1 < l.length) : gaps P (l.take (k + 2)) = gaps P (l.take (k + 1)) ++ if l.getD k 0 < l.getD (k + 1) 0 ∧ inB P (l.getD k 0) = true then [(l.getD k 0, l.getD (k + 1) 0)] else [] := by
  rw [take_two l 0 k h, take_one l 0 k (by omega), gaps_snoc]
theorem gaps_one (P : List Pc) (l : List Int) : gaps P (l.take 1) = [] := by
  cases l <;> simp [gaps]
theorem gaps_zero (P : List Pc) (l : List Int) : gaps P (l.take 0) = [] := by simp [gaps]

def bal : List Pc → Int → Int
  | [], _ => 0
  | e :: E, x => (if e.1 ≤ x then e.2 else 0) + bal E x
def sumB : List Pc → Int
  | [] => 0
  | e :: E => e.2 + sumB E
def edges : List Pc → List Pc
  | [] => []
  | q :: P => (q.1, 1) :: (q.2, -1) :: edges P
theorem bal_perm {E F : List Pc} (h : E.Perm F) (x : Int) : bal E x = bal F x := by
  induction h with
  | nil => rfl
  | cons e _ ih => simp only [bal]; omega
  | swap e f l => simp only [bal]; omega
  | trans _ _ h1 h2 => omega
theorem edges_fst : ∀ P : List Pc, (edges P).map Prod.fst = ends P
  | [] => rfl
  | q :: P => by simp [edges, ends, edges_fst P]
theorem bal_edges : ∀ (P : List Pc) (x : Int), (∀ q ∈ P, q.1 < q.2) → 0 ≤ bal (edges P) x ∧ (0 < bal (edges P) x ↔ inB P x = true)
  | [], x, _ => by simp [bal, edges, inB]
  | q :: P, x, h => by
    obtain ⟨h1, h2⟩ := bal_edges P x (fun r hr => h r (by simp [hr]))
    have hq := h q (by simp)
    rw [inB_cons]
    simp only [edges, bal, Bool.or_eq_true, ← h2, Bool.and_eq_true, decide_eq_true_eq]
    by_cases a : q.1 ≤ x <;> by_cases b : q.2 ≤ x <;> simp [a, b] <;> omega
theorem bal_none : ∀ (E : List Pc) (x : Int), (∀ e ∈ E, x < e.1) → bal E x = 0
  | [], _, _ => rfl
  | e :: E, x, h => by
    have := h e (by simp)
    unfold bal; rw [bal_none E x (fun f hf => h f (by simp [hf])), if_neg (by omega)]; rfl
theorem sum_bal : ∀ (E : List Pc) (k : Nat) (x : Int), (∀ e ∈ E.take k, e.1 ≤ x) → (∀ e ∈ E.drop k, x < e.1) → sumB (E.take k) = bal E x
  | E, 0, x, _, h => by rw [bal_none E x (by simpa using h)]; simp [sumB]
  | [], k + 1, x, _, _ => by simp [sumB, bal]
  | e :: E, k + 1, x, h1, h2 => by
    have ih := sum_bal E k x (fun f hf => h1 f (by simp [hf])) (by simpa using h2)
    have := h1 e (by simp)
    simp only [List.take_succ_cons, sumB, bal, ih, if_pos this]
theorem sumB_snoc : ∀ (E : List Pc) (e : Pc), sumB (E ++ [e]) = sumB E + e.2
  | [], e => by simp [sumB]
  | f :: E, e => by simp only [List.cons_append, sumB, sumB_snoc E e]; omega
theorem sumB_le : ∀ (E : List Pc), (∀ e ∈ E, e.2 = 1 ∨ e.2 = -1) → -(E.length : Int) ≤ sumB E ∧ sumB E ≤ E.length
  | [], _ => by simp [sumB]
  | e :: E, h => by
    have ih := sumB_le E (fun f hf => h f (by simp [hf]))
    have := h e (by simp)
    simp only [sumB, List.length_cons]; omega
theorem edges_by : ∀ (P : List Pc), ∀ e ∈ edges P, e.2 = 1 ∨ e.2 = -1
  | [], e, h => by simp [edges] at h
  | q :: P, e, h => by
    simp only [edges, List.mem_cons] at h
    rcases h with rfl | rfl | h
    · exact .inl rfl
    · exact .inr rfl
    · exact edges_by P e h
theorem edges_append : ∀ (P Q : List Pc), edges (P ++ Q) = edges P ++ edges Q
  | [], Q => rfl
  | q :: P, Q => by simp [edges, edges_append P Q]
theorem edges_len : ∀ (P : List Pc), (edges P).length = 2 * P.length
  | [] => rfl
  | q :: P => by simp [edges, edges_len P]; omega
end Go.Proofs.YtmgfpcblbbpahaaGreat.Ru

namespace Go.Proofs.YtmgfpcblbbpahaaGreat.Ru

/-! ### merging in a loop -/
theorem mrg_snoc : ∀ (l : List Pc) (c p : Pc), ∃ t q, mrg c l = t ++ [q] ∧ mrg c (l ++ [p]) = if p.1 ≤ q.2 then t ++ [(q.1, max q.2 p.2)] else t ++ [q, p]
  | [], c, p => ⟨[], c, rfl, by simp [mrg]⟩
  | r :: l, c, p => by
    by_cases h : r.1 ≤ c.2
    · obtain ⟨t, q, h1, h2⟩ := mrg_snoc l (c.1, max c.2 r.2) p
      exact ⟨t, q, by rw [mrg, if_pos h, h1], by rw [List.cons_append, mrg, if_pos h, h2]⟩
    · obtain ⟨t, q, h1, h2⟩ := mrg_snoc l r p
      refine ⟨c :: t, q, by rw [mrg, if_neg h, h1]; rfl, ?_⟩
      rw [List.cons_append, mrg, if_neg h, h2]
      split <;> rfl
theorem merge_snoc (l : List Pc) (p : Pc) (hl : l ≠ []) : ∃ t q, merge l = t ++ [q] ∧ merge (l ++ [p]) = if p.1 ≤ q.2 then t ++ [(q.1, max q.2 p.2)] else t ++ [q, p] := by
  cases l with
  | nil => exact absurd rfl hl
  | cons c l => exact mrg_snoc l c p
theorem mrg_len : ∀ (l : List Pc) (c : Pc), (mrg c l).length ≤ l.length + 1
  | [], c => by simp [mrg]
  | p :: l, c => by
    unfold mrg
    split
    · have := mrg_len l (c.1, max c.2 p.2); simp; omega
    · have := mrg_len l p; simp; omega
theorem merge_len (l : List Pc) : (merge l).length ≤ l.length := by
  cases l with
  | nil => simp [merge]
  | cons c l => have := mrg_len l c; simpa [merge] using this
def Sorted (l : List Pc) : Prop := ∀ i j, i < j → j < l.length → (l.getD i (0, 0)).1 ≤ (l.getD j (0, 0)).1
theorem Sorted.tail {p : Pc} {l : List Pc} (h : Sorted (p :: l)) : Sorted l := fun i j hij hj => by simpa using h (i + 1) (j + 1) (by omega) (by simpa using hj)
theorem Sorted.asc : ∀ {l : List Pc}, Sorted l → Asc l
  | [], _ => trivial
  | [_], _ => trivial
  | p :: q :: l, h => ⟨by simpa using h 0 1 (by omega) (by simp), h.tail.asc⟩
theorem Sorted.ascI : ∀ {l : List Pc}, Sorted l → AscI (l.map Prod.fst)
  | [], _ => trivial
  | [_], _ => trivial
  | p :: q :: l, h => ⟨by simpa using h 0 1 (by omega) (by simp), h.tail.ascI⟩
theorem merge_pcs (l d : List Pc) (hs : Sorted d) (hm : ∀ q, q ∈ d ↔ q ∈ raw l) : merge d = pcs l := by
  obtain ⟨h1, h2, h3⟩ := merge_nf hs.asc (fun q hq => raw_mem ((hm q).1 hq))
  exact pcs_uniq h1 fun p => by rw [h3, inP_mem hm, inP_raw]
theorem sorted_sum (E : List Pc) (hs : Sorted E) (k : Nat) (hk : k + 1 < E.length) (hlt : (E.getD k (0, 0)).1 < (E.getD (k + 1) (0, 0)).1) : sumB (E.take (k + 1)) = bal E (E.getD k (0, 0)).1 := by
  apply sum_bal
  · intro e he
    obtain ⟨i, hi, rfl⟩ := List.getElem_of_mem he
    have hi' : i < k + 1 := by simp at hi; omega
    rw [List.getElem_take]
    have e1 : E[i]'(by omega) = E.getD i (0, 0) := by simp [List.getD, List.getElem?_eq_getElem (show i < E.length by omega)]
    rw [e1]
    by_cases h : i = k
    · subst h; omega
    · exact hs i k (by omega) (by omega)
  · intro e he
    obtain ⟨i, hi, rfl⟩ := List.getElem_of_mem he
    have hi' : k + 1 + i < E.length := by simp at hi; omega
    rw [List.getElem_drop]
    have e1 : E[k + 1 + i]'hi' = E.getD (k + 1 + i) (0, 0) := by simp [List.getD, List.getElem?_eq_getElem hi']
    rw [e1]
    by_cases h : i = 0
    · subst h; exact hlt
    · have := hs (k + 1) (k + 1 + i) (by omega) hi'; omega

/-! ### insertion by a search -/
theorem insD_at : ∀ (l : List Int) (x : Int) (k : Nat), k ≤ l.length → (∀ j, j < k → l.getD j 0 < x) → (k < l.length → x ≤ l.getD k 0) →
    insD x l = if k < l.length ∧ l.getD k 0 = x then l else l.take k ++ x :: l.drop k
  | [], x, k, hk, _, _ => by
    obtain rfl : k = 0 := by simpa using hk
    simp [insD]
  | y :: l, x, 0, _, _, h2 => by
    have := h2 (by simp)
    simp at this
    unfold insD
    by_cases e : x = y
    · subst e; simp
    · rw [if_pos (by omega)]
      have : ¬ y = x := fun h => e h.symm
      simp [this]
  | y :: l, x, k + 1, hk, h1, h2 => by
    have hy := h1 0 (by omega)
    simp at hy
    unfold insD
    rw [if_neg (by omega), if_neg (by omega), insD_at l x k (by simpa using hk) (fun j hj => by simpa using h1 (j + 1) (by omega)) (fun hk => by simpa using h2 (by simpa using hk))]
    by_cases h : k < l.length ∧ l.getD k 0 = x
    · rw [if_pos h, if_pos (by simpa using h)]
    · rw [if_neg h, if_neg (by simpa using h)]; simp

/-! ### runs -/
def opn (f : Int → Bool) (c : List Int) : Nat → Bool
  | 0 => false
  | i + 1 => f (c.getD i 0)
def ext (Q : List Pc) (y : Int) : List Pc := match Q.getLast? with
  | none => Q
  | some q => Q.dropLast ++ [(q.1, y)]
def runsT (f : Int → Bool) (c : List Int) : Nat → List Pc
  | 0 => []
  | i + 1 => if f (c.getD i 0) = true then (if opn f c i = true then ext (runsT f c i) (c.getD (i + 1) 0) else runsT f c i ++ [(c.getD i 0, c.getD (i + 1) 0)]) else runsT f c i
theorem ext_snoc (t : List Pc) (q : Pc) (y : Int) : ext (t ++ [q]) y = t ++ [(q.1, y)] := by simp [ext]
theorem Nf.snoc : ∀ {b : Int} {t : List Pc} {q : Pc}, Nf b (t ++ [q]) ↔ Nf b t ∧ b < q.1 ∧ q.1 < q.2 ∧ ∀ r ∈ t, r.2 < q.1
  | b, [], q => by simp [Nf]
  | b, r :: t, q => by
    simp only [List.cons_append, Nf, Nf.snoc, List.mem_cons]
    constructor
    · rintro ⟨h1, h2, h3, h4, h5, h6⟩
      exact ⟨⟨h1, h2, h3⟩, by omega, h5, fun s hs => by rcases hs with rfl | hs; exact h4; exact h6 s hs⟩
    · rintro ⟨⟨h1, h2, h3⟩, h4, h5, h6⟩
      exact ⟨h1, h2, h3, h6 r (.inl rfl), h5, fun s hs => h6 s (.inr hs)⟩
theorem Ris.get : ∀ {b : Int} {l : List Int}, Ris b l → ∀ i j, i < j → j < l.length → l.getD i 0 < l.getD j 0
  | b, [], _, i, j, _, hj => by simp at hj
  | b, x :: l, h, 0, j + 1, _, hj => by
    have hj' : j < l.length := by simpa using hj
    have := h.2.above (l.getD j 0) (by simp [List.getD, List.getElem?_eq_getElem hj'])
    simpa using this
  | b, x :: l, h, i + 1, j + 1, hij, hj => by simpa using Ris.get h.2 i j (by omega) (by simpa using hj)
def inG (f : Int → Bool) (c : List Int) (i : Nat) (p : Int) : Prop := ∃ j, j < i ∧ c.getD j 0 ≤ p ∧ p < c.getD (j + 1) 0 ∧ f (c.getD j 0) = true
theorem runs_all (f : Int → Bool) (c : List Int) (b : Int) (hc : Ris b c) : ∀ i, i < c.length →
    Nf b (runsT f c i) ∧ (∀ q ∈ runsT f c i, q.2 ≤ c.getD i 0) ∧ (opn f c i = true → ∃ t q, runsT f c i = t ++ [q] ∧ q.2 = c.getD i 0) ∧ (opn f c i = false → ∀ q ∈ runsT f c i, q.2 < c.getD i 0) ∧ ∀ p, inP (runsT f c i) p ↔ inG f c i p
  | 0, _ => by
    refine ⟨trivial, by simp [runsT], by simp [opn], by simp [runsT], fun p => ?_⟩
    simp [runsT, inP_nil, inG]
  | i + 1, hi => by
    obtain ⟨h1, h2, h3, h4, h5⟩ := runs_all f c b hc i (by omega)
    have hlt := hc.get i (i + 1) (by omega) hi
    have hbi := hc.above (c.getD i 0) (by simp [List.getD, List.getElem?_eq_getElem (show i < c.length by omega)])
    have hG : ∀ p, inG f c (i + 1) p ↔ inG f c i p ∨ (c.getD i 0 ≤ p ∧ p < c.getD (i + 1) 0 ∧ f (c.getD i 0) = true) := by
      intro p
      constructor
      · rintro ⟨j, hj, h⟩
        by_cases e : j = i
        · subst e; exact .inr h
        · exact .inl ⟨j, by omega, h⟩
      · rintro (⟨j, hj, h⟩ | h)
        · exact ⟨j, by omega, h⟩
        · exact ⟨i, by omega, h⟩
    by_cases hf : f (c.getD i 0) = true
    · by_cases ho : opn f c i = true
      · obtain ⟨t, q, e, hq⟩ := h3 ho
        have er : runsT f c (i + 1) = t ++ [(q.1, c.getD (i + 1) 0)] := by rw [runsT, if_pos hf, if_pos ho, e, ext_snoc]
        rw [er]
        rw [e] at h1 h2 h5
        obtain ⟨k1, k2, k3, k4⟩ := Nf.snoc.1 h1
        refine ⟨Nf.snoc.2 ⟨k1, k2, by show q.1 < _; omega, k4⟩, ?_, fun _ => ⟨t, _, rfl, rfl⟩, fun h => absurd (show f (c.getD i 0) = false from h) (by rw [hf]; decide), fun p => ?_⟩
        · intro r hr
          rcases List.mem_append.1 hr with hr | hr
          · have := h2 r (by simp [hr]); omega
          · simp at hr; subst hr; exact Int.le_refl _
        · rw [hG, ← h5, inP_append, inP_append, inP_cons, inP_cons]
          simp only [inP_nil, or_false, hf, and_true]
          constructor
          · rintro (h | h)
            · exact .inl (.inl h)
            · by_cases e2 : p < q.2
              · exact .inl (.inr ⟨h.1, e2⟩)
              · exact .inr ⟨by omega, h.2⟩
          · rintro ((h | h) | h)
            · exact .inl h
            · exact .inr ⟨h.1, by omega⟩
            · exact .inr ⟨by omega, h.2⟩
      · have ho' : opn f c i = false := by simpa using ho
        have er : runsT f c (i + 1) = runsT f c i ++ [(c.getD i 0, c.getD (i + 1) 0)] := by rw [runsT, if_pos hf, if_neg ho]
        rw [er]
        refine ⟨Nf.snoc.2 ⟨h1, hbi, hlt, h4 ho'⟩, ?_, fun _ => ⟨_, _, rfl, rfl⟩, fun h => absurd (show f (c.getD i 0) = false from h) (by rw [hf]; decide), fun p => ?_⟩
        · intro r hr
          rcases List.mem_append.1 hr with hr | hr
          · have := h2 r hr; omega
          · simp at hr; subst hr; exact Int.le_refl _
        · rw [hG, ← h5, inP_append, inP_cons]; simp only [inP_nil, or_false, hf, and_true]
    · have er : runsT f c (i + 1) = runsT f c i := by rw [runsT, if_neg hf]
      rw [er]
      refine ⟨h1, fun q hq => by have := h2 q hq; omega, fun h => absurd (show f (c.getD i 0) = true from h) hf, fun _ q hq => by have := h2 q hq; omega, fun p => ?_⟩
      rw [hG, h5]
      exact ⟨.inl, fun h => h.elim id fun h => absurd h.2.2 hf⟩
theorem gap_of : ∀ (c : List Int) (n : Nat), n < c.length → ∀ p, c.getD 0 0 ≤ p → p < c.getD n 0 → ∃ j, j < n ∧ c.getD j 0 ≤ p ∧ p < c.getD (j + 1) 0
  | c, 0, _, p, h1, h2 => by omega
  | c, n + 1, hn, p, h1, h2 => by
    by_cases h : p < c.getD n 0
    · obtain ⟨j, hj, h3⟩ := gap_of c n (by omega) p h1 h
      exact ⟨j, by omega, h3⟩
    · exact ⟨n, by omega, by omega, h2⟩
theorem inB_gap {a : List Pc} {c : List Int} {b : Int} (hc : Ris b c) (hm : ∀ z ∈ ends a, z ∈ c) {j : Nat} (hj : j + 1 < c.length) {p : Int} (h1 : c.getD j 0 ≤ p) (h2 : p < c.getD (j + 1) 0) : inB a p = inB a (c.getD j 0) := by
  have key : ∀ z, z ∈ c → (z ≤ p ↔ z ≤ c.getD j 0) := by
    intro z hz
    obtain ⟨i, hi, rfl⟩ := List.getElem_of_mem hz
    have e : c[i] = c.getD i 0 := by simp [List.getD, List.getElem?_eq_getElem hi]
    rw [e]
    constructor
    · intro h
      by_cases h3 : i ≤ j
      · by_cases h4 : i = j
        · subst h4; omega
        · have := hc.get i j (by omega) (by omega); omega
      · by_cases h4 : i = j + 1
        · subst h4; omega
        · have := hc.get (j + 1) i (by omega) hi; omega
    · intro h; omega
  unfold inB
  rw [Bool.eq_iff_iff]
  simp only [List.any_eq_true, Bool.and_eq_true, decide_eq_true_eq]
  constructor
  · rintro ⟨q, hq, h3, h4⟩
    exact ⟨q, hq, (key q.1 (hm _ ((mem_ends _ _).2 ⟨q, hq, .inl rfl⟩))).1 h3, by have := key q.2 (hm _ ((mem_ends _ _).2 ⟨q, hq, .inr rfl⟩)); omega⟩
  · rintro ⟨q, hq, h3, h4⟩
    exact ⟨q, hq, (key q.1 (hm _ ((mem_ends _ _).2 ⟨q, hq, .inl rfl⟩))).2 h3, by have := key q.2 (hm _ ((mem_ends _ _).2 ⟨q, hq, .inr rfl⟩)); omega⟩

def cut2 (a b : List Pc) : List Int := srtD (ends ((0, 1112064) :: (a ++ b)))
def pickP (f : Int → Bool) (a b : List Pc) : List Pc := runsT f (cut2 a b) ((cut2 a b).length - 1)
theorem ends_pos {a : List Pc} (h : ∀ q ∈ a, 0 ≤ q.1 ∧ q.1 < q.2 ∧ q.2 ≤ 1112064) : ∀ z ∈ ends a, -1 < z := fun z hz => by
  obtain ⟨q, hq, e⟩ := (mem_ends a z).1 hz
  have := h q hq; omega
theorem cut2_facts (a b : List Pc) (ha : ∀ q ∈ a, 0 ≤ q.1 ∧ q.1 < q.2 ∧ q.2 ≤ 1112064) (hb : ∀ q ∈ b, 0 ≤ q.1 ∧ q.1 < q.2 ∧ q.2 ≤ 1112064) :
    Ris (-1) (cut2 a b) ∧ (∀ z, z ∈ cut2 a b ↔ z = 0 ∨ z = 1112064 ∨ z ∈ ends a ∨ z ∈ ends b) ∧ 2 ≤ (cut2 a b).length ∧ (cut2 a b).getD 0 0 = 0 ∧ (cut2 a b).getD ((cut2 a b).length - 1) 0 = 1112064 := by
  have hall : ∀ q ∈ ((0, 1112064) :: (a ++ b) : List Pc), 0 ≤ q.1 ∧ q.1 < q.2 ∧ q.2 ≤ 1112064 := by
    intro q hq
    rcases List.mem_cons.1 hq with rfl | hq
    · simp
    · rcases List.mem_append.1 hq with hq | hq
      · exact ha q hq
      · exact hb q hq
  have hpos := ends_pos hall
  have hr : Ris (-1) (cut2 a b) := srtD_ris hpos
  have hmem : ∀ z, z ∈ cut2 a b ↔ z = 0 ∨ z = 1112064 ∨ z ∈ ends a ∨ z ∈ ends b := by
    intro z
    unfold cut2
    rw [mem_srtD hpos, mem_ends]
    rw [mem_ends, mem_ends]
    simp only [List.mem_cons, List.mem_append]
    constructor
    · rintro ⟨q, rfl | h | h, e⟩
      · rcases e with e | e
        · exact .inl e
        · exact .inr (.inl e)
      · exact .inr (.inr (.inl ⟨q, h, e⟩))
      · exact .inr (.inr (.inr ⟨q, h, e⟩))
    · rintro (e | e | ⟨q, h, e⟩ | ⟨q, h, e⟩)
      · exact ⟨_, .inl rfl, .inl e⟩
      · exact ⟨_, .inl rfl, .inr e⟩
      · exact ⟨q, .inr (.inl h), e⟩
      · exact ⟨q, .inr (.inr h), e⟩
  have hrange : ∀ z ∈ cut2 a b, 0 ≤ z ∧ z ≤ 1112064 := by
    intro z hz
    rcases (hmem z).1 hz with h | h | h | h
    · omega
    · omega
    · obtain ⟨q, hq, e⟩ := (mem_ends a z).1 h; have := ha q hq; omega
    · obtain ⟨q, hq, e⟩ := (mem_ends b z).1 h; have := hb q hq; omega
  obtain ⟨i, hi, ei⟩ := List.getElem_of_mem ((hmem 0).2 (.inl rfl))
  obtain ⟨k, hk, ek⟩ := List.getElem_of_mem ((hmem 1112064).2 (.inr (.inl rfl)))
  have gi : (cut2 a b).getD i 0 = 0 := by simp [List.getD, List.getElem?_eq_getElem hi, ei]
  have gk : (cut2 a b).getD k 0 = 1112064 := by simp [List.getD, List.getElem?_eq_getElem hk, ek]
  have hik : i ≠ k := fun h => by subst h; omega
  have hmemD : ∀ n, n < (cut2 a b).length → (cut2 a b).getD n 0 ∈ cut2 a b := fun n hn => by simp [List.getD, List.getElem?_eq_getElem hn]
  refine ⟨hr, hmem, by omega, ?_, ?_⟩
  · by_cases e : i = 0
    · subst e; exact gi
    · have := hr.get 0 i (by omega) hi
      have := (hrange _ (hmemD 0 (by omega))).1; omega
  · by_cases e : k = (cut2 a b).length - 1
    · rw [← e]; exact gk
    · have := hr.get k ((cut2 a b).length - 1) (by omega) (by omega)
      have := (hrange _ (hmemD ((cut2 a b).length - 1) (by omega))).2; omega
theorem pick_all (g : Bool → Bool → Bool) (a b : List Pc) (ha : ∀ q ∈ a, 0 ≤ q.1 ∧ q.1 < q.2 ∧ q.2 ≤ 1112064) (hb : ∀ q ∈ b, 0 ≤ q.1 ∧ q.1 < q.2 ∧ q.2 ≤ 1112064) :
    Nf (-1) (pickP (fun x => g (inB a x) (inB b x)) a b) ∧ ∀ p, inP (pickP (fun x => g (inB a x) (inB b x)) a b) p ↔ 0 ≤ p ∧ p < 1112064 ∧ g (inB a p) (inB b p) = true := by
  obtain ⟨h1, h2, h3, h4, h5⟩ := cut2_facts a b ha hb
  obtain ⟨k1, k2, _, _, k5⟩ := runs_all (fun x => g (inB a x) (inB b x)) (cut2 a b) (-1) h1 ((cut2 a b).length - 1) (by omega)
  refine ⟨k1, fun p => ?_⟩
  unfold pickP
  rw [k5]
  have hgap : ∀ j, j + 1 < (cut2 a b).length → (cut2 a b).getD j 0 ≤ p → p < (cut2 a b).getD (j + 1) 0 → inB a p = inB a ((cut2 a b).getD j 0) ∧ inB b p = inB b ((cut2 a b).getD j 0) :=
    fun j hj h6 h7 => ⟨inB_gap h1 (fun z hz => (h2 z).2 (.inr (.inr (.inl hz)))) hj h6 h7, inB_gap h1 (fun z hz => (h2 z).2 (.inr (.inr (.inr hz)))) hj h6 h7⟩
  constructor
  · rintro ⟨j, hj, h6, h7, h8⟩
    obtain ⟨e1, e2⟩ := hgap j (by omega) h6 h7
    refine ⟨?_, ?_, by rw [e1, e2]; exact h8⟩
    · by_cases e : j = 0
      · subst e; omega
      · have := h1.get 0 j (by omega) (by omega); omega
    · by_cases e : j + 1 = (cut2 a b).length - 1
      · rw [e] at h7; omega
      · have := h1.get (j + 1) ((cut2 a b).length - 1) (by omega) (by omega); omega
  · rintro ⟨h6, h7, h8⟩
    obtain ⟨j, hj, h9, h10⟩ := gap_of (cut2 a b) ((cut2 a b).length - 1) (by omega) p (by omega) (by omega)
    obtain ⟨e1, e2⟩ := hgap j (by omega) h9 h10
    exact ⟨j, hj, h9, h10, by show g _ _ = true; rw [← e1, ← e2]; exact h8⟩
end Go.Proofs.YtmgfpcblbbpahaaGreat.Ru
