/- Merged. -/
set_option linter.unusedVariables false
set_option linter.unusedSimpArgs false
namespace Go.Proofs.YtfkmajjgkdjncaaGreatDoor.Ru
abbrev Pc := Int × Int
def scal (r : Int) : Bool := decide (0 ≤ r) && (decide (r ≤ 1114111) && (decide (r < 55296) || decide (57344 ≤ r)))
def plc (n : Int) : Int := if n < 0 then 0 else if n < 55296 then n else if n < 57344 then 55296 else if n ≤ 1114111 then n - 2048 else 1112064
def vlu (p : Int) : Int := if p < 55296 then p else p + 2048
def pcOf (x : Pc) : Pc := (plc x.1, if scal x.2 = true then plc x.2 + 1 else plc x.2)
theorem scal_iff (r : Int) : scal r = true ↔ 0 ≤ r ∧ r ≤ 1114111 ∧ (r < 55296 ∨ 57344 ≤ r) := by simp [scal]
theorem scal_not (r : Int) : scal r = false ↔ ¬ (0 ≤ r ∧ r ≤ 1114111 ∧ (r < 55296 ∨ 57344 ≤ r)) := by rw [← scal_iff]; simp
theorem plc_range (n : Int) : 0 ≤ plc n ∧ plc n ≤ 1112064 := by unfold plc; repeat' split <;> omega
theorem plc_scal {r : Int} (h : scal r = true) : plc r < 1112064 := by rw [scal_iff] at h; unfold plc; repeat' split <;> omega
theorem plc_vlu {p : Int} (h : 0 ≤ p) (h2 : p < 1112064) : plc (vlu p) = p := by unfold vlu; split <;> (unfold plc; repeat' split <;> omega)
theorem vlu_plc {r : Int} (h : scal r = true) : vlu (plc r) = r := by rw [scal_iff] at h; unfold vlu plc; repeat' split <;> omega
theorem scal_vlu {p : Int} (h : 0 ≤ p) (h2 : p < 1112064) : scal (vlu p) = true := by rw [scal_iff]; unfold vlu; split <;> omega
theorem vlu_mono {p q : Int} : p ≤ q ↔ vlu p ≤ vlu q := by unfold vlu; split <;> split <;> omega
theorem vlu_range {p : Int} (h : 0 ≤ p) (h2 : p < 1112064) : 0 ≤ vlu p ∧ vlu p ≤ 1114111 := by unfold vlu; split <;> omega
theorem pcOf_range (x : Pc) : 0 ≤ (pcOf x).1 ∧ (pcOf x).1 ≤ 1112064 ∧ 0 ≤ (pcOf x).2 ∧ (pcOf x).2 ≤ 1112064 := by
 have h1 := plc_range x.1; have h2 := plc_range x.2
 unfold pcOf
 by_cases h : scal x.2 = true
 · have := plc_scal h; simp only [h, if_true]; omega
 · simp only [h, if_false]; simp; omega
def inP (P : List Pc) (p : Int) : Prop := ∃ q ∈ P, q.1 ≤ p ∧ p < q.2
def Nf : Int → List Pc → Prop
 | _, [] => True
 | b, q :: P => b < q.1 ∧ q.1 < q.2 ∧ Nf q.2 P
def Bd (P : List Pc) : Prop := ∀ q ∈ P, q.2 ≤ 1112064
theorem inP_nil (p : Int) : ¬ inP [] p := by simp [inP]
theorem inP_cons (q : Pc) (P : List Pc) (p : Int) : inP (q :: P) p ↔ (q.1 ≤ p ∧ p < q.2) ∨ inP P p := by simp [inP]
theorem Nf.above : ∀ {b : Int} {P : List Pc} (h : Nf b P) {p : Int}, inP P p → b < p
 | b, [], _, p, hp => absurd hp (inP_nil p)
 | b, q :: P, h, p, hp => by
  rcases (inP_cons q P p).1 hp with hp | hp
  · have := h.1; omega
  · have := Nf.above h.2.2 hp; have := h.1; have := h.2.1; omega
theorem Nf.uniq : ∀ {a b : Int} {P Q : List Pc}, Nf a P → Nf b Q → (∀ p, inP P p ↔ inP Q p) → P = Q
 | _, _, [], [], _, _, _ => rfl
 | _, _, [], q :: Q, _, hQ, h => absurd ((h q.1).2 ((inP_cons q Q _).2 (.inl ⟨Int.le_refl _, hQ.2.1⟩))) (inP_nil _)
 | _, _, q :: P, [], hP, _, h => absurd ((h q.1).1 ((inP_cons q P _).2 (.inl ⟨Int.le_refl _, hP.2.1⟩))) (inP_nil _)
 | _, _, q :: P, r :: Q, hP, hQ, h => by
  obtain ⟨_, hq, hP'⟩ := hP
  obtain ⟨_, hr, hQ'⟩ := hQ
  have k1 : r.1 ≤ q.1 := by
   rcases (inP_cons r Q _).1 ((h q.1).1 ((inP_cons q P _).2 (.inl ⟨Int.le_refl _, hq⟩))) with k | k
   · exact k.1
   · have := hQ'.above k; omega
  have k2 : q.1 ≤ r.1 := by
   rcases (inP_cons q P _).1 ((h r.1).2 ((inP_cons r Q _).2 (.inl ⟨Int.le_refl _, hr⟩))) with k | k
   · exact k.1
   · have := hP'.above k; omega
  have k3 : r.2 ≤ q.2 := by
   apply Int.not_lt.1; intro hlt
   rcases (inP_cons q P _).1 ((h q.2).2 ((inP_cons r Q _).2 (.inl ⟨by omega, hlt⟩))) with k | k
   · omega
   · have := hP'.above k; omega
  have k4 : q.2 ≤ r.2 := by
   apply Int.not_lt.1; intro hlt
   rcases (inP_cons r Q _).1 ((h r.2).1 ((inP_cons q P _).2 (.inl ⟨by omega, hlt⟩))) with k | k
   · omega
   · have := hQ'.above k; omega
  obtain ⟨q1, q2⟩ := q
  obtain ⟨r1, r2⟩ := r
  simp only at *
  obtain rfl : q1 = r1 := by omega
  obtain rfl : q2 = r2 := by omega
  have e : P = Q := Nf.uniq hP' hQ' (by
   intro p
   constructor
   · intro hp
     rcases (inP_cons _ Q _).1 ((h p).1 ((inP_cons _ P _).2 (.inr hp))) with k | k
     · have := hP'.above hp; simp at k; omega
     · exact k
   · intro hp
     rcases (inP_cons _ P _).1 ((h p).2 ((inP_cons _ Q _).2 (.inr hp))) with k | k
     · have := hQ'.above hp; simp at k; omega
     · exact k)
  rw [e]
def ins (p : Pc) : List Pc → List Pc
 | [] => [p]
 | q :: l => if p.1 ≤ q.1 then p :: q :: l else q :: ins p l
def srt : List Pc → List Pc
 | [] => []
 | p :: l => ins p (srt l)
def mrg : Pc → List Pc → List Pc
 | c, [] => [c]
 | c, p :: l => if p.1 ≤ c.2 then mrg (c.1, max c.2 p.2) l else c :: mrg p l
def merge : List Pc → List Pc
 | [] => []
 | p :: l => mrg p l
def raw (l : List Pc) : List Pc := (l.map pcOf).filter fun p => decide (p.1 < p.2)
def pcs (l : List Pc) : List Pc := merge (srt (raw l))
def rngs (P : List Pc) : List Pc := P.map fun p => (vlu p.1, vlu (p.2 - 1))
def cpl : Int → List Pc → List Pc
 | from_, [] => if from_ < 1112064 then [(from_, 1112064)] else []
 | from_, p :: P => if from_ < p.1 then (from_, p.1) :: cpl p.2 P else cpl p.2 P
def cnt : List Pc → Int
 | [] => 0
 | p :: P => p.2 - p.1 + cnt P
def nrm (l : List Pc) : List Pc := rngs (pcs l)
def nt (l : List Pc) : List Pc := rngs (cpl 0 (pcs l))
def has (l : List Pc) (r : Int) : Bool := scal r && l.any fun x => decide (x.1 ≤ r) && decide (r ≤ x.2)
def inR (l : List Pc) (p : Int) : Prop := inP (l.map pcOf) p
theorem mem_ins (p q : Pc) : ∀ l, q ∈ ins p l ↔ q = p ∨ q ∈ l
 | [] => by simp [ins]
 | r :: l => by
  unfold ins
  split
  · simp
  · simp only [List.mem_cons, mem_ins p q l]
    constructor
    · rintro (h | h | h) <;> simp [h]
    · rintro (h | h | h) <;> simp [h]
theorem mem_srt (q : Pc) : ∀ l, q ∈ srt l ↔ q ∈ l
 | [] => by simp [srt]
 | p :: l => by simp [srt, mem_ins, mem_srt q l]
def Asc : List Pc → Prop
 | [] => True
 | [_] => True
 | p :: q :: l => p.1 ≤ q.1 ∧ Asc (q :: l)
theorem asc_ins (p : Pc) : ∀ l, Asc l → Asc (ins p l)
 | [], _ => trivial
 | [q], _ => by
  unfold ins
  split
  · exact ⟨by assumption, trivial⟩
  · exact ⟨by omega, trivial⟩
 | q :: r :: l, h => by
  unfold ins
  split
  · exact ⟨by assumption, h⟩
  · have ih := asc_ins p (r :: l) h.2
    unfold ins at ih ⊢
    split
    · rename_i h1 h2; rw [if_pos h2] at ih; exact ⟨by omega, ih⟩
    · rename_i h1 h2; rw [if_neg h2] at ih; exact ⟨h.1, ih⟩
theorem asc_srt : ∀ l, Asc (srt l)
 | [] => trivial
 | p :: l => asc_ins p _ (asc_srt l)
theorem inP_mem {P Q : List Pc} (h : ∀ q, q ∈ P ↔ q ∈ Q) (p : Int) : inP P p ↔ inP Q p := by
 unfold inP; simp only [h]
theorem inP_srt (l : List Pc) (p : Int) : inP (srt l) p ↔ inP l p := inP_mem (fun q => mem_srt q l) p
theorem inP_raw (l : List Pc) (p : Int) : inP (raw l) p ↔ inR l p := by
 unfold raw inR inP
 constructor
 · rintro ⟨q, hq, h⟩; exact ⟨q, (List.mem_filter.1 hq).1, h⟩
 · rintro ⟨q, hq, h⟩; exact ⟨q, List.mem_filter.2 ⟨hq, by simp; omega⟩, h⟩
theorem mrg_nf : ∀ (l : List Pc) (c : Pc) (b : Int), b < c.1 → c.1 < c.2 → Asc (c :: l) → (∀ q ∈ l, q.1 < q.2) → Nf b (mrg c l)
 | [], c, b, h1, h2, _, _ => ⟨h1, h2, trivial⟩
 | p :: l, c, b, h1, h2, h3, h4 => by
  unfold mrg
  split
  · refine mrg_nf l (c.1, max c.2 p.2) b h1 (by simp; omega) ?_ (fun q hq => h4 q (by simp [hq]))
    cases l with
    | nil => trivial
    | cons q l => exact ⟨by have := h3.1; have := h3.2.1; simp; omega, h3.2.2⟩
  · exact ⟨h1, h2, mrg_nf l p c.2 (by omega) (h4 p (by simp)) h3.2 (fun q hq => h4 q (by simp [hq]))⟩
theorem mrg_in : ∀ (l : List Pc) (c : Pc) (p : Int), c.1 ≤ c.2 → Asc (c :: l) → (∀ q ∈ l, q.1 ≤ q.2) → (inP (mrg c l) p ↔ inP (c :: l) p)
 | [], c, p, _, _, _ => Iff.rfl
 | q :: l, c, p, h0, h1, h2 => by
  have hq := h2 q (by simp)
  have hcq := h1.1
  unfold mrg
  split
  · rename_i hle
    rw [mrg_in l _ p (by simp; omega) (by cases l with | nil => trivial | cons r l => exact ⟨by have := h1.1; have := h1.2.1; simp; omega, h1.2.2⟩) (fun r hr => h2 r (by simp [hr]))]
    simp only [inP_cons]
    have : (c.1 ≤ p ∧ p < max c.2 q.2) ↔ ((c.1 ≤ p ∧ p < c.2) ∨ (q.1 ≤ p ∧ p < q.2)) := by omega
    rw [this, or_assoc]
  · rw [inP_cons, mrg_in l q p hq h1.2 (fun r hr => h2 r (by simp [hr])), inP_cons c]
theorem mrg_bd : ∀ (l : List Pc) (c : Pc), c.2 ≤ 1112064 → Bd l → Bd (mrg c l)
 | [], c, h, _ => by simpa [mrg, Bd] using h
 | q :: l, c, h, hb => by
  have hq := hb q (by simp)
  unfold mrg
  split
  · exact mrg_bd l _ (by simp; omega) (fun r hr => hb r (by simp [hr]))
  · intro r hr
    rcases List.mem_cons.1 hr with rfl | hr
    · exact h
    · exact mrg_bd l q hq (fun r hr => hb r (by simp [hr])) r hr
theorem raw_mem {l : List Pc} {q : Pc} (h : q ∈ raw l) : 0 ≤ q.1 ∧ q.1 < q.2 ∧ q.2 ≤ 1112064 := by
 obtain ⟨h1, h2⟩ := List.mem_filter.1 h
 obtain ⟨x, _, rfl⟩ := List.mem_map.1 h1
 have := pcOf_range x
 simp at h2; omega
theorem merge_nf {l : List Pc} (h : Asc l) (h2 : ∀ q ∈ l, 0 ≤ q.1 ∧ q.1 < q.2 ∧ q.2 ≤ 1112064) : Nf (-1) (merge l) ∧ Bd (merge l) ∧ ∀ p, inP (merge l) p ↔ inP l p := by
 cases l with
 | nil => exact ⟨trivial, by simp [merge, Bd], fun _ => Iff.rfl⟩
 | cons c l =>
  have hc := h2 c (by simp)
  exact ⟨mrg_nf l c (-1) (by omega) hc.2.1 h (fun q hq => (h2 q (by simp [hq])).2.1), mrg_bd l c hc.2.2 (fun q hq => (h2 q (by simp [hq])).2.2), fun p => mrg_in l c p (by omega) h (fun q hq => by have := (h2 q (by simp [hq])).2.1; omega)⟩
theorem pcs_all (l : List Pc) : Nf (-1) (pcs l) ∧ Bd (pcs l) ∧ ∀ p, inP (pcs l) p ↔ inR l p := by
 obtain ⟨h1, h2, h3⟩ := merge_nf (asc_srt (raw l)) (fun q hq => raw_mem ((mem_srt q _).1 hq))
 exact ⟨h1, h2, fun p => by unfold pcs; rw [h3, inP_srt, inP_raw]⟩
theorem pcs_nf (l : List Pc) : Nf (-1) (pcs l) := (pcs_all l).1
theorem pcs_bd (l : List Pc) : Bd (pcs l) := (pcs_all l).2.1
theorem pcs_in (l : List Pc) (p : Int) : inP (pcs l) p ↔ inR l p := (pcs_all l).2.2 p
theorem Nf.pos : ∀ {b : Int} {P : List Pc}, Nf b P → ∀ q ∈ P, b < q.1 ∧ q.1 < q.2
 | b, [], _, q, hq => by simp at hq
 | b, r :: P, h, q, hq => by
  rcases List.mem_cons.1 hq with rfl | hq
  · exact ⟨h.1, h.2.1⟩
  · have := Nf.pos h.2.2 q hq; have := h.1; have := h.2.1; omega
theorem pcs_uniq {l P : List Pc} (h : Nf (-1) P) (h2 : ∀ p, inP P p ↔ inR l p) : P = pcs l := h.uniq (pcs_nf l) fun p => by rw [h2, pcs_in]
def Norm (l : List Pc) : Prop := l = nrm l
end Go.Proofs.YtfkmajjgkdjncaaGreatDoor.Ru

namespace Go.Proofs.YtfkmajjgkdjncaaGreatDoor.Ru
def card (f : Int → Bool) : Nat → Int
 | 0 => 0
 | n + 1 => card f n + if f (n : Int) = true then 1 else 0
def okR (x : Pc) : Bool := decide (x.1 ≤ x.2) && (scal x.1 && scal x.2)
def mayB (l : List Pc) : Bool := (List.range l.length).all fun i => okR (l.getD i (0, 0)) && (decide (i = 0) || decide (plc (l.getD (i - 1) (0, 0)).2 + 1 < plc (l.getD i (0, 0)).1))
theorem mayB_iff (l : List Pc) : mayB l = true ↔ ∀ i, i < l.length → okR (l.getD i (0, 0)) = true ∧ (0 < i → plc (l.getD (i - 1) (0, 0)).2 + 1 < plc (l.getD i (0, 0)).1) := by
 unfold mayB
 simp only [List.all_eq_true, List.mem_range, Bool.and_eq_true, Bool.or_eq_true, decide_eq_true_eq]
 constructor
 · intro h i hi; refine ⟨(h i hi).1, fun h0 => ?_⟩
   rcases (h i hi).2 with h2 | h2
   · omega
   · exact h2
 · intro h i hi; refine ⟨(h i hi).1, ?_⟩
   by_cases h0 : i = 0
   · exact .inl h0
   · exact .inr ((h i hi).2 (by omega))
def Mr : Int → List Pc → Prop
 | _, [] => True
 | b, x :: l => okR x = true ∧ b < plc x.1 ∧ Mr (plc x.2 + 1) l
theorem mr_of : ∀ (l : List Pc) (b : Int), (∀ i, i < l.length → okR (l.getD i (0, 0)) = true ∧ (0 < i → plc (l.getD (i - 1) (0, 0)).2 + 1 < plc (l.getD i (0, 0)).1)) → (∀ x, l.head? = some x → b < plc x.1) → Mr b l
 | [], _, _, _ => trivial
 | x :: l, b, h, hb => by
  refine ⟨(h 0 (by simp)).1, hb x rfl, mr_of l _ (fun i hi => ?_) (fun y hy => ?_)⟩
  · have := h (i + 1) (by simp; omega)
    refine ⟨by simpa using this.1, fun h0 => ?_⟩
    have h2 := this.2 (by omega)
    obtain ⟨j, rfl⟩ : ∃ j, i = j + 1 := ⟨i - 1, by omega⟩
    simpa using h2
  · cases l with
    | nil => simp at hy
    | cons z l =>
     simp at hy; subst hy
     have := (h 1 (by simp)).2 (by omega)
     simpa using this
theorem of_mr : ∀ (l : List Pc) (b : Int), Mr b l → ∀ i, i < l.length → okR (l.getD i (0, 0)) = true ∧ (0 < i → plc (l.getD (i - 1) (0, 0)).2 + 1 < plc (l.getD i (0, 0)).1)
 | [], _, _, i, hi => by simp at hi
 | x :: l, b, h, 0, _ => ⟨by simpa using h.1, fun h => absurd h (by omega)⟩
 | x :: l, b, h, i + 1, hi => by
  have ih := of_mr l _ h.2.2 i (by simpa using hi)
  refine ⟨by simpa using ih.1, fun _ => ?_⟩
  cases i with
  | zero =>
   cases l with
   | nil => simp at hi
   | cons y l => simpa using h.2.2.2.1
  | succ j => simpa using ih.2 (by omega)
theorem okR_iff (x : Pc) : okR x = true ↔ x.1 ≤ x.2 ∧ scal x.1 = true ∧ scal x.2 = true := by simp [okR]
theorem plc_mono {a b : Int} (h : a ≤ b) : plc a ≤ plc b := by unfold plc; repeat' split <;> omega
theorem nf_mr : ∀ (l : List Pc) (b : Int), Mr b l → Nf b (l.map pcOf) ∧ Bd (l.map pcOf) ∧ rngs (l.map pcOf) = l
 | [], _, _ => ⟨trivial, by simp [Bd], rfl⟩
 | x :: l, b, h => by
  obtain ⟨h1, h2, h3⟩ := (okR_iff x).1 h.1
  obtain ⟨i1, i2, i3⟩ := nf_mr l _ h.2.2
  have e : pcOf x = (plc x.1, plc x.2 + 1) := by unfold pcOf; rw [if_pos h3]
  have hp := plc_scal h3
  have hm := plc_mono h1
  simp only [List.map_cons, e]
  refine ⟨⟨h.2.1, by omega, i1⟩, ?_, ?_⟩
  · intro q hq
    rcases List.mem_cons.1 hq with rfl | hq
    · simp; omega
    · exact i2 q hq
  · have i3' : rngs ((plc x.1, plc x.2 + 1) :: l.map pcOf) = (vlu (plc x.1), vlu (plc x.2 + 1 - 1)) :: rngs (l.map pcOf) := rfl
    rw [i3', i3, vlu_plc h2, show plc x.2 + 1 - 1 = plc x.2 by omega, vlu_plc h3]
theorem mr_nf : ∀ (P : List Pc) (b : Int), -1 ≤ b → Nf b P → Bd P → Mr b (rngs P)
 | [], _, _, _, _ => trivial
 | q :: P, b, hb, h, h2 => by
  have hq := h2 q (by simp)
  have h1 := h.1
  have h3 := h.2.1
  have ih := mr_nf P q.2 (by omega) h.2.2 (fun r hr => h2 r (by simp [hr]))
  refine ⟨(okR_iff _).2 ⟨vlu_mono.1 (by omega), scal_vlu (by omega) (by omega), scal_vlu (by omega) (by omega)⟩, ?_, ?_⟩
  · show b < plc (vlu q.1); rw [plc_vlu (by omega) (by omega)]; exact h1
  · show Mr (plc (vlu (q.2 - 1)) + 1) (rngs P)
    rw [plc_vlu (by omega) (by omega), show q.2 - 1 + 1 = q.2 by omega]; exact ih
theorem may_nrm (l : List Pc) : mayB l = true ↔ l = nrm l := by
 rw [mayB_iff]
 constructor
 · intro h
   have hm := mr_of l (-1) h (fun x _ => by have := plc_range x.1; omega)
   obtain ⟨h1, h2, h3⟩ := nf_mr l _ hm
   have : l.map pcOf = pcs l := pcs_uniq h1 fun p => Iff.rfl
   unfold nrm; rw [← this, h3]
 · intro h
   rw [h]
   exact of_mr _ (-1) (mr_nf _ _ (by omega) (pcs_nf l) (pcs_bd l))
end Go.Proofs.YtfkmajjgkdjncaaGreatDoor.Ru

namespace Go.Proofs.YtfkmajjgkdjncaaGreatDoor.Ru
def ends : List Pc → List Int
 | [] => []
 | q :: P => q.1 :: q.2 :: ends P
theorem take_one {α} (l : List α) (d : α) (k : Nat) (h : k < l.length) : l.take (k + 1) = l.take k ++ [l.getD k d] := by
 rw [List.take_succ_eq_append_getElem h]
 simp [List.getD, List.getElem?_eq_getElem h]
end Go.Proofs.YtfkmajjgkdjncaaGreatDoor.Ru

namespace Go.Proofs.YtfkmajjgkdjncaaGreatDoor.Ru
theorem mrg_snoc : ∀ (l : List Pc) (c p : Pc), ∃ t q, mrg c l = t ++ [q] ∧ mrg c (l ++ [p]) = if p.1 ≤ q.2 then t ++ [(q.1, max q.2 p.2)] else t ++ [q, p]
 | [], c, p => ⟨[], c, rfl, by simp [mrg]⟩
 | r :: l, c, p => by
  by_cases h : r.1 ≤ c.2
  · obtain ⟨t, q, h1, h2⟩ := mrg_snoc l (c.1, max c.2 r.2) p
    exact ⟨t, q, by rw [mrg, if_pos h, h1], by rw [List.cons_append, mrg, if_pos h, h2]⟩
  · obtain ⟨t, q, h1, h2⟩ := mrg_snoc l r p
    refine ⟨c :: t, q, by rw [mrg, if_neg h, h1]; rfl, ?_⟩
    rw [List.cons_append, mrg, if_neg h, h2]
    split <;> rfl
theorem merge_snoc (l : List Pc) (p : Pc) (hl : l ≠ []) : ∃ t q, merge l = t ++ [q] ∧ merge (l ++ [p]) = if p.1 ≤ q.2 then t ++ [(q.1, max q.2 p.2)] else t ++ [q, p] := by
 cases l with
 | nil => exact absurd rfl hl
 | cons c l => exact mrg_snoc l c p
theorem mrg_len : ∀ (l : List Pc) (c : Pc), (mrg c l).length ≤ l.length + 1
 | [], c => by simp [mrg]
 | p :: l, c => by
  unfold mrg
  split
  · have := mrg_len l (c.1, max c.2 p.2); simp; omega
  · have := mrg_len l p; simp; omega
theorem merge_len (l : List Pc) : (merge l).length ≤ l.length := by
 cases l with
 | nil => simp [merge]
 | cons c l => have := mrg_len l c; simpa [merge] using this
def Sorted (l : List Pc) : Prop := ∀ i j, i < j → j < l.length → (l.getD i (0, 0)).1 ≤ (l.getD j (0, 0)).1
theorem Sorted.tail {p : Pc} {l : List Pc} (h : Sorted (p :: l)) : Sorted l := fun i j hij hj => by simpa using h (i + 1) (j + 1) (by omega) (by simpa using hj)
theorem Sorted.asc : ∀ {l : List Pc}, Sorted l → Asc l
 | [], _ => trivial
 | [_], _ => trivial
 | p :: q :: l, h => ⟨by simpa using h 0 1 (by omega) (by simp), h.tail.asc⟩
theorem merge_pcs (l d : List Pc) (hs : Sorted d) (hm : ∀ q, q ∈ d ↔ q ∈ raw l) : merge d = pcs l := by
 obtain ⟨h1, h2, h3⟩ := merge_nf hs.asc (fun q hq => raw_mem ((hm q).1 hq))
 exact pcs_uniq h1 fun p => by rw [h3, inP_mem hm, inP_raw]
def opn (f : Int → Bool) (c : List Int) : Nat → Bool
 | 0 => false
 | i + 1 => f (c.getD i 0)
def ext (Q : List Pc) (y : Int) : List Pc := match Q.getLast? with
 | none => Q
 | some q => Q.dropLast ++ [(q.1, y)]
end Go.Proofs.YtfkmajjgkdjncaaGreatDoor.Ru
