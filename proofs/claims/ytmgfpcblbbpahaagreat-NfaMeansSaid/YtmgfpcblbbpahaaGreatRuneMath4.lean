/- Sets of runes: what the loops do, step by step. No Go in sight. -/
import Derived.Test.YtmgfpcblbbpahaaGreatRuneMath3
set_option linter.unusedVariables false
set_option linter.unusedSimpArgs false
namespace Go.Proofs.YtmgfpcblbbpahaaGreat.Ru

/-! ### merging in a loop -/
theorem mrg_snoc : ∀ (l : List Pc) (c p : Pc), ∃ t q, mrg c l = t ++ [q] ∧ mrg c (l ++ [p]) = if p.1 ≤ q.2 then t ++ [(q.1, max q.2 p.2)] else t ++ [q, p]
  | [], c, p => ⟨[], c, rfl, by simp [mrg]⟩
  | r :: l, c, p => by
    by_cases h : r.1 ≤ c.2
    · obtain ⟨t, q, h1, h2⟩ := mrg_snoc l (c.1, max c.2 r.2) p
      exact ⟨t, q, by rw [mrg, if_pos h, h1], by rw [List.cons_append, mrg, if_pos h, h2]⟩
    · obtain ⟨t, q, h1, h2⟩ := mrg_snoc l r p
      refine ⟨c :: t, q, by rw [mrg, if_neg h, h1]; rfl, ?_⟩
      rw [List.cons_append, mrg, if_neg h, h2]
      split <;> rfl
theorem merge_snoc (l : List Pc) (p : Pc) (hl : l ≠ []) : ∃ t q, merge l = t ++ [q] ∧ merge (l ++ [p]) = if p.1 ≤ q.2 then t ++ [(q.1, max q.2 p.2)] else t ++ [q, p] := by
  cases l with
  | nil => exact absurd rfl hl
  | cons c l => exact mrg_snoc l c p
theorem mrg_len : ∀ (l : List Pc) (c : Pc), (mrg c l).length ≤ l.length + 1
  | [], c => by simp [mrg]
  | p :: l, c => by
    unfold mrg
    split
    · have := mrg_len l (c.1, max c.2 p.2); simp; omega
    · have := mrg_len l p; simp; omega
theorem merge_len (l : List Pc) : (merge l).length ≤ l.length := by
  cases l with
  | nil => simp [merge]
  | cons c l => have := mrg_len l c; simpa [merge] using this
/-- rising by the beginnings, place by place -/
def Sorted (l : List Pc) : Prop := ∀ i j, i < j → j < l.length → (l.getD i (0, 0)).1 ≤ (l.getD j (0, 0)).1
theorem Sorted.tail {p : Pc} {l : List Pc} (h : Sorted (p :: l)) : Sorted l := fun i j hij hj => by simpa using h (i + 1) (j + 1) (by omega) (by simpa using hj)
theorem Sorted.asc : ∀ {l : List Pc}, Sorted l → Asc l
  | [], _ => trivial
  | [_], _ => trivial
  | p :: q :: l, h => ⟨by simpa using h 0 1 (by omega) (by simp), h.tail.asc⟩
theorem Sorted.ascI : ∀ {l : List Pc}, Sorted l → AscI (l.map Prod.fst)
  | [], _ => trivial
  | [_], _ => trivial
  | p :: q :: l, h => ⟨by simpa using h 0 1 (by omega) (by simp), h.tail.ascI⟩
/-- whatever the sort made of the pieces, they merge to the normal form -/
theorem merge_pcs (l d : List Pc) (hs : Sorted d) (hm : ∀ q, q ∈ d ↔ q ∈ raw l) : merge d = pcs l := by
  obtain ⟨h1, h2, h3⟩ := merge_nf hs.asc (fun q hq => raw_mem ((hm q).1 hq))
  exact pcs_uniq h1 fun p => by rw [h3, inP_mem hm, inP_raw]
theorem sorted_sum (E : List Pc) (hs : Sorted E) (k : Nat) (hk : k + 1 < E.length) (hlt : (E.getD k (0, 0)).1 < (E.getD (k + 1) (0, 0)).1) : sumB (E.take (k + 1)) = bal E (E.getD k (0, 0)).1 := by
  apply sum_bal
  · intro e he
    obtain ⟨i, hi, rfl⟩ := List.getElem_of_mem he
    have hi' : i < k + 1 := by simp at hi; omega
    rw [List.getElem_take]
    have e1 : E[i]'(by omega) = E.getD i (0, 0) := by simp [List.getD, List.getElem?_eq_getElem (show i < E.length by omega)]
    rw [e1]
    by_cases h : i = k
    · subst h; omega
    · exact hs i k (by omega) (by omega)
  · intro e he
    obtain ⟨i, hi, rfl⟩ := List.getElem_of_mem he
    have hi' : k + 1 + i < E.length := by simp at hi; omega
    rw [List.getElem_drop]
    have e1 : E[k + 1 + i]'hi' = E.getD (k + 1 + i) (0, 0) := by simp [List.getD, List.getElem?_eq_getElem hi']
    rw [e1]
    by_cases h : i = 0
    · subst h; exact hlt
    · have := hs (k + 1) (k + 1 + i) (by omega) hi'; omega

/-! ### insertion by a search -/
theorem insD_at : ∀ (l : List Int) (x : Int) (k : Nat), k ≤ l.length → (∀ j, j < k → l.getD j 0 < x) → (k < l.length → x ≤ l.getD k 0) →
    insD x l = if k < l.length ∧ l.getD k 0 = x then l else l.take k ++ x :: l.drop k
  | [], x, k, hk, _, _ => by
    obtain rfl : k = 0 := by simpa using hk
    simp [insD]
  | y :: l, x, 0, _, _, h2 => by
    have := h2 (by simp)
    simp at this
    unfold insD
    by_cases e : x = y
    · subst e; simp
    · rw [if_pos (by omega)]
      have : ¬ y = x := fun h => e h.symm
      simp [this]
  | y :: l, x, k + 1, hk, h1, h2 => by
    have hy := h1 0 (by omega)
    simp at hy
    unfold insD
    rw [if_neg (by omega), if_neg (by omega), insD_at l x k (by simpa using hk) (fun j hj => by simpa using h1 (j + 1) (by omega)) (fun hk => by simpa using h2 (by simpa using hk))]
    by_cases h : k < l.length ∧ l.getD k 0 = x
    · rw [if_pos h, if_pos (by simpa using h)]
    · rw [if_neg h, if_neg (by simpa using h)]; simp

/-! ### runs -/
def opn (f : Int → Bool) (c : List Int) : Nat → Bool
  | 0 => false
  | i + 1 => f (c.getD i 0)
def ext (Q : List Pc) (y : Int) : List Pc := match Q.getLast? with
  | none => Q
  | some q => Q.dropLast ++ [(q.1, y)]
def runsT (f : Int → Bool) (c : List Int) : Nat → List Pc
  | 0 => []
  | i + 1 => if f (c.getD i 0) = true then (if opn f c i = true then ext (runsT f c i) (c.getD (i + 1) 0) else runsT f c i ++ [(c.getD i 0, c.getD (i + 1) 0)]) else runsT f c i
theorem ext_snoc (t : List Pc) (q : Pc) (y : Int) : ext (t ++ [q]) y = t ++ [(q.1, y)] := by simp [ext]
theorem Nf.snoc : ∀ {b : Int} {t : List Pc} {q : Pc}, Nf b (t ++ [q]) ↔ Nf b t ∧ b < q.1 ∧ q.1 < q.2 ∧ ∀ r ∈ t, r.2 < q.1
  | b, [], q => by simp [Nf]
  | b, r :: t, q => by
    simp only [List.cons_append, Nf, Nf.snoc, List.mem_cons]
    constructor
    · rintro ⟨h1, h2, h3, h4, h5, h6⟩
      exact ⟨⟨h1, h2, h3⟩, by omega, h5, fun s hs => by rcases hs with rfl | hs; exact h4; exact h6 s hs⟩
    · rintro ⟨⟨h1, h2, h3⟩, h4, h5, h6⟩
      exact ⟨h1, h2, h3, h6 r (.inl rfl), h5, fun s hs => h6 s (.inr hs)⟩
theorem Ris.get : ∀ {b : Int} {l : List Int}, Ris b l → ∀ i j, i < j → j < l.length → l.getD i 0 < l.getD j 0
  | b, [], _, i, j, _, hj => by simp at hj
  | b, x :: l, h, 0, j + 1, _, hj => by
    have hj' : j < l.length := by simpa using hj
    have := h.2.above (l.getD j 0) (by simp [List.getD, List.getElem?_eq_getElem hj'])
    simpa using this
  | b, x :: l, h, i + 1, j + 1, hij, hj => by simpa using Ris.get h.2 i j (by omega) (by simpa using hj)
/-- what lies in one of the first gaps that are wanted -/
def inG (f : Int → Bool) (c : List Int) (i : Nat) (p : Int) : Prop := ∃ j, j < i ∧ c.getD j 0 ≤ p ∧ p < c.getD (j + 1) 0 ∧ f (c.getD j 0) = true
theorem runs_all (f : Int → Bool) (c : List Int) (b : Int) (hc : Ris b c) : ∀ i, i < c.length →
    Nf b (runsT f c i) ∧ (∀ q ∈ runsT f c i, q.2 ≤ c.getD i 0) ∧ (opn f c i = true → ∃ t q, runsT f c i = t ++ [q] ∧ q.2 = c.getD i 0) ∧ (opn f c i = false → ∀ q ∈ runsT f c i, q.2 < c.getD i 0) ∧ ∀ p, inP (runsT f c i) p ↔ inG f c i p
  | 0, _ => by
    refine ⟨trivial, by simp [runsT], by simp [opn], by simp [runsT], fun p => ?_⟩
    simp [runsT, inP_nil, inG]
  | i + 1, hi => by
    obtain ⟨h1, h2, h3, h4, h5⟩ := runs_all f c b hc i (by omega)
    have hlt := hc.get i (i + 1) (by omega) hi
    have hbi := hc.above (c.getD i 0) (by simp [List.getD, List.getElem?_eq_getElem (show i < c.length by omega)])
    have hG : ∀ p, inG f c (i + 1) p ↔ inG f c i p ∨ (c.getD i 0 ≤ p ∧ p < c.getD (i + 1) 0 ∧ f (c.getD i 0) = true) := by
      intro p
      constructor
      · rintro ⟨j, hj, h⟩
        by_cases e : j = i
        · subst e; exact .inr h
        · exact .inl ⟨j, by omega, h⟩
      · rintro (⟨j, hj, h⟩ | h)
        · exact ⟨j, by omega, h⟩
        · exact ⟨i, by omega, h⟩
    by_cases hf : f (c.getD i 0) = true
    · by_cases ho : opn f c i = true
      · obtain ⟨t, q, e, hq⟩ := h3 ho
        have er : runsT f c (i + 1) = t ++ [(q.1, c.getD (i + 1) 0)] := by rw [runsT, if_pos hf, if_pos ho, e, ext_snoc]
        rw [er]
        rw [e] at h1 h2 h5
        obtain ⟨k1, k2, k3, k4⟩ := Nf.snoc.1 h1
        refine ⟨Nf.snoc.2 ⟨k1, k2, by show q.1 < _; omega, k4⟩, ?_, fun _ => ⟨t, _, rfl, rfl⟩, fun h => absurd (show f (c.getD i 0) = false from h) (by rw [hf]; decide), fun p => ?_⟩
        · intro r hr
          rcases List.mem_append.1 hr with hr | hr
          · have := h2 r (by simp [hr]); omega
          · simp at hr; subst hr; exact Int.le_refl _
        · rw [hG, ← h5, inP_append, inP_append, inP_cons, inP_cons]
          simp only [inP_nil, or_false, hf, and_true]
          constructor
          · rintro (h | h)
            · exact .inl (.inl h)
            · by_cases e2 : p < q.2
              · exact .inl (.inr ⟨h.1, e2⟩)
              · exact .inr ⟨by omega, h.2⟩
          · rintro ((h | h) | h)
            · exact .inl h
            · exact .inr ⟨h.1, by omega⟩
            · exact .inr ⟨by omega, h.2⟩
      · have ho' : opn f c i = false := by simpa using ho
        have er : runsT f c (i + 1) = runsT f c i ++ [(c.getD i 0, c.getD (i + 1) 0)] := by rw [runsT, if_pos hf, if_neg ho]
        rw [er]
        refine ⟨Nf.snoc.2 ⟨h1, hbi, hlt, h4 ho'⟩, ?_, fun _ => ⟨_, _, rfl, rfl⟩, fun h => absurd (show f (c.getD i 0) = false from h) (by rw [hf]; decide), fun p => ?_⟩
        · intro r hr
          rcases List.mem_append.1 hr with hr | hr
          · have := h2 r hr; omega
          · simp at hr; subst hr; exact Int.le_refl _
        · rw [hG, ← h5, inP_append, inP_cons]; simp only [inP_nil, or_false, hf, and_true]
    · have er : runsT f c (i + 1) = runsT f c i := by rw [runsT, if_neg hf]
      rw [er]
      refine ⟨h1, fun q hq => by have := h2 q hq; omega, fun h => absurd (show f (c.getD i 0) = true from h) hf, fun _ q hq => by have := h2 q hq; omega, fun p => ?_⟩
      rw [hG, h5]
      exact ⟨.inl, fun h => h.elim id fun h => absurd h.2.2 hf⟩
/-- whatever lies between the first cut and the last lies in a gap -/
theorem gap_of : ∀ (c : List Int) (n : Nat), n < c.length → ∀ p, c.getD 0 0 ≤ p → p < c.getD n 0 → ∃ j, j < n ∧ c.getD j 0 ≤ p ∧ p < c.getD (j + 1) 0
  | c, 0, _, p, h1, h2 => by omega
  | c, n + 1, hn, p, h1, h2 => by
    by_cases h : p < c.getD n 0
    · obtain ⟨j, hj, h3⟩ := gap_of c n (by omega) p h1 h
      exact ⟨j, by omega, h3⟩
    · exact ⟨n, by omega, by omega, h2⟩
/-- nothing of a is cut within a gap -/
theorem inB_gap {a : List Pc} {c : List Int} {b : Int} (hc : Ris b c) (hm : ∀ z ∈ ends a, z ∈ c) {j : Nat} (hj : j + 1 < c.length) {p : Int} (h1 : c.getD j 0 ≤ p) (h2 : p < c.getD (j + 1) 0) : inB a p = inB a (c.getD j 0) := by
  have key : ∀ z, z ∈ c → (z ≤ p ↔ z ≤ c.getD j 0) := by
    intro z hz
    obtain ⟨i, hi, rfl⟩ := List.getElem_of_mem hz
    have e : c[i] = c.getD i 0 := by simp [List.getD, List.getElem?_eq_getElem hi]
    rw [e]
    constructor
    · intro h
      by_cases h3 : i ≤ j
      · by_cases h4 : i = j
        · subst h4; omega
        · have := hc.get i j (by omega) (by omega); omega
      · by_cases h4 : i = j + 1
        · subst h4; omega
        · have := hc.get (j + 1) i (by omega) hi; omega
    · intro h; omega
  unfold inB
  rw [Bool.eq_iff_iff]
  simp only [List.any_eq_true, Bool.and_eq_true, decide_eq_true_eq]
  constructor
  · rintro ⟨q, hq, h3, h4⟩
    exact ⟨q, hq, (key q.1 (hm _ ((mem_ends _ _).2 ⟨q, hq, .inl rfl⟩))).1 h3, by have := key q.2 (hm _ ((mem_ends _ _).2 ⟨q, hq, .inr rfl⟩)); omega⟩
  · rintro ⟨q, hq, h3, h4⟩
    exact ⟨q, hq, (key q.1 (hm _ ((mem_ends _ _).2 ⟨q, hq, .inl rfl⟩))).2 h3, by have := key q.2 (hm _ ((mem_ends _ _).2 ⟨q, hq, .inr rfl⟩)); omega⟩

/-- the reference's cuts of two lists of pieces -/
def cut2 (a b : List Pc) : List Int := srtD (ends ((0, 1112064) :: (a ++ b)))
/-- what the reference picks -/
def pickP (f : Int → Bool) (a b : List Pc) : List Pc := runsT f (cut2 a b) ((cut2 a b).length - 1)
theorem ends_pos {a : List Pc} (h : ∀ q ∈ a, 0 ≤ q.1 ∧ q.1 < q.2 ∧ q.2 ≤ 1112064) : ∀ z ∈ ends a, -1 < z := fun z hz => by
  obtain ⟨q, hq, e⟩ := (mem_ends a z).1 hz
  have := h q hq; omega
theorem cut2_facts (a b : List Pc) (ha : ∀ q ∈ a, 0 ≤ q.1 ∧ q.1 < q.2 ∧ q.2 ≤ 1112064) (hb : ∀ q ∈ b, 0 ≤ q.1 ∧ q.1 < q.2 ∧ q.2 ≤ 1112064) :
    Ris (-1) (cut2 a b) ∧ (∀ z, z ∈ cut2 a b ↔ z = 0 ∨ z = 1112064 ∨ z ∈ ends a ∨ z ∈ ends b) ∧ 2 ≤ (cut2 a b).length ∧ (cut2 a b).getD 0 0 = 0 ∧ (cut2 a b).getD ((cut2 a b).length - 1) 0 = 1112064 := by
  have hall : ∀ q ∈ ((0, 1112064) :: (a ++ b) : List Pc), 0 ≤ q.1 ∧ q.1 < q.2 ∧ q.2 ≤ 1112064 := by
    intro q hq
    rcases List.mem_cons.1 hq with rfl | hq
    · simp
    · rcases List.mem_append.1 hq with hq | hq
      · exact ha q hq
      · exact hb q hq
  have hpos := ends_pos hall
  have hr : Ris (-1) (cut2 a b) := srtD_ris hpos
  have hmem : ∀ z, z ∈ cut2 a b ↔ z = 0 ∨ z = 1112064 ∨ z ∈ ends a ∨ z ∈ ends b := by
    intro z
    unfold cut2
    rw [mem_srtD hpos, mem_ends]
    rw [mem_ends, mem_ends]
    simp only [List.mem_cons, List.mem_append]
    constructor
    · rintro ⟨q, rfl | h | h, e⟩
      · rcases e with e | e
        · exact .inl e
        · exact .inr (.inl e)
      · exact .inr (.inr (.inl ⟨q, h, e⟩))
      · exact .inr (.inr (.inr ⟨q, h, e⟩))
    · rintro (e | e | ⟨q, h, e⟩ | ⟨q, h, e⟩)
      · exact ⟨_, .inl rfl, .inl e⟩
      · exact ⟨_, .inl rfl, .inr e⟩
      · exact ⟨q, .inr (.inl h), e⟩
      · exact ⟨q, .inr (.inr h), e⟩
  have hrange : ∀ z ∈ cut2 a b, 0 ≤ z ∧ z ≤ 1112064 := by
    intro z hz
    rcases (hmem z).1 hz with h | h | h | h
    · omega
    · omega
    · obtain ⟨q, hq, e⟩ := (mem_ends a z).1 h; have := ha q hq; omega
    · obtain ⟨q, hq, e⟩ := (mem_ends b z).1 h; have := hb q hq; omega
  obtain ⟨i, hi, ei⟩ := List.getElem_of_mem ((hmem 0).2 (.inl rfl))
  obtain ⟨k, hk, ek⟩ := List.getElem_of_mem ((hmem 1112064).2 (.inr (.inl rfl)))
  have gi : (cut2 a b).getD i 0 = 0 := by simp [List.getD, List.getElem?_eq_getElem hi, ei]
  have gk : (cut2 a b).getD k 0 = 1112064 := by simp [List.getD, List.getElem?_eq_getElem hk, ek]
  have hik : i ≠ k := fun h => by subst h; omega
  have hmemD : ∀ n, n < (cut2 a b).length → (cut2 a b).getD n 0 ∈ cut2 a b := fun n hn => by simp [List.getD, List.getElem?_eq_getElem hn]
  refine ⟨hr, hmem, by omega, ?_, ?_⟩
  · by_cases e : i = 0
    · subst e; exact gi
    · have := hr.get 0 i (by omega) hi
      have := (hrange _ (hmemD 0 (by omega))).1; omega
  · by_cases e : k = (cut2 a b).length - 1
    · rw [← e]; exact gk
    · have := hr.get k ((cut2 a b).length - 1) (by omega) (by omega)
      have := (hrange _ (hmemD ((cut2 a b).length - 1) (by omega))).2; omega
/-- what is picked is in normal form, and is just what was wanted -/
theorem pick_all (g : Bool → Bool → Bool) (a b : List Pc) (ha : ∀ q ∈ a, 0 ≤ q.1 ∧ q.1 < q.2 ∧ q.2 ≤ 1112064) (hb : ∀ q ∈ b, 0 ≤ q.1 ∧ q.1 < q.2 ∧ q.2 ≤ 1112064) :
    Nf (-1) (pickP (fun x => g (inB a x) (inB b x)) a b) ∧ ∀ p, inP (pickP (fun x => g (inB a x) (inB b x)) a b) p ↔ 0 ≤ p ∧ p < 1112064 ∧ g (inB a p) (inB b p) = true := by
  obtain ⟨h1, h2, h3, h4, h5⟩ := cut2_facts a b ha hb
  obtain ⟨k1, k2, _, _, k5⟩ := runs_all (fun x => g (inB a x) (inB b x)) (cut2 a b) (-1) h1 ((cut2 a b).length - 1) (by omega)
  refine ⟨k1, fun p => ?_⟩
  unfold pickP
  rw [k5]
  have hgap : ∀ j, j + 1 < (cut2 a b).length → (cut2 a b).getD j 0 ≤ p → p < (cut2 a b).getD (j + 1) 0 → inB a p = inB a ((cut2 a b).getD j 0) ∧ inB b p = inB b ((cut2 a b).getD j 0) :=
    fun j hj h6 h7 => ⟨inB_gap h1 (fun z hz => (h2 z).2 (.inr (.inr (.inl hz)))) hj h6 h7, inB_gap h1 (fun z hz => (h2 z).2 (.inr (.inr (.inr hz)))) hj h6 h7⟩
  constructor
  · rintro ⟨j, hj, h6, h7, h8⟩
    obtain ⟨e1, e2⟩ := hgap j (by omega) h6 h7
    refine ⟨?_, ?_, by rw [e1, e2]; exact h8⟩
    · by_cases e : j = 0
      · subst e; omega
      · have := h1.get 0 j (by omega) (by omega); omega
    · by_cases e : j + 1 = (cut2 a b).length - 1
      · rw [e] at h7; omega
      · have := h1.get (j + 1) ((cut2 a b).length - 1) (by omega) (by omega); omega
  · rintro ⟨h6, h7, h8⟩
    obtain ⟨j, hj, h9, h10⟩ := gap_of (cut2 a b) ((cut2 a b).length - 1) (by omega) p (by omega) (by omega)
    obtain ⟨e1, e2⟩ := hgap j (by omega) h9 h10
    exact ⟨j, hj, h9, h10, by show g _ _ = true; rw [← e1, ← e2]; exact h8⟩
end Go.Proofs.YtmgfpcblbbpahaaGreat.Ru
