/- Sets of runes: what the loops do, step by step. No Go in sight. -/
import Derived.Test.YtbanmggkfpnalaaGreatDoorRuneMath
set_option linter.unusedVariables false
set_option linter.unusedSimpArgs false
namespace Go.Proofs.YtbanmggkfpnalaaGreatDoor.Ru

def inB (P : List Pc) (p : Int) : Bool := P.any fun q => decide (q.1 ≤ p) && decide (p < q.2)
theorem inB_iff (P : List Pc) (p : Int) : inB P p = true ↔ inP P p := by simp [inB, inP]
def card (f : Int → Bool) : Nat → Int
  | 0 => 0
  | n + 1 => card f n + if f (n : Int) = true then 1 else 0
def okR (x : Pc) : Bool := decide (x.1 ≤ x.2) && (scal x.1 && scal x.2)
def mayB (l : List Pc) : Bool := (List.range l.length).all fun i => okR (l.getD i (0, 0)) && (decide (i = 0) || decide (plc (l.getD (i - 1) (0, 0)).2 + 1 < plc (l.getD i (0, 0)).1))
theorem mayB_iff (l : List Pc) : mayB l = true ↔ ∀ i, i < l.length → okR (l.getD i (0, 0)) = true ∧ (0 < i → plc (l.getD (i - 1) (0, 0)).2 + 1 < plc (l.getD i (0, 0)).1) := by
  unfold mayB
  simp only [List.all_eq_true, List.mem_range, Bool.and_eq_true, Bool.or_eq_true, decide_eq_true_eq]
  constructor
  · intro h i hi; refine ⟨(h i hi).1, fun h0 => ?_⟩
    rcases (h i hi).2 with h2 | h2
    · omega
    · exact h2
  · intro h i hi; refine ⟨(h i hi).1, ?_⟩
    by_cases h0 : i = 0
    · exact .inl h0
    · exact .inr ((h i hi).2 (by omega))
def Mr : Int → List Pc → Prop
  | _, [] => True
  | b, x :: l => okR x = true ∧ b < plc x.1 ∧ Mr (plc x.2 + 1) l
theorem mr_of : ∀ (l : List Pc) (b : Int), (∀ i, i < l.length → okR (l.getD i (0, 0)) = true ∧ (0 < i → plc (l.getD (i - 1) (0, 0)).2 + 1 < plc (l.getD i (0, 0)).1)) → (∀ x, l.head? = some x → b < plc x.1) → Mr b l
  | [], _, _, _ => trivial
  | x :: l, b, h, hb => by
    refine ⟨(h 0 (by simp)).1, hb x rfl, mr_of l _ (fun i hi => ?_) (fun y hy => ?_)⟩
    · have := h (i + 1) (by simp; omega)
      refine ⟨by simpa using this.1, fun h0 => ?_⟩
      have h2 := this.2 (by omega)
      obtain ⟨j, rfl⟩ : ∃ j, i = j + 1 := ⟨i - 1, by omega⟩
      simpa using h2
    · cases l with
      | nil => simp at hy
      | cons z l =>
        simp at hy; subst hy
        have := (h 1 (by simp)).2 (by omega)
        simpa using this
theorem of_mr : ∀ (l : List Pc) (b : Int), Mr b l → ∀ i, i < l.length → okR (l.getD i (0, 0)) = true ∧ (0 < i → plc (l.getD (i - 1) (0, 0)).2 + 1 < plc (l.getD i (0, 0)).1)
  | [], _, _, i, hi => by simp at hi
  | x :: l, b, h, 0, _ => ⟨by simpa using h.1, fun h => absurd h (by omega)⟩
  | x :: l, b, h, i + 1, hi => by
    have ih := of_mr l _ h.2.2 i (by simpa using hi)
    refine ⟨by simpa using ih.1, fun _ => ?_⟩
    cases i with
    | zero =>
      cases l with
      | nil => simp at hi
      | cons y l => simpa using h.2.2.2.1
    | succ j => simpa using ih.2 (by omega)
theorem okR_iff (x : Pc) : okR x = true ↔ x.1 ≤ x.2 ∧ scal x.1 = true ∧ scal x.2 = true := by simp [okR]
theorem plc_mono {a b : Int} (h : a ≤ b) : plc a ≤ plc b := by unfold plc; repeat' split <;> omega
theorem nf_mr : ∀ (l : List Pc) (b : Int), Mr b l → Nf b (l.map pcOf) ∧ Bd (l.map pcOf) ∧ rngs (l.map pcOf) = l
  | [], _, _ => ⟨trivial, by simp [Bd], rfl⟩
  | x :: l, b, h => by
    obtain ⟨h1, h2, h3⟩ := (okR_iff x).1 h.1
    obtain ⟨i1, i2, i3⟩ := nf_mr l _ h.2.2
    have e : pcOf x = (plc x.1, plc x.2 + 1) := by unfold pcOf; rw [if_pos h3]
    have hp := plc_scal h3
    have hm := plc_mono h1
    simp only [List.map_cons, e]
    refine ⟨⟨h.2.1, by omega, i1⟩, ?_, ?_⟩
    · intro q hq
      rcases List.mem_cons.1 hq with rfl | hq
      · simp; omega
      · exact i2 q hq
    · have i3' : rngs ((plc x.1, plc x.2 + 1) :: l.map pcOf) = (vlu (plc x.1), vlu (plc x.2 + 1 - 1)) :: rngs (l.map pcOf) := rfl
      rw [i3', i3, vlu_plc h2, show plc x.2 + 1 - 1 = plc x.2 by omega, vlu_plc h3]
theorem mr_nf : ∀ (P : List Pc) (b : Int), -1 ≤ b → Nf b P → Bd P → Mr b (rngs P)
  | [], _, _, _, _ => trivial
  | q :: P, b, hb, h, h2 => by
    have hq := h2 q (by simp)
    have h1 := h.1
    have h3 := h.2.1
    have ih := mr_nf P q.2 (by omega) h.2.2 (fun r hr => h2 r (by simp [hr]))
    refine ⟨(okR_iff _).2 ⟨vlu_mono.1 (by omega), scal_vlu (by omega) (by omega), scal_vlu (by omega) (by omega)⟩, ?_, ?_⟩
    · show b < plc (vlu q.1); rw [plc_vlu (by omega) (by omega)]; exact h1
    · show Mr (plc (vlu (q.2 - 1)) + 1) (rngs P)
      rw [plc_vlu (by omega) (by omega), show q.2 - 1 + 1 = q.2 by omega]; exact ih
theorem may_nrm (l : List Pc) : mayB l = true ↔ l = nrm l := by
  rw [mayB_iff]
  constructor
  · intro h
    have hm := mr_of l (-1) h (fun x _ => by have := plc_range x.1; omega)
    obtain ⟨h1, h2, h3⟩ := nf_mr l _ hm
    have : l.map pcOf = pcs l := pcs_uniq h1 fun p => Iff.rfl
    unfold nrm; rw [← this, h3]
  · intro h
    rw [h]
    exact of_mr _ (-1) (mr_nf _ _ (by omega) (pcs_nf l) (pcs_bd l))
theorem may_eq (l : List Pc) : mayB l = decide (l = nrm l) := by rw [Bool.eq_iff_iff, may_nrm]; simp
end Go.Proofs.YtbanmggkfpnalaaGreatDoor.Ru

namespace Go.Proofs.YtbanmggkfpnalaaGreatDoor.Ru

def Ris : Int → List Int → Prop
  | _, [] => True
  | b, x :: l => b < x ∧ Ris x l
theorem Ris.above : ∀ {b : Int} {l : List Int}, Ris b l → ∀ x ∈ l, b < x
  | b, [], _, x, hx => by simp at hx
  | b, y :: l, h, x, hx => by
    rcases List.mem_cons.1 hx with rfl | hx
    · exact h.1
    · have := Ris.above h.2 x hx; have := h.1; omega
theorem Ris.uniq : ∀ {a b : Int} {l m : List Int}, Ris a l → Ris b m → (∀ x, x ∈ l ↔ x ∈ m) → l = m
  | _, _, [], [], _, _, _ => rfl
  | _, _, [], y :: m, _, _, h => by have := (h y).2 (by simp); simp at this
  | _, _, x :: l, [], _, _, h => by have := (h x).1 (by simp); simp at this
  | _, _, x :: l, y :: m, hl, hm, h => by
    have k1 : y ≤ x := by
      rcases List.mem_cons.1 ((h x).1 (by simp)) with k | k
      · omega
      · have := hm.2.above x k; omega
    have k2 : x ≤ y := by
      rcases List.mem_cons.1 ((h y).2 (by simp)) with k | k
      · omega
      · have := hl.2.above y k; omega
    obtain rfl : x = y := by omega
    rw [Ris.uniq hl.2 hm.2 (by
      intro z
      constructor
      · intro hz
        rcases List.mem_cons.1 ((h z).1 (by simp [hz])) with k | k
        · have := hl.2.above z hz; omega
        · exact k
      · intro hz
        rcases List.mem_cons.1 ((h z).2 (by simp [hz])) with k | k
        · have := hm.2.above z hz; omega
        · exact k)]
def insD (x : Int) : List Int → List Int
  | [] => [x]
  | y :: l => if x < y then x :: y :: l else if x = y then y :: l else y :: insD x l
def srtD (l : List Int) : List Int := l.foldl (fun s x => insD x s) []
theorem mem_insD (x z : Int) : ∀ l, z ∈ insD x l ↔ z = x ∨ z ∈ l
  | [] => by simp [insD]
  | y :: l => by
    unfold insD
    split
    · simp
    · split
      · rename_i h; subst h; simp
      · simp only [List.mem_cons, mem_insD x z l]
        constructor
        · rintro (h | h | h) <;> simp [h]
        · rintro (h | h | h) <;> simp [h]
theorem ris_insD (x : Int) : ∀ (l : List Int) (b : Int), b < x → Ris b l → Ris b (insD x l)
  | [], b, h, _ => ⟨h, trivial⟩
  | y :: l, b, h, hl => by
    unfold insD
    split
    · exact ⟨h, by assumption, hl.2⟩
    · split
      · exact hl
      · exact ⟨hl.1, ris_insD x l y (by omega) hl.2⟩
theorem srtD_all : ∀ (l s : List Int) (b : Int), Ris b s → (∀ x ∈ l, b < x) → Ris b (l.foldl (fun s x => insD x s) s) ∧ ∀ z, z ∈ l.foldl (fun s x => insD x s) s ↔ z ∈ l ∨ z ∈ s
  | [], s, b, h, _ => ⟨h, by simp⟩
  | x :: l, s, b, h, h2 => by
    obtain ⟨h3, h4⟩ := srtD_all l (insD x s) b (ris_insD x s b (h2 x (by simp)) h) (fun y hy => h2 y (by simp [hy]))
    refine ⟨h3, fun z => ?_⟩
    rw [List.foldl_cons, h4, mem_insD]
    simp only [List.mem_cons]
    constructor
    · rintro (h | h | h) <;> simp [h]
    · rintro ((h | h) | h) <;> simp [h]
theorem srtD_ris {l : List Int} {b : Int} (h : ∀ x ∈ l, b < x) : Ris b (srtD l) := (srtD_all l [] b trivial h).1
theorem mem_srtD {l : List Int} {b : Int} (h : ∀ x ∈ l, b < x) (z : Int) : z ∈ srtD l ↔ z ∈ l := by rw [show srtD l = l.foldl (fun s x => insD x s) [] from rfl, (srtD_all l [] b trivial h).2]; simp

def ends : List Pc → List Int
  | [] => []
  | q :: P => q.1 :: q.2 :: ends P
theorem mem_ends : ∀ (P : List Pc) (z : Int), z ∈ ends P ↔ ∃ q ∈ P, z = q.1 ∨ z = q.2
  | [], z => by simp [ends]
  | q :: P, z => by simp only [ends, List.mem_cons, mem_ends P z]; simp [or_assoc]
theorem take_one {α} (l : List α) (d : α) (k : Nat) (h : k < l.length) : l.take (k + 1) = l.take k ++ [l.getD k d] := by
  rw [List.take_succ_eq_append_getElem h]
  simp [List.getD, List.getElem?_eq_getElem h]
end Go.Proofs.YtbanmggkfpnalaaGreatDoor.Ru

namespace Go.Proofs.YtbanmggkfpnalaaGreatDoor.Ru

/-! ### merging in a loop -/
theorem mrg_len : ∀ (l : List Pc) (c : Pc), (mrg c l).length ≤ l.length + 1
  | [], c => by simp [mrg]
  | p :: l, c => by
    unfold mrg
    split
    · have := mrg_len l (c.1, max c.2 p.2); simp; omega
    · have := mrg_len l p; simp; omega
theorem merge_len (l : List Pc) : (merge l).length ≤ l.length := by
  cases l with
  | nil => simp [merge]
  | cons c l => have := mrg_len l c; simpa [merge] using this
/-! ### insertion by a search -/
theorem insD_at : ∀ (l : List Int) (x : Int) (k : Nat), k ≤ l.length → (∀ j, j < k → l.getD j 0 < x) → (k < l.length → x ≤ l.getD k 0) →
    insD x l = if k < l.length ∧ l.getD k 0 = x then l else l.take k ++ x :: l.drop k
  | [], x, k, hk, _, _ => by
    obtain rfl : k = 0 := by simpa using hk
    simp [insD]
  | y :: l, x, 0, _, _, h2 => by
    have := h2 (by simp)
    simp at this
    unfold insD
    by_cases e : x = y
    · subst e; simp
    · rw [if_pos (by omega)]
      have : ¬ y = x := fun h => e h.symm
      simp [this]
  | y :: l, x, k + 1, hk, h1, h2 => by
    have hy := h1 0 (by omega)
    simp at hy
    unfold insD
    rw [if_neg (by omega), if_neg (by omega), insD_at l x k (by simpa using hk) (fun j hj => by simpa using h1 (j + 1) (by omega)) (fun hk => by simpa using h2 (by simpa using hk))]
    by_cases h : k < l.length ∧ l.getD k 0 = x
    · rw [if_pos h, if_pos (by simpa using h)]
    · rw [if_neg h, if_neg (by simpa using h)]; simp

/-! ### runs -/
def opn (f : Int → Bool) (c : List Int) : Nat → Bool
  | 0 => false
  | i + 1 => f (c.getD i 0)
def ext (Q : List Pc) (y : Int) : List Pc := match Q.getLast? with
  | none => Q
  | some q => Q.dropLast ++ [(q.1, y)]
def runsT (f : Int → Bool) (c : List Int) : Nat → List Pc
  | 0 => []
  | i + 1 => if f (c.getD i 0) = true then (if opn f c i = true then ext (runsT f c i) (c.getD (i + 1) 0) else runsT f c i ++ [(c.getD i 0, c.getD (i + 1) 0)]) else runsT f c i
theorem ext_snoc (t : List Pc) (q : Pc) (y : Int) : ext (t ++ [q]) y = t ++ [(q.1, y)] := by simp [ext]
theorem Nf.snoc : ∀ {b : Int} {t : List Pc} {q : Pc}, Nf b (t ++ [q]) ↔ Nf b t ∧ b < q.1 ∧ q.1 < q.2 ∧ ∀ r ∈ t, r.2 < q.1
  | b, [], q => by simp [Nf]
  | b, r :: t, q => by
    simp only [List.cons_append, Nf, Nf.snoc, List.mem_cons]
    constructor
    · rintro ⟨h1, h2, h3, h4, h5, h6⟩
      exact ⟨⟨h1, h2, h3⟩, by omega, h5, fun s hs => by rcases hs with rfl | hs; exact h4; exact h6 s hs⟩
    · rintro ⟨⟨h1, h2, h3⟩, h4, h5, h6⟩
      exact ⟨h1, h2, h3, h6 r (.inl rfl), h5, fun s hs => h6 s (.inr hs)⟩
theorem Ris.get : ∀ {b : Int} {l : List Int}, Ris b l → ∀ i j, i < j → j < l.length → l.getD i 0 < l.getD j 0
  | b, [], _, i, j, _, hj => by simp at hj
  | b, x :: l, h, 0, j + 1, _, hj => by
    have hj' : j < l.length := by simpa using hj
    have := h.2.above (l.getD j 0) (by simp [List.getD, List.getElem?_eq_getElem hj'])
    simpa using this
  | b, x :: l, h, i + 1, j + 1, hij, hj => by simpa using Ris.get h.2 i j (by omega) (by simpa using hj)
def inG (f : Int → Bool) (c : List Int) (i : Nat) (p : Int) : Prop := ∃ j, j < i ∧ c.getD j 0 ≤ p ∧ p < c.getD (j + 1) 0 ∧ f (c.getD j 0) = true
theorem runs_all (f : Int → Bool) (c : List Int) (b : Int) (hc : Ris b c) : ∀ i, i < c.length →
    Nf b (runsT f c i) ∧ (∀ q ∈ runsT f c i, q.2 ≤ c.getD i 0) ∧ (opn f c i = true → ∃ t q, runsT f c i = t ++ [q] ∧ q.2 = c.getD i 0) ∧ (opn f c i = false → ∀ q ∈ runsT f c i, q.2 < c.getD i 0) ∧ ∀ p, inP (runsT f c i) p ↔ inG f c i p
  | 0, _ => by
    refine ⟨trivial, by simp [runsT], by simp [opn], by simp [runsT], fun p => ?_⟩
    simp [runsT, inP_nil, inG]
  | i + 1, hi => by
    obtain ⟨h1, h2, h3, h4, h5⟩ := runs_all f c b hc i (by omega)
    have hlt := hc.get i (i + 1) (by omega) hi
    have hbi := hc.above (c.getD i 0) (by simp [List.getD, List.getElem?_eq_getElem (show i < c.length by omega)])
    have hG : ∀ p, inG f c (i + 1) p ↔ inG f c i p ∨ (c.getD i 0 ≤ p ∧ p < c.getD (i + 1) 0 ∧ f (c.getD i 0) = true) := by
      intro p
      constructor
      · rintro ⟨j, hj, h⟩
        by_cases e : j = i
        · subst e; exact .inr h
        · exact .inl ⟨j, by omega, h⟩
      · rintro (⟨j, hj, h⟩ | h)
        · exact ⟨j, by omega, h⟩
        · exact ⟨i, by omega, h⟩
    by_cases hf : f (c.getD i 0) = true
    · by_cases ho : opn f c i = true
      · obtain ⟨t, q, e, hq⟩ := h3 ho
        have er : runsT f c (i + 1) = t ++ [(q.1, c.getD (i + 1) 0)] := by rw [runsT, if_pos hf, if_pos ho, e, ext_snoc]
        rw [er]
        rw [e] at h1 h2 h5
        obtain ⟨k1, k2, k3, k4⟩ := Nf.snoc.1 h1
        refine ⟨Nf.snoc.2 ⟨k1, k2, by show q.1 < _; omega, k4⟩, ?_, fun _ => ⟨t, _, rfl, rfl⟩, fun h => absurd (show f (c.getD i 0) = false from h) (by rw [hf]; decide), fun p => ?_⟩
        · intro r hr
          rcases List.mem_append.1 hr with hr | hr
          · have := h2 r (by simp [hr]); omega
          · simp at hr; subst hr; exact Int.le_refl _
        · rw [hG, ← h5, inP_append, inP_append, inP_cons, inP_cons]
          simp only [inP_nil, or_false, hf, and_true]
          constructor
          · rintro (h | h)
            · exact .inl (.inl h)
            · by_cases e2 : p < q.2
              · exact .inl (.inr ⟨h.1, e2⟩)
              · exact .inr ⟨by omega, h.2⟩
          · rintro ((h | h) | h)
            · exact .inl h
            · exact .inr ⟨h.1, by omega⟩
            · exact .inr ⟨by omega, h.2⟩
      · have ho' : opn f c i = false := by simpa using ho
        have er : runsT f c (i + 1) = runsT f c i ++ [(c.getD i 0, c.getD (i + 1) 0)] := by rw [runsT, if_pos hf, if_neg ho]
        rw [er]
        refine ⟨Nf.snoc.2 ⟨h1, hbi, hlt, h4 ho'⟩, ?_, fun _ => ⟨_, _, rfl, rfl⟩, fun h => absurd (show f (c.getD i 0) = false from h) (by rw [hf]; decide), fun p => ?_⟩
        · intro r hr
          rcases List.mem_append.1 hr with hr | hr
          · have := h2 r hr; omega
          · simp at hr; subst hr; exact Int.le_refl _
        · rw [hG, ← h5, inP_append, inP_cons]; simp only [inP_nil, or_false, hf, and_true]
    · have er : runsT f c (i + 1) = runsT f c i := by rw [runsT, if_neg hf]
      rw [er]
      refine ⟨h1, fun q hq => by have := h2 q hq; omega, fun h => absurd (show f (c.getD i 0) = true from h) hf, fun _ q hq => by have := h2 q hq; omega, fun p => ?_⟩
      rw [hG, h5]
      exact ⟨.inl, fun h => h.elim id fun h => absurd h.2.2 hf⟩
theorem gap_of : ∀ (c : List Int) (n : Nat), n < c.length → ∀ p, c.getD 0 0 ≤ p → p < c.getD n 0 → ∃ j, j < n ∧ c.getD j 0 ≤ p ∧ p < c.getD (j + 1) 0
  | c, 0, _, p, h1, h2 => by omega
  | c, n + 1, hn, p, h1, h2 => by
    by_cases h : p < c.getD n 0
    · obtain ⟨j, hj, h3⟩ := gap_of c n (by omega) p h1 h
      exact ⟨j, by omega, h3⟩
    · exact ⟨n, by omega, by omega, h2⟩
theorem inB_gap {a : List Pc} {c : List Int} {b : Int} (hc : Ris b c) (hm : ∀ z ∈ ends a, z ∈ c) {j : Nat} (hj : j + 1 < c.length) {p : Int} (h1 : c.getD j 0 ≤ p) (h2 : p < c.getD (j + 1) 0) : inB a p = inB a (c.getD j 0) := by
  have key : ∀ z, z ∈ c → (z ≤ p ↔ z ≤ c.getD j 0) := by
    intro z hz
    obtain ⟨i, hi, rfl⟩ := List.getElem_of_mem hz
    have e : c[i] = c.getD i 0 := by simp [List.getD, List.getElem?_eq_getElem hi]
    rw [e]
    constructor
    · intro h
      by_cases h3 : i ≤ j
      · by_cases h4 : i = j
        · subst h4; omega
        · have := hc.get i j (by omega) (by omega); omega
      · by_cases h4 : i = j + 1
        · subst h4; omega
        · have := hc.get (j + 1) i (by omega) hi; omega
    · intro h; omega
  unfold inB
  rw [Bool.eq_iff_iff]
  simp only [List.any_eq_true, Bool.and_eq_true, decide_eq_true_eq]
  constructor
  · rintro ⟨q, hq, h3, h4⟩
    exact ⟨q, hq, (key q.1 (hm _ ((mem_ends _ _).2 ⟨q, hq, .inl rfl⟩))).1 h3, by have := key q.2 (hm _ ((mem_ends _ _).2 ⟨q, hq, .inr rfl⟩)); omega⟩
  · rintro ⟨q, hq, h3, h4⟩
    exact ⟨q, hq, (key q.1 (hm _ ((mem_ends _ _).2 ⟨q, hq, .inl rfl⟩))).2 h3, by have := key q.2 (hm _ ((mem_ends _ _).2 ⟨q, hq, .inr rfl⟩)); omega⟩

def cut2 (a b : List Pc) : List Int := srtD (ends ((0, 1112064) :: (a ++ b)))
def pickP (f : Int → Bool) (a b : List Pc) : List Pc := runsT f (cut2 a b) ((cut2 a b).length - 1)
theorem ends_pos {a : List Pc} (h : ∀ q ∈ a, 0 ≤ q.1 ∧ q.1 < q.2 ∧ q.2 ≤ 1112064) : ∀ z ∈ ends a, -1 < z := fun z hz => by
  obtain ⟨q, hq, e⟩ := (mem_ends a z).1 hz
  have := h q hq; omega
theorem cut2_facts (a b : List Pc) (ha : ∀ q ∈ a, 0 ≤ q.1 ∧ q.1 < q.2 ∧ q.2 ≤ 1112064) (hb : ∀ q ∈ b, 0 ≤ q.1 ∧ q.1 < q.2 ∧ q.2 ≤ 1112064) :
    Ris (-1) (cut2 a b) ∧ (∀ z, z ∈ cut2 a b ↔ z = 0 ∨ z = 1112064 ∨ z ∈ ends a ∨ z ∈ ends b) ∧ 2 ≤ (cut2 a b).length ∧ (cut2 a b).getD 0 0 = 0 ∧ (cut2 a b).getD ((cut2 a b).length - 1) 0 = 1112064 := by
  have hall : ∀ q ∈ ((0, 1112064) :: (a ++ b) : List Pc), 0 ≤ q.1 ∧ q.1 < q.2 ∧ q.2 ≤ 1112064 := by
    intro q hq
    rcases List.mem_cons.1 hq with rfl | hq
    · simp
    · rcases List.mem_append.1 hq with hq | hq
      · exact ha q hq
      · exact hb q hq
  have hpos := ends_pos hall
  have hr : Ris (-1) (cut2 a b) := srtD_ris hpos
  have hmem : ∀ z, z ∈ cut2 a b ↔ z = 0 ∨ z = 1112064 ∨ z ∈ ends a ∨ z ∈ ends b := by
    intro z
    unfold cut2
    rw [mem_srtD hpos, mem_ends]
    rw [mem_ends, mem_ends]
    simp only [List.mem_cons, List.mem_append]
    constructor
    · rintro ⟨q, rfl | h | h, e⟩
      · rcases e with e | e
        · exact .inl e
        · exact .inr (.inl e)
      · exact .inr (.inr (.inl ⟨q, h, e⟩))
      · exact .inr (.inr (.inr ⟨q, h, e⟩))
    · rintro (e | e | ⟨q, h, e⟩ | ⟨q, h, e⟩)
      · exact ⟨_, .inl rfl, .inl e⟩
      · exact ⟨_, .inl rfl, .inr e⟩
      · exact ⟨q, .inr (.inl h), e⟩
      · exact ⟨q, .inr (.inr h), e⟩
  have hrange : ∀ z ∈ cut2 a b, 0 ≤ z ∧ z ≤ 1112064 := by
    intro z hz
    rcases (hmem z).1 hz with h | h | h | h
    · omega
    · omega
    · obtain ⟨q, hq, e⟩ := (mem_ends a z).1 h; have := ha q hq; omega
    · obtain ⟨q, hq, e⟩ := (mem_ends b z).1 h; have := hb q hq; omega
  obtain ⟨i, hi, ei⟩ := List.getElem_of_mem ((hmem 0).2 (.inl rfl))
  obtain ⟨k, hk, ek⟩ := List.getElem_of_mem ((hmem 1112064).2 (.inr (.inl rfl)))
  have gi : (cut2 a b).getD i 0 = 0 := by simp [List.getD, List.getElem?_eq_getElem hi, ei]
  have gk : (cut2 a b).getD k 0 = 1112064 := by simp [List.getD, List.getElem?_eq_getElem hk, ek]
  have hik : i ≠ k := fun h => by subst h; omega
  have hmemD : ∀ n, n < (cut2 a b).length → (cut2 a b).getD n 0 ∈ cut2 a b := fun n hn => by simp [List.getD, List.getElem?_eq_getElem hn]
  refine ⟨hr, hmem, by omega, ?_, ?_⟩
  · by_cases e : i = 0
    · subst e; exact gi
    · have := hr.get 0 i (by omega) hi
      have := (hrange _ (hmemD 0 (by omega))).1; omega
  · by_cases e : k = (cut2 a b).length - 1
    · rw [← e]; exact gk
    · have := hr.get k ((cut2 a b).length - 1) (by omega) (by omega)
      have := (hrange _ (hmemD ((cut2 a b).length - 1) (by omega))).2; omega
theorem pick_all (g : Bool → Bool → Bool) (a b : List Pc) (ha : ∀ q ∈ a, 0 ≤ q.1 ∧ q.1 < q.2 ∧ q.2 ≤ 1112064) (hb : ∀ q ∈ b, 0 ≤ q.1 ∧ q.1 < q.2 ∧ q.2 ≤ 1112064) :
    Nf (-1) (pickP (fun x => g (inB a x) (inB b x)) a b) ∧ ∀ p, inP (pickP (fun x => g (inB a x) (inB b x)) a b) p ↔ 0 ≤ p ∧ p < 1112064 ∧ g (inB a p) (inB b p) = true := by
  obtain ⟨h1, h2, h3, h4, h5⟩ := cut2_facts a b ha hb
  obtain ⟨k1, k2, _, _, k5⟩ := runs_all (fun x => g (inB a x) (inB b x)) (cut2 a b) (-1) h1 ((cut2 a b).length - 1) (by omega)
  refine ⟨k1, fun p => ?_⟩
  unfold pickP
  rw [k5]
  have hgap : ∀ j, j + 1 < (cut2 a b).length → (cut2 a b).getD j 0 ≤ p → p < (cut2 a b).getD (j + 1) 0 → inB a p = inB a ((cut2 a b).getD j 0) ∧ inB b p = inB b ((cut2 a b).getD j 0) :=
    fun j hj h6 h7 => ⟨inB_gap h1 (fun z hz => (h2 z).2 (.inr (.inr (.inl hz)))) hj h6 h7, inB_gap h1 (fun z hz => (h2 z).2 (.inr (.inr (.inr hz)))) hj h6 h7⟩
  constructor
  · rintro ⟨j, hj, h6, h7, h8⟩
    obtain ⟨e1, e2⟩ := hgap j (by omega) h6 h7
    refine ⟨?_, ?_, by rw [e1, e2]; exact h8⟩
    · by_cases e : j = 0
      · subst e; omega
      · have := h1.get 0 j (by omega) (by omega); omega
    · by_cases e : j + 1 = (cut2 a b).length - 1
      · rw [e] at h7; omega
      · have := h1.get (j + 1) ((cut2 a b).length - 1) (by omega) (by omega); omega
  · rintro ⟨h6, h7, h8⟩
    obtain ⟨j, hj, h9, h10⟩ := gap_of (cut2 a b) ((cut2 a b).length - 1) (by omega) p (by omega) (by omega)
    obtain ⟨e1, e2⟩ := hgap j (by omega) h9 h10
    exact ⟨j, hj, h9, h10, by show g _ _ = true; rw [← e1, ← e2]; exact h8⟩
end Go.Proofs.YtbanmggkfpnalaaGreatDoor.Ru
