/- Sets of runes: cells between cuts, and runs of places. No Go in sight. -/
import Derived.Test.YtmgfpcblbbpahaaGreatRuneMath
set_option linter.unusedVariables false
set_option linter.unusedSimpArgs false
namespace Go.Proofs.YtmgfpcblbbpahaaGreat.Ru

def inB (P : List Pc) (p : Int) : Bool := P.any fun q => decide (q.1 ≤ p) && decide (p < q.2)
theorem inB_iff (P : List Pc) (p : Int) : inB P p = true ↔ inP P p := by simp [inB, inP]
theorem inB_cons (q : Pc) (P : List Pc) (p : Int) : inB (q :: P) p = ((decide (q.1 ≤ p) && decide (p < q.2)) || inB P p) := by simp [inB]
def okR (x : Pc) : Bool := decide (x.1 ≤ x.2) && (scal x.1 && scal x.2)
def mayB (l : List Pc) : Bool := (List.range l.length).all fun i => okR (l.getD i (0, 0)) && (decide (i = 0) || decide (plc (l.getD (i - 1) (0, 0)).2 + 1 < plc (l.getD i (0, 0)).1))
theorem mayB_iff (l : List Pc) : mayB l = true ↔ ∀ i, i < l.length → okR (l.getD i (0, 0)) = true ∧ (0 < i → plc (l.getD (i - 1) (0, 0)).2 + 1 < plc (l.getD i (0, 0)).1) := by
  unfold mayB
  simp only [List.all_eq_true, List.mem_range, Bool.and_eq_true, Bool.or_eq_true, decide_eq_true_eq]
  constructor
  · intro h i hi; refine ⟨(h i hi).1, fun h0 => ?_⟩
    rcases (h i hi).2 with h2 | h2
    · omega
    · exact h2
  · intro h i hi; refine ⟨(h i hi).1, ?_⟩
    by_cases h0 : i = 0
    · exact .inl h0
    · exact .inr ((h i hi).2 (by omega))
def Mr : Int → List Pc → Prop
  | _, [] => True
  | b, x :: l => okR x = true ∧ b < plc x.1 ∧ Mr (plc x.2 + 1) l
theorem mr_of : ∀ (l : List Pc) (b : Int), (∀ i, i < l.length → okR (l.getD i (0, 0)) = true ∧ (0 < i → plc (l.getD (i - 1) (0, 0)).2 + 1 < plc (l.getD i (0, 0)).1)) → (∀ x, l.head? = some x → b < plc x.1) → Mr b l
  | [], _, _, _ => trivial
  | x :: l, b, h, hb => by
    refine ⟨(h 0 (by simp)).1, hb x rfl, mr_of l _ (fun i hi => ?_) (fun y hy => ?_)⟩
    · have := h (i + 1) (by simp; omega)
      refine ⟨by simpa using this.1, fun h0 => ?_⟩
      have h2 := this.2 (by omega)
      obtain ⟨j, rfl⟩ : ∃ j, i = j + 1 := ⟨i - 1, by omega⟩
      simpa using h2
    · cases l with
      | nil => simp at hy
      | cons z l =>
        simp at hy; subst hy
        have := (h 1 (by simp)).2 (by omega)
        simpa using this
theorem of_mr : ∀ (l : List Pc) (b : Int), Mr b l → ∀ i, i < l.length → okR (l.getD i (0, 0)) = true ∧ (0 < i → plc (l.getD (i - 1) (0, 0)).2 + 1 < plc (l.getD i (0, 0)).1)
  | [], _, _, i, hi => by simp at hi
  | x :: l, b, h, 0, _ => ⟨by simpa using h.1, fun h => absurd h (by omega)⟩
  | x :: l, b, h, i + 1, hi => by
    have ih := of_mr l _ h.2.2 i (by simpa using hi)
    refine ⟨by simpa using ih.1, fun _ => ?_⟩
    cases i with
    | zero =>
      cases l with
      | nil => simp at hi
      | cons y l => simpa using h.2.2.2.1
    | succ j => simpa using ih.2 (by omega)
theorem okR_iff (x : Pc) : okR x = true ↔ x.1 ≤ x.2 ∧ scal x.1 = true ∧ scal x.2 = true := by simp [okR]
theorem plc_mono {a b : Int} (h : a ≤ b) : plc a ≤ plc b := by unfold plc; repeat' split <;> omega
theorem nf_mr : ∀ (l : List Pc) (b : Int), Mr b l → Nf b (l.map pcOf) ∧ Bd (l.map pcOf) ∧ rngs (l.map pcOf) = l
  | [], _, _ => ⟨trivial, by simp [Bd], rfl⟩
  | x :: l, b, h => by
    obtain ⟨h1, h2, h3⟩ := (okR_iff x).1 h.1
    obtain ⟨i1, i2, i3⟩ := nf_mr l _ h.2.2
    have e : pcOf x = (plc x.1, plc x.2 + 1) := by unfold pcOf; rw [if_pos h3]
    have hp := plc_scal h3
    have hm := plc_mono h1
    simp only [List.map_cons, e]
    refine ⟨⟨h.2.1, by omega, i1⟩, ?_, ?_⟩
    · intro q hq
      rcases List.mem_cons.1 hq with rfl | hq
      · simp; omega
      · exact i2 q hq
    · have i3' : rngs ((plc x.1, plc x.2 + 1) :: l.map pcOf) = (vlu (plc x.1), vlu (plc x.2 + 1 - 1)) :: rngs (l.map pcOf) := rfl
      rw [i3', i3, vlu_plc h2, show plc x.2 + 1 - 1 = plc x.2 by omega, vlu_plc h3]
theorem mr_nf : ∀ (P : List Pc) (b : Int), -1 ≤ b → Nf b P → Bd P → Mr b (rngs P)
  | [], _, _, _, _ => trivial
  | q :: P, b, hb, h, h2 => by
    have hq := h2 q (by simp)
    have h1 := h.1
    have h3 := h.2.1
    have ih := mr_nf P q.2 (by omega) h.2.2 (fun r hr => h2 r (by simp [hr]))
    refine ⟨(okR_iff _).2 ⟨vlu_mono.1 (by omega), scal_vlu (by omega) (by omega), scal_vlu (by omega) (by omega)⟩, ?_, ?_⟩
    · show b < plc (vlu q.1); rw [plc_vlu (by omega) (by omega)]; exact h1
    · show Mr (plc (vlu (q.2 - 1)) + 1) (rngs P)
      rw [plc_vlu (by omega) (by omega), show q.2 - 1 + 1 = q.2 by omega]; exact ih
theorem may_nrm (l : List Pc) : mayB l = true ↔ l = nrm l := by
  rw [mayB_iff]
  constructor
  · intro h
    have hm := mr_of l (-1) h (fun x _ => by have := plc_range x.1; omega)
    obtain ⟨h1, h2, h3⟩ := nf_mr l _ hm
    have : l.map pcOf = pcs l := pcs_uniq h1 fun p => Iff.rfl
    unfold nrm; rw [← this, h3]
  · intro h
    rw [h]
    exact of_mr _ (-1) (mr_nf _ _ (by omega) (pcs_nf l) (pcs_bd l))
theorem may_eq (l : List Pc) : mayB l = decide (l = nrm l) := by rw [Bool.eq_iff_iff, may_nrm]; simp
end Go.Proofs.YtmgfpcblbbpahaaGreat.Ru

namespace Go.Proofs.YtmgfpcblbbpahaaGreat.Ru

def Ris : Int → List Int → Prop
  | _, [] => True
  | b, x :: l => b < x ∧ Ris x l
theorem Ris.above : ∀ {b : Int} {l : List Int}, Ris b l → ∀ x ∈ l, b < x
  | b, [], _, x, hx => by simp at hx
  | b, y :: l, h, x, hx => by
    rcases List.mem_cons.1 hx with rfl | hx
    · exact h.1
    · have := Ris.above h.2 x hx; have := h.1; omega
theorem Ris.uniq : ∀ {a b : Int} {l m : List Int}, Ris a l → Ris b m → (∀ x, x ∈ l ↔ x ∈ m) → l = m
  | _, _, [], [], _, _, _ => rfl
  | _, _, [], y :: m, _, _, h => by have := (h y).2 (by simp); simp at this
  | _, _, x :: l, [], _, _, h => by have := (h x).1 (by simp); simp at this
  | _, _, x :: l, y :: m, hl, hm, h => by
    have k1 : y ≤ x := by
      rcases List.mem_cons.1 ((h x).1 (by simp)) with k | k
      · omega
      · have := hm.2.above x k; omega
    have k2 : x ≤ y := by
      rcases List.mem_cons.1 ((h y).2 (by simp)) with k | k
      · omega
      · have := hl.2.above y k; omega
    obtain rfl : x = y := by omega
    rw [Ris.uniq hl.2 hm.2 (by
      intro z
      constructor
      · intro hz
        rcases List.mem_cons.1 ((h z).1 (by simp [hz])) with k | k
        · have := hl.2.above z hz; omega
        · exact k
      · intro hz
        rcases List.mem_cons.1 ((h z).2 (by simp [hz])) with k | k
        · have := hm.2.above z hz; omega
        · exact k)]
def insD (x : Int) : List Int → List Int
  | [] => [x]
  | y :: l => if x < y then x :: y :: l else if x = y then y :: l else y :: insD x l
def srtD (l : List Int) : List Int := l.foldl (fun s x => insD x s) []
theorem mem_insD (x z : Int) : ∀ l, z ∈ insD x l ↔ z = x ∨ z ∈ l
  | [] => by simp [insD]
  | y :: l => by
    unfold insD
    split
    · simp
    · split
      · rename_i h; subst h; simp
      · simp only [List.mem_cons, mem_insD x z l]
        constructor
        · rintro (h | h | h) <;> simp [h]
        · rintro (h | h | h) <;> simp [h]
theorem ris_insD (x : Int) : ∀ (l : List Int) (b : Int), b < x → Ris b l → Ris b (insD x l)
  | [], b, h, _ => ⟨h, trivial⟩
  | y :: l, b, h, hl => by
    unfold insD
    split
    · exact ⟨h, by assumption, hl.2⟩
    · split
      · exact hl
      · exact ⟨hl.1, ris_insD x l y (by omega) hl.2⟩
theorem srtD_all : ∀ (l s : List Int) (b : Int), Ris b s → (∀ x ∈ l, b < x) → Ris b (l.foldl (fun s x => insD x s) s) ∧ ∀ z, z ∈ l.foldl (fun s x => insD x s) s ↔ z ∈ l ∨ z ∈ s
  | [], s, b, h, _ => ⟨h, by simp⟩
  | x :: l, s, b, h, h2 => by
    obtain ⟨h3, h4⟩ := srtD_all l (insD x s) b (ris_insD x s b (h2 x (by simp)) h) (fun y hy => h2 y (by simp [hy]))
    refine ⟨h3, fun z => ?_⟩
    rw [List.foldl_cons, h4, mem_insD]
    simp only [List.mem_cons]
    constructor
    · rintro (h | h | h) <;> simp [h]
    · rintro ((h | h) | h) <;> simp [h]
theorem srtD_ris {l : List Int} {b : Int} (h : ∀ x ∈ l, b < x) : Ris b (srtD l) := (srtD_all l [] b trivial h).1
theorem mem_srtD {l : List Int} {b : Int} (h : ∀ x ∈ l, b < x) (z : Int) : z ∈ srtD l ↔ z ∈ l := by rw [show srtD l = l.foldl (fun s x => insD x s) [] from rfl, (srtD_all l [] b trivial h).2]; simp

def ends : List Pc → List Int
  | [] => []
  | q :: P => q.1 :: q.2 :: ends P
theorem mem_ends : ∀ (P : List Pc) (z : Int), z ∈ ends P ↔ ∃ q ∈ P, z = q.1 ∨ z = q.2
  | [], z => by simp [ends]
  | q :: P, z => by simp only [ends, List.mem_cons, mem_ends P z]; simp [or_assoc]
def gaps (P : List Pc) : List Int → List Pc
  | x :: y :: l => if x < y ∧ inB P x = true then (x, y) :: gaps P (y :: l) else gaps P (y :: l)
  | _ => []
def cutF (P : List Pc) : List Pc := gaps P (srtD (ends P))
def cutsF (ls : List (List Pc)) : List Pc := rngs (cutF (ls.flatMap pcs))

def AscI : List Int → Prop
  | x :: y :: l => x ≤ y ∧ AscI (y :: l)
  | _ => True
def dd : List Int → List Int
  | x :: y :: l => if x = y then dd (y :: l) else x :: dd (y :: l)
  | l => l
theorem gaps_dd (P : List Pc) : ∀ l, AscI l → gaps P (dd l) = gaps P l
  | [], _ => rfl
  | [x], _ => rfl
  | x :: y :: l, h => by
    have ih := gaps_dd P (y :: l) h.2
    unfold dd
    split
    · rename_i e; subst e
      rw [ih]; conv => rhs; unfold gaps
      rw [if_neg (by omega)]
    · have hd : ∃ t, dd (y :: l) = y :: t := by
        clear ih h
        induction l generalizing y with
        | nil => exact ⟨[], rfl⟩
        | cons z l ih2 =>
          rename_i hxy
          by_cases e : y = z
          · subst e
            obtain ⟨t, ht⟩ := ih2 y hxy
            exact ⟨t, by rw [dd, if_pos rfl, ht]⟩
          · exact ⟨_, by rw [dd, if_neg e]⟩
      obtain ⟨t, ht⟩ := hd
      rw [ht] at ih ⊢
      rw [gaps, gaps, ih]
theorem dd_ris : ∀ (l : List Int) (b : Int), AscI l → (∀ x, l.head? = some x → b < x) → Ris b (dd l)
  | [], _, _, _ => trivial
  | [x], b, _, h => ⟨h x rfl, trivial⟩
  | x :: y :: l, b, h, hb => by
    have hx := hb x rfl
    unfold dd
    split
    · rename_i e; subst e; exact dd_ris (x :: l) b h.2 (fun z hz => by simp at hz; omega)
    · exact ⟨hx, dd_ris (y :: l) x h.2 (fun z hz => by simp at hz; have := h.1; omega)⟩
theorem mem_dd : ∀ (l : List Int) (z : Int), z ∈ dd l ↔ z ∈ l
  | [], z => by simp [dd]
  | [x], z => by simp [dd]
  | x :: y :: l, z => by
    have ih := mem_dd (y :: l) z
    unfold dd
    split
    · rename_i e; subst e; rw [ih]; simp
    · rw [List.mem_cons, ih]; simp
theorem gaps_eq (P : List Pc) (l : List Int) (b : Int) (h : AscI l) (hb : ∀ x ∈ l, b < x) (hm : ∀ z, z ∈ l ↔ z ∈ ends P) : gaps P l = cutF P := by
  rw [← gaps_dd P l h]
  unfold cutF
  rw [(dd_ris l b h (fun x hx => hb x (by cases l with | nil => simp at hx | cons y l => simp at hx; simp [hx]))).uniq (srtD_ris (b := b) (fun x hx => hb x ((hm x).2 hx)))]
  intro z
  rw [mem_dd, hm, mem_srtD (b := b) (fun x hx => hb x ((hm x).2 hx))]
theorem gaps_snoc (P : List Pc) : ∀ (l : List Int) (x y : Int), gaps P (l ++ [x, y]) = gaps P (l ++ [x]) ++ if x < y ∧ inB P x = true then [(x, y)] else []
  | [], x, y => by simp [gaps]
  | [z], x, y => by
    simp only [List.cons_append, List.nil_append, gaps]
    by_cases h1 : z < x ∧ inB P z = true <;> by_cases h2 : x < y ∧ inB P x = true <;> simp [h1, h2]
  | z :: u :: l, x, y => by
    have ih := gaps_snoc P (u :: l) x y
    simp only [List.cons_append] at ih ⊢
    rw [gaps, gaps, ih]
    by_cases h1 : z < u ∧ inB P z = true <;> simp [h1]
theorem take_two {α} (l : List α) (d : α) (k : Nat) (h : k + 1 < l.length) : l.take (k + 2) = l.take k ++ [l.getD k d, l.getD (k + 1) d] := by
  have e1 : l.take (k + 2) = l.take (k + 1) ++ [l[k + 1]] := List.take_succ_eq_append_getElem h
  have e2 : l.take (k + 1) = l.take k ++ [l[k]] := List.take_succ_eq_append_getElem (by omega)
  have e3 : l.getD k d = l[k] := by simp [List.getD, List.getElem?_eq_getElem (show k < l.length by omega)]
  have e4 : l.getD (k + 1) d = l[k + 1] := by simp [List.getD, List.getElem?_eq_getElem h]
  rw [e1, e2, e3, e4, List.append_assoc]; rfl
theorem take_one {α} (l : List α) (d : α) (k : Nat) (h : k < l.length) : l.take (k + 1) = l.take k ++ [l.getD k d] := by
  rw [List.take_succ_eq_append_getElem h]
  simp [List.getD, List.getElem?_eq_getElem h]
theorem gaps_take (P : List Pc) (l : List Int) (k : Nat) (h : k + 1 < l.length) : gaps P (l.take (k + 2)) = gaps P (l.take (k + 1)) ++ if l.getD k 0 < l.getD (k + 1) 0 ∧ inB P (l.getD k 0) = true then [(l.getD k 0, l.getD (k + 1) 0)] else [] := by
  rw [take_two l 0 k h, take_one l 0 k (by omega), gaps_snoc]
theorem gaps_one (P : List Pc) (l : List Int) : gaps P (l.take 1) = [] := by
  cases l <;> simp [gaps]
theorem gaps_zero (P : List Pc) (l : List Int) : gaps P (l.take 0) = [] := by simp [gaps]

def bal : List Pc → Int → Int
  | [], _ => 0
  | e :: E, x => (if e.1 ≤ x then e.2 else 0) + bal E x
def sumB : List Pc → Int
  | [] => 0
  | e :: E => e.2 + sumB E
def edges : List Pc → List Pc
  | [] => []
  | q :: P => (q.1, 1) :: (q.2, -1) :: edges P
theorem bal_perm {E F : List Pc} (h : E.Perm F) (x : Int) : bal E x = bal F x := by
  induction h with
  | nil => rfl
  | cons e _ ih => simp only [bal]; omega
  | swap e f l => simp only [bal]; omega
  | trans _ _ h1 h2 => omega
theorem edges_fst : ∀ P : List Pc, (edges P).map Prod.fst = ends P
  | [] => rfl
  | q :: P => by simp [edges, ends, edges_fst P]
theorem bal_edges : ∀ (P : List Pc) (x : Int), (∀ q ∈ P, q.1 < q.2) → 0 ≤ bal (edges P) x ∧ (0 < bal (edges P) x ↔ inB P x = true)
  | [], x, _ => by simp [bal, edges, inB]
  | q :: P, x, h => by
    obtain ⟨h1, h2⟩ := bal_edges P x (fun r hr => h r (by simp [hr]))
    have hq := h q (by simp)
    rw [inB_cons]
    simp only [edges, bal, Bool.or_eq_true, ← h2, Bool.and_eq_true, decide_eq_true_eq]
    by_cases a : q.1 ≤ x <;> by_cases b : q.2 ≤ x <;> simp [a, b] <;> omega
theorem bal_none : ∀ (E : List Pc) (x : Int), (∀ e ∈ E, x < e.1) → bal E x = 0
  | [], _, _ => rfl
  | e :: E, x, h => by
    have := h e (by simp)
    unfold bal; rw [bal_none E x (fun f hf => h f (by simp [hf])), if_neg (by omega)]; rfl
theorem sum_bal : ∀ (E : List Pc) (k : Nat) (x : Int), (∀ e ∈ E.take k, e.1 ≤ x) → (∀ e ∈ E.drop k, x < e.1) → sumB (E.take k) = bal E x
  | E, 0, x, _, h => by rw [bal_none E x (by simpa using h)]; simp [sumB]
  | [], k + 1, x, _, _ => by simp [sumB, bal]
  | e :: E, k + 1, x, h1, h2 => by
    have ih := sum_bal E k x (fun f hf => h1 f (by simp [hf])) (by simpa using h2)
    have := h1 e (by simp)
    simp only [List.take_succ_cons, sumB, bal, ih, if_pos this]
theorem sumB_snoc : ∀ (E : List Pc) (e : Pc), sumB (E ++ [e]) = sumB E + e.2
  | [], e => by simp [sumB]
  | f :: E, e => by simp only [List.cons_append, sumB, sumB_snoc E e]; omega
theorem sumB_le : ∀ (E : List Pc), (∀ e ∈ E, e.2 = 1 ∨ e.2 = -1) → -(E.length : Int) ≤ sumB E ∧ sumB E ≤ E.length
  | [], _ => by simp [sumB]
  | e :: E, h => by
    have ih := sumB_le E (fun f hf => h f (by simp [hf]))
    have := h e (by simp)
    simp only [sumB, List.length_cons]; omega
theorem edges_by : ∀ (P : List Pc), ∀ e ∈ edges P, e.2 = 1 ∨ e.2 = -1
  | [], e, h => by simp [edges] at h
  | q :: P, e, h => by
    simp only [edges, List.mem_cons] at h
    rcases h with rfl | rfl | h
    · exact .inl rfl
    · exact .inr rfl
    · exact edges_by P e h
theorem edges_append : ∀ (P Q : List Pc), edges (P ++ Q) = edges P ++ edges Q
  | [], Q => rfl
  | q :: P, Q => by simp [edges, edges_append P Q]
theorem edges_len : ∀ (P : List Pc), (edges P).length = 2 * P.length
  | [] => rfl
  | q :: P => by simp [edges, edges_len P]; omega
end Go.Proofs.YtmgfpcblbbpahaaGreat.Ru
