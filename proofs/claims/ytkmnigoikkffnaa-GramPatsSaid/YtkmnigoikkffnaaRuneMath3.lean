/- Sets of runes: cells between cuts, and runs of places. No Go in sight. -/
import Derived.Test.YtkmnigoikkffnaaRuneMath2
set_option linter.unusedVariables false
set_option linter.unusedSimpArgs false
namespace Go.Proofs.Ytkmnigoikkffnaa.Ru

/-- rising, each once, all above b -/
def Ris : Int → List Int → Prop
  | _, [] => True
  | b, x :: l => b < x ∧ Ris x l
theorem Ris.weaken {a b : Int} {l : List Int} (h : Ris b l) (hab : a ≤ b) : Ris a l := by
  cases l with
  | nil => trivial
  | cons x l => exact ⟨by have := h.1; omega, h.2⟩
theorem Ris.above : ∀ {b : Int} {l : List Int}, Ris b l → ∀ x ∈ l, b < x
  | b, [], _, x, hx => by simp at hx
  | b, y :: l, h, x, hx => by
    rcases List.mem_cons.1 hx with rfl | hx
    · exact h.1
    · have := Ris.above h.2 x hx; have := h.1; omega
theorem Ris.uniq : ∀ {a b : Int} {l m : List Int}, Ris a l → Ris b m → (∀ x, x ∈ l ↔ x ∈ m) → l = m
  | _, _, [], [], _, _, _ => rfl
  | _, _, [], y :: m, _, _, h => by have := (h y).2 (by simp); simp at this
  | _, _, x :: l, [], _, _, h => by have := (h x).1 (by simp); simp at this
  | _, _, x :: l, y :: m, hl, hm, h => by
    have k1 : y ≤ x := by
      rcases List.mem_cons.1 ((h x).1 (by simp)) with k | k
      · omega
      · have := hm.2.above x k; omega
    have k2 : x ≤ y := by
      rcases List.mem_cons.1 ((h y).2 (by simp)) with k | k
      · omega
      · have := hl.2.above y k; omega
    obtain rfl : x = y := by omega
    rw [Ris.uniq hl.2 hm.2 (by
      intro z
      constructor
      · intro hz
        rcases List.mem_cons.1 ((h z).1 (by simp [hz])) with k | k
        · have := hl.2.above z hz; omega
        · exact k
      · intro hz
        rcases List.mem_cons.1 ((h z).2 (by simp [hz])) with k | k
        · have := hm.2.above z hz; omega
        · exact k)]
/-- insertion without doubles -/
def insD (x : Int) : List Int → List Int
  | [] => [x]
  | y :: l => if x < y then x :: y :: l else if x = y then y :: l else y :: insD x l
def srtD (l : List Int) : List Int := l.foldl (fun s x => insD x s) []
theorem mem_insD (x z : Int) : ∀ l, z ∈ insD x l ↔ z = x ∨ z ∈ l
  | [] => by simp [insD]
  | y :: l => by
    unfold insD
    split
    · simp
    · split
      · rename_i h; subst h; simp
      · simp only [List.mem_cons, mem_insD x z l]
        constructor
        · rintro (h | h | h) <;> simp [h]
        · rintro (h | h | h) <;> simp [h]
theorem ris_insD (x : Int) : ∀ (l : List Int) (b : Int), b < x → Ris b l → Ris b (insD x l)
  | [], b, h, _ => ⟨h, trivial⟩
  | y :: l, b, h, hl => by
    unfold insD
    split
    · exact ⟨h, by assumption, hl.2⟩
    · split
      · exact hl
      · exact ⟨hl.1, ris_insD x l y (by omega) hl.2⟩
theorem srtD_all : ∀ (l s : List Int) (b : Int), Ris b s → (∀ x ∈ l, b < x) → Ris b (l.foldl (fun s x => insD x s) s) ∧ ∀ z, z ∈ l.foldl (fun s x => insD x s) s ↔ z ∈ l ∨ z ∈ s
  | [], s, b, h, _ => ⟨h, by simp⟩
  | x :: l, s, b, h, h2 => by
    obtain ⟨h3, h4⟩ := srtD_all l (insD x s) b (ris_insD x s b (h2 x (by simp)) h) (fun y hy => h2 y (by simp [hy]))
    refine ⟨h3, fun z => ?_⟩
    rw [List.foldl_cons, h4, mem_insD]
    simp only [List.mem_cons]
    constructor
    · rintro (h | h | h) <;> simp [h]
    · rintro ((h | h) | h) <;> simp [h]
theorem srtD_ris {l : List Int} {b : Int} (h : ∀ x ∈ l, b < x) : Ris b (srtD l) := (srtD_all l [] b trivial h).1
theorem mem_srtD {l : List Int} {b : Int} (h : ∀ x ∈ l, b < x) (z : Int) : z ∈ srtD l ↔ z ∈ l := by rw [show srtD l = l.foldl (fun s x => insD x s) [] from rfl, (srtD_all l [] b trivial h).2]; simp

/-- both ends of each piece -/
def ends : List Pc → List Int
  | [] => []
  | q :: P => q.1 :: q.2 :: ends P
theorem mem_ends : ∀ (P : List Pc) (z : Int), z ∈ ends P ↔ ∃ q ∈ P, z = q.1 ∨ z = q.2
  | [], z => by simp [ends]
  | q :: P, z => by simp only [ends, List.mem_cons, mem_ends P z]; simp [or_assoc]
/-- what lies between one cut and the next one, where a piece is -/
def gaps (P : List Pc) : List Int → List Pc
  | x :: y :: l => if x < y ∧ inB P x = true then (x, y) :: gaps P (y :: l) else gaps P (y :: l)
  | _ => []
def cutF (P : List Pc) : List Pc := gaps P (srtD (ends P))
def cutsF (ls : List (List Pc)) : List Pc := rngs (cutF (ls.flatMap pcs))

/-- rising, doubles allowed -/
def AscI : List Int → Prop
  | x :: y :: l => x ≤ y ∧ AscI (y :: l)
  | _ => True
def dd : List Int → List Int
  | x :: y :: l => if x = y then dd (y :: l) else x :: dd (y :: l)
  | l => l
theorem gaps_dd (P : List Pc) : ∀ l, AscI l → gaps P (dd l) = gaps P l
  | [], _ => rfl
  | [x], _ => rfl
  | x :: y :: l, h => by
    have ih := gaps_dd P (y :: l) h.2
    unfold dd
    split
    · rename_i e; subst e
      rw [ih]; conv => rhs; unfold gaps
      rw [if_neg (by omega)]
    · have hd : ∃ t, dd (y :: l) = y :: t := by
        clear ih h
        induction l generalizing y with
        | nil => exact ⟨[], rfl⟩
        | cons z l ih2 =>
          rename_i hxy
          by_cases e : y = z
          · subst e
            obtain ⟨t, ht⟩ := ih2 y hxy
            exact ⟨t, by rw [dd, if_pos rfl, ht]⟩
          · exact ⟨_, by rw [dd, if_neg e]⟩
      obtain ⟨t, ht⟩ := hd
      rw [ht] at ih ⊢
      rw [gaps, gaps, ih]
theorem dd_ris : ∀ (l : List Int) (b : Int), AscI l → (∀ x, l.head? = some x → b < x) → Ris b (dd l)
  | [], _, _, _ => trivial
  | [x], b, _, h => ⟨h x rfl, trivial⟩
  | x :: y :: l, b, h, hb => by
    have hx := hb x rfl
    unfold dd
    split
    · rename_i e; subst e; exact dd_ris (x :: l) b h.2 (fun z hz => by simp at hz; omega)
    · exact ⟨hx, dd_ris (y :: l) x h.2 (fun z hz => by simp at hz; have := h.1; omega)⟩
theorem mem_dd : ∀ (l : List Int) (z : Int), z ∈ dd l ↔ z ∈ l
  | [], z => by simp [dd]
  | [x], z => by simp [dd]
  | x :: y :: l, z => by
    have ih := mem_dd (y :: l) z
    unfold dd
    split
    · rename_i e; subst e; rw [ih]; simp
    · rw [List.mem_cons, ih]; simp
/-- cuts in any rising order, doubles or not, make the same cells -/
theorem gaps_eq (P : List Pc) (l : List Int) (b : Int) (h : AscI l) (hb : ∀ x ∈ l, b < x) (hm : ∀ z, z ∈ l ↔ z ∈ ends P) : gaps P l = cutF P := by
  rw [← gaps_dd P l h]
  unfold cutF
  rw [(dd_ris l b h (fun x hx => hb x (by cases l with | nil => simp at hx | cons y l => simp at hx; simp [hx]))).uniq (srtD_ris (b := b) (fun x hx => hb x ((hm x).2 hx)))]
  intro z
  rw [mem_dd, hm, mem_srtD (b := b) (fun x hx => hb x ((hm x).2 hx))]
theorem gaps_snoc (P : List Pc) : ∀ (l : List Int) (x y : Int), gaps P (l ++ [x, y]) = gaps P (l ++ [x]) ++ if x < y ∧ inB P x = true then [(x, y)] else []
  | [], x, y => by simp [gaps]
  | [z], x, y => by
    simp only [List.cons_append, List.nil_append, gaps]
    by_cases h1 : z < x ∧ inB P z = true <;> by_cases h2 : x < y ∧ inB P x = true <;> simp [h1, h2]
  | z :: u :: l, x, y => by
    have ih := gaps_snoc P (u :: l) x y
    simp only [List.cons_append] at ih ⊢
    rw [gaps, gaps, ih]
    by_cases h1 : z < u ∧ inB P z = true <;> simp [h1]
theorem take_two {α} (l : List α) (d : α) (k : Nat) (h : k + 1 < l.length) : l.take (k + 2) = l.take k ++ [l.getD k d, l.getD (k + 1) d] := by
  have e1 : l.take (k + 2) = l.take (k + 1) ++ [l[k + 1]] := List.take_succ_eq_append_getElem h
  have e2 : l.take (k + 1) = l.take k ++ [l[k]] := List.take_succ_eq_append_getElem (by omega)
  have e3 : l.getD k d = l[k] := by simp [List.getD, List.getElem?_eq_getElem (show k < l.length by omega)]
  have e4 : l.getD (k + 1) d = l[k + 1] := by simp [List.getD, List.getElem?_eq_getElem h]
  rw [e1, e2, e3, e4, List.append_assoc]; rfl
theorem take_one {α} (l : List α) (d : α) (k : Nat) (h : k < l.length) : l.take (k + 1) = l.take k ++ [l.getD k d] := by
  rw [List.take_succ_eq_append_getElem h]
  simp [List.getD, List.getElem?_eq_getElem h]
/-- the cells behind k + 2 cuts, out of those behind k + 1 -/
theorem gaps_take (P : List Pc) (l : List Int) (k : Nat) (h : k + 1 < l.length) : gaps P (l.take (k + 2)) = gaps P (l.take (k + 1)) ++ if l.getD k 0 < l.getD (k + 1) 0 ∧ inB P (l.getD k 0) = true then [(l.getD k 0, l.getD (k + 1) 0)] else [] := by
  rw [take_two l 0 k h, take_one l 0 k (by omega), gaps_snoc]
theorem gaps_one (P : List Pc) (l : List Int) : gaps P (l.take 1) = [] := by
  cases l <;> simp [gaps]
theorem gaps_zero (P : List Pc) (l : List Int) : gaps P (l.take 0) = [] := by simp [gaps]

/-- what is added up to a place -/
def bal : List Pc → Int → Int
  | [], _ => 0
  | e :: E, x => (if e.1 ≤ x then e.2 else 0) + bal E x
def sumB : List Pc → Int
  | [] => 0
  | e :: E => e.2 + sumB E
/-- the edges of pieces: one more from its beginning on, one less from its end on -/
def edges : List Pc → List Pc
  | [] => []
  | q :: P => (q.1, 1) :: (q.2, -1) :: edges P
theorem bal_perm {E F : List Pc} (h : E.Perm F) (x : Int) : bal E x = bal F x := by
  induction h with
  | nil => rfl
  | cons e _ ih => simp only [bal]; omega
  | swap e f l => simp only [bal]; omega
  | trans _ _ h1 h2 => omega
theorem edges_fst : ∀ P : List Pc, (edges P).map Prod.fst = ends P
  | [] => rfl
  | q :: P => by simp [edges, ends, edges_fst P]
theorem bal_edges : ∀ (P : List Pc) (x : Int), (∀ q ∈ P, q.1 < q.2) → 0 ≤ bal (edges P) x ∧ (0 < bal (edges P) x ↔ inB P x = true)
  | [], x, _ => by simp [bal, edges, inB]
  | q :: P, x, h => by
    obtain ⟨h1, h2⟩ := bal_edges P x (fun r hr => h r (by simp [hr]))
    have hq := h q (by simp)
    rw [inB_cons]
    simp only [edges, bal, Bool.or_eq_true, ← h2, Bool.and_eq_true, decide_eq_true_eq]
    by_cases a : q.1 ≤ x <;> by_cases b : q.2 ≤ x <;> simp [a, b] <;> omega
theorem bal_none : ∀ (E : List Pc) (x : Int), (∀ e ∈ E, x < e.1) → bal E x = 0
  | [], _, _ => rfl
  | e :: E, x, h => by
    have := h e (by simp)
    unfold bal; rw [bal_none E x (fun f hf => h f (by simp [hf])), if_neg (by omega)]; rfl
theorem sum_bal : ∀ (E : List Pc) (k : Nat) (x : Int), (∀ e ∈ E.take k, e.1 ≤ x) → (∀ e ∈ E.drop k, x < e.1) → sumB (E.take k) = bal E x
  | E, 0, x, _, h => by rw [bal_none E x (by simpa using h)]; simp [sumB]
  | [], k + 1, x, _, _ => by simp [sumB, bal]
  | e :: E, k + 1, x, h1, h2 => by
    have ih := sum_bal E k x (fun f hf => h1 f (by simp [hf])) (by simpa using h2)
    have := h1 e (by simp)
    simp only [List.take_succ_cons, sumB, bal, ih, if_pos this]
theorem sumB_snoc : ∀ (E : List Pc) (e : Pc), sumB (E ++ [e]) = sumB E + e.2
  | [], e => by simp [sumB]
  | f :: E, e => by simp only [List.cons_append, sumB, sumB_snoc E e]; omega
theorem sumB_le : ∀ (E : List Pc), (∀ e ∈ E, e.2 = 1 ∨ e.2 = -1) → -(E.length : Int) ≤ sumB E ∧ sumB E ≤ E.length
  | [], _ => by simp [sumB]
  | e :: E, h => by
    have ih := sumB_le E (fun f hf => h f (by simp [hf]))
    have := h e (by simp)
    simp only [sumB, List.length_cons]; omega
theorem edges_by : ∀ (P : List Pc), ∀ e ∈ edges P, e.2 = 1 ∨ e.2 = -1
  | [], e, h => by simp [edges] at h
  | q :: P, e, h => by
    simp only [edges, List.mem_cons] at h
    rcases h with rfl | rfl | h
    · exact .inl rfl
    · exact .inr rfl
    · exact edges_by P e h
theorem edges_append : ∀ (P Q : List Pc), edges (P ++ Q) = edges P ++ edges Q
  | [], Q => rfl
  | q :: P, Q => by simp [edges, edges_append P Q]
theorem edges_len : ∀ (P : List Pc), (edges P).length = 2 * P.length
  | [] => rfl
  | q :: P => by simp [edges, edges_len P]; omega
end Go.Proofs.Ytkmnigoikkffnaa.Ru
