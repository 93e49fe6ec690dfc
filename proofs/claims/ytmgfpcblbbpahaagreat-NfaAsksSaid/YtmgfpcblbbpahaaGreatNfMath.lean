/- Numbers in rising order, each once; what a set of states gathers. No Go in sight. -/
import Derived.Lib.SlicesCompact
set_option linter.unusedVariables false
set_option linter.unusedSimpArgs false
namespace Go.Proofs.YtmgfpcblbbpahaaGreat
namespace Nf

theorem comp_both (d : Array Int) (hd : ∀ i j, i < j → j < d.size → d[i]! ≤ d[j]!) : ∀ m, m ≤ d.size → (∀ x, x ∈ Lib.compactUpTo d m ↔ ∃ j, j < m ∧ d[j]! = x) ∧ (Lib.compactUpTo d m).Pairwise (· < ·) := by
  intro m
  induction m with
  | zero => intro _; simp [Lib.compactUpTo]
  | succ m ih =>
    intro hm
    obtain ⟨h1, h2⟩ := ih (by omega)
    rw [Lib.compactUpTo_succ]
    by_cases hk : Lib.keeps d m = true
    · rw [if_pos hk]
      refine ⟨fun x => ?_, ?_⟩
      · rw [List.mem_append, h1, List.mem_singleton]
        constructor
        · rintro (⟨j, hj, rfl⟩ | rfl)
          · exact ⟨j, by omega, rfl⟩
          · exact ⟨m, by omega, rfl⟩
        · rintro ⟨j, hj, rfl⟩
          by_cases e : j = m
          · exact .inr (by rw [e])
          · exact .inl ⟨j, by omega, rfl⟩
      · rw [List.pairwise_append]
        refine ⟨h2, by simp, fun a ha b hb => ?_⟩
        rw [List.mem_singleton] at hb
        subst hb
        obtain ⟨j, hj, rfl⟩ := (h1 a).1 ha
        have hle : d[j]! ≤ d[m - 1]! := by
          by_cases e : j = m - 1
          · rw [e]; exact Int.le_refl _
          · exact hd j (m - 1) (by omega) (by omega)
        have hle2 := hd (m - 1) m (by omega) (by omega)
        have hne : d[m]! ≠ d[m - 1]! := by
          unfold Lib.keeps at hk
          intro e
          simp at hk
          rcases hk with hk | hk
          · omega
          · exact hk (by simpa using e)
        omega
    · rw [if_neg hk, List.append_nil]
      refine ⟨fun x => ?_, h2⟩
      rw [h1]
      constructor
      · rintro ⟨j, hj, rfl⟩; exact ⟨j, by omega, rfl⟩
      · rintro ⟨j, hj, rfl⟩
        by_cases e : j = m
        · subst e
          unfold Lib.keeps at hk
          simp at hk
          exact ⟨j - 1, by omega, by simpa using hk.2.symm⟩
        · exact ⟨j, by omega, rfl⟩
end Nf
/-- numbers in rising order, each once -/
def ordL (zs : List Int) : List Int := Lib.compact (zs.mergeSort fun x y => decide (x ≤ y))
namespace Nf
theorem srt_get (zs : List Int) : ∀ i j, i < j → j < (zs.mergeSort fun x y => decide (x ≤ y)).toArray.size → (zs.mergeSort fun x y => decide (x ≤ y)).toArray[i]! ≤ (zs.mergeSort fun x y => decide (x ≤ y)).toArray[j]! := by
  intro i j hij hj
  have hs : (zs.mergeSort fun x y => decide (x ≤ y)).Pairwise (fun a b => decide (a ≤ b) = true) := List.pairwise_mergeSort (fun a b c h1 h2 => by simp at *; omega) (fun a b => by simp; omega) zs
  have := List.pairwise_iff_getElem.1 hs i j (by simp at hj ⊢; omega) (by simpa using hj) hij
  simp only [List.size_toArray] at hj
  rw [getElem!_pos _ i (by simp at hj ⊢; omega), getElem!_pos _ j (by simpa using hj)]
  simpa using this
theorem mem_ord (zs : List Int) (x : Int) : x ∈ ordL zs ↔ x ∈ zs := by
  have h := (comp_both _ (srt_get zs) (zs.mergeSort fun x y => decide (x ≤ y)).length (by simp)).1 x
  have hm : x ∈ zs ↔ x ∈ (zs.mergeSort fun x y => decide (x ≤ y)) := (List.mergeSort_perm zs _).mem_iff.symm
  unfold ordL Lib.compact
  rw [h, hm, List.mem_iff_getElem]
  constructor
  · rintro ⟨j, hj, rfl⟩; exact ⟨j, hj, by rw [getElem!_pos _ j (by simpa using hj)]; simp⟩
  · rintro ⟨j, hj, rfl⟩; exact ⟨j, hj, by rw [getElem!_pos _ j (by simpa using hj)]; simp⟩
theorem ord_lt (zs : List Int) : (ordL zs).Pairwise (· < ·) := (comp_both _ (srt_get zs) (zs.mergeSort fun x y => decide (x ≤ y)).length (by simp)).2
theorem asc_ext : ∀ {a b : List Int}, a.Pairwise (· < ·) → b.Pairwise (· < ·) → (∀ x, x ∈ a ↔ x ∈ b) → a = b := by
  intro a
  induction a with
  | nil =>
    intro b _ _ h
    cases b with
    | nil => rfl
    | cons y b => exact absurd ((h y).2 (by simp)) (by simp)
  | cons x a ih =>
    intro b ha hb h
    cases b with
    | nil => exact absurd ((h x).1 (by simp)) (by simp)
    | cons y b =>
      rw [List.pairwise_cons] at ha hb
      have hxy : x = y := by
        have h1 := (h x).1 (by simp)
        have h2 := (h y).2 (by simp)
        rw [List.mem_cons] at h1 h2
        rcases h1 with e | h1
        · exact e
        · rcases h2 with e | h2
          · exact e.symm
          · have := hb.1 x h1; have := ha.1 y h2; omega
      subst hxy
      congr 1
      refine ih ha.2 hb.2 fun z => ?_
      have hz := h z
      rw [List.mem_cons, List.mem_cons] at hz
      constructor
      · intro hza
        have := ha.1 z hza
        rcases hz.1 (.inr hza) with e | e
        · omega
        · exact e
      · intro hzb
        have := hb.1 z hzb
        rcases hz.2 (.inr hzb) with e | e
        · omega
        · exact e

/-- one more state of a set: what it gives, unless it was seen, or is none -/
def gstep (F : List (List Int)) (p : List Int × List Int) (s : Int) : List Int × List Int :=
  if 0 ≤ s ∧ s < (F.length : Int) ∧ s ∉ p.2 then (p.1 ++ F.getD s.toNat [], s :: p.2) else p
def gatK (F : List (List Int)) (l : List Int) (k : Nat) : List Int × List Int := (l.take k).foldl (gstep F) ([], [])
theorem gatK_zero (F : List (List Int)) (l : List Int) : gatK F l 0 = ([], []) := rfl
theorem gatK_succ (F : List (List Int)) (l : List Int) (k : Nat) (h : k < l.length) : gatK F l (k + 1) = gstep F (gatK F l k) (l.getD k 0) := by
  unfold gatK
  rw [List.take_add_one, List.getElem?_eq_getElem h, List.foldl_append]
  simp [List.getD, h]
theorem gatK_mem (F : List (List Int)) (l : List Int) : ∀ k, k ≤ l.length → (∀ s, s ∈ (gatK F l k).2 ↔ (s ∈ l.take k ∧ 0 ≤ s ∧ s < (F.length : Int))) ∧ (∀ x, x ∈ (gatK F l k).1 ↔ ∃ s, s ∈ l.take k ∧ 0 ≤ s ∧ s < (F.length : Int) ∧ x ∈ F.getD s.toNat []) := by
  intro k
  induction k with
  | zero => intro _; simp [gatK_zero]
  | succ k ih =>
    intro hk
    obtain ⟨h1, h2⟩ := ih (by omega)
    have ht : l.take (k + 1) = l.take k ++ [l.getD k 0] := by
      rw [List.take_add_one, List.getElem?_eq_getElem (by omega)]; simp [List.getD, show k < l.length by omega]
    rw [gatK_succ F l k (by omega), ht]
    generalize l.getD k 0 = s0
    unfold gstep
    split
    next hs =>
      refine ⟨fun s => ?_, fun x => ?_⟩
      · rw [List.mem_cons, h1, List.mem_append, List.mem_singleton]
        constructor
        · rintro (rfl | h)
          · exact ⟨.inr rfl, hs.1, hs.2.1⟩
          · exact ⟨.inl h.1, h.2⟩
        · rintro ⟨h | rfl, h'⟩
          · exact .inr ⟨h, h'⟩
          · exact .inl rfl
      · rw [List.mem_append, h2]
        constructor
        · rintro (⟨s, h, h'⟩ | h)
          · exact ⟨s, List.mem_append.2 (.inl h), h'⟩
          · exact ⟨s0, List.mem_append.2 (.inr (by simp)), hs.1, hs.2.1, h⟩
        · rintro ⟨s, h, h'⟩
          rw [List.mem_append, List.mem_singleton] at h
          rcases h with h | rfl
          · exact .inl ⟨s, h, h'⟩
          · exact .inr h'.2.2
    next hs =>
      have hs' : 0 ≤ s0 → s0 < (F.length : Int) → s0 ∈ (gatK F l k).2 := fun a b => Classical.byContradiction fun c => hs ⟨a, b, c⟩
      refine ⟨fun s => ?_, fun x => ?_⟩
      · rw [h1, List.mem_append, List.mem_singleton]
        constructor
        · rintro ⟨h, h'⟩; exact ⟨.inl h, h'⟩
        · rintro ⟨h | rfl, h'⟩
          · exact ⟨h, h'⟩
          · exact (h1 s).1 (hs' h'.1 h'.2)
      · rw [h2]
        constructor
        · rintro ⟨s, h, h'⟩; exact ⟨s, List.mem_append.2 (.inl h), h'⟩
        · rintro ⟨s, h, h'⟩
          rw [List.mem_append, List.mem_singleton] at h
          rcases h with h | rfl
          · exact ⟨s, h, h'⟩
          · exact ⟨s, ((h1 s).1 (hs' h'.1 h'.2.1)).1, h'⟩
theorem gatK_len (F : List (List Int)) (l : List Int) (M : Nat) (hM : ∀ r ∈ F, r.length ≤ M) : ∀ k, k ≤ l.length → (gatK F l k).1.length ≤ k * M := by
  intro k
  induction k with
  | zero => intro _; simp [gatK_zero]
  | succ k ih =>
    intro hk
    have h := ih (by omega)
    rw [gatK_succ F l k (by omega)]
    unfold gstep
    have he : (k + 1) * M = k * M + M := Nat.succ_mul k M
    split
    next hs =>
      simp only [List.length_append]
      have : (F.getD (l.getD k 0).toNat []).length ≤ M := by
        rw [List.getD_eq_getElem?_getD]
        cases e : F[(l.getD k 0).toNat]? with
        | none => simp
        | some r => exact hM r (List.mem_of_getElem? e)
      omega
    next => omega
/-- what the states of a set give, in rising order -/
def gat (F : List (List Int)) (l : List Int) : List Int := ordL (gatK F l l.length).1
theorem mem_gat (F : List (List Int)) (l : List Int) (x : Int) : x ∈ gat F l ↔ ∃ s, s ∈ l ∧ 0 ≤ s ∧ s < (F.length : Int) ∧ x ∈ F.getD s.toNat [] := by
  unfold gat
  rw [mem_ord, (gatK_mem F l l.length (Nat.le_refl _)).2]
  simp
end Nf
end Go.Proofs.YtmgfpcblbbpahaaGreat
