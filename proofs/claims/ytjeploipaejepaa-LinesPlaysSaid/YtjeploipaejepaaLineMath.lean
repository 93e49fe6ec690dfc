/- The starts of lines, as lists. -/
import Derived.Test.YtjeploipaejepaaLineStarts
import Derived.Test.YtjeploipaejepaaLineFind2
set_option linter.unusedVariables false
set_option linter.unusedSimpArgs false
namespace Go.Proofs.Ytjeploipaejepaa

theorem brk_mem (bs : List Int) (f : Int) (k : Nat) (x : Int) : x ∈ brk bs f k ↔ ∃ j : Nat, j < k ∧ bs.getD j 0 = 10 ∧ x = f + j + 1 := by
  induction k with
  | zero => simp [brk]
  | succ k ih =>
    simp only [brk]
    by_cases h : bs.getD k 0 = 10
    · rw [if_pos h, List.mem_append, ih, List.mem_singleton]
      constructor
      · rintro (⟨j, h1, h2, h3⟩ | h1)
        · exact ⟨j, by omega, h2, h3⟩
        · exact ⟨k, by omega, h, h1⟩
      · rintro ⟨j, h1, h2, h3⟩
        by_cases e : j = k
        · subst e; exact .inr h3
        · exact .inl ⟨j, by omega, h2, h3⟩
    · rw [if_neg h, ih]
      constructor
      · rintro ⟨j, h1, h2, h3⟩; exact ⟨j, by omega, h2, h3⟩
      · rintro ⟨j, h1, h2, h3⟩
        by_cases e : j = k
        · subst e; exact absurd h2 h
        · exact ⟨j, by omega, h2, h3⟩
theorem brk_sorted (bs : List Int) (f : Int) (k : Nat) : (brk bs f k).Pairwise (· < ·) := by
  induction k with
  | zero => exact List.Pairwise.nil
  | succ k ih =>
    simp only [brk]
    split
    · refine List.pairwise_append.2 ⟨ih, by simp, ?_⟩
      intro a ha b hb
      obtain ⟨j, h1, _, rfl⟩ := (brk_mem bs f k a).1 ha
      simp at hb
      omega
    · exact ih
theorem sts_sorted (bs : List Int) : (sts bs).Pairwise (· < ·) := by
  refine List.Pairwise.cons ?_ (brk_sorted bs 0 _)
  intro a ha
  obtain ⟨j, h1, _, rfl⟩ := (brk_mem bs 0 _ a).1 ha
  omega
theorem getD_mem {zs : List Int} {i : Nat} (h : i < zs.length) : zs.getD i 0 ∈ zs := by
  simp only [List.getD, List.getElem?_eq_getElem h, Option.getD_some]; exact List.getElem_mem h
theorem sts_mono (bs : List Int) : ∀ i j, i < j → j < (sts bs).length → (sts bs).getD i 0 < (sts bs).getD j 0 := by
  intro i j hij hj
  have := List.pairwise_iff_getElem.1 (sts_sorted bs) i j (by omega) hj hij
  simpa [List.getD, hj, show i < (sts bs).length by omega] using this
theorem sts_asc (bs : List Int) : asc (sts bs) := ⟨by simp [sts], by simp [sts], fun i hi => sts_mono bs i (i + 1) (by omega) hi⟩
theorem sts_mem (bs : List Int) (x : Int) : x ∈ sts bs ↔ x = 0 ∨ ∃ j : Nat, j < bs.length ∧ bs.getD j 0 = 10 ∧ x = j + 1 := by
  unfold sts
  rw [List.mem_cons, brk_mem]
  simp
theorem sts_pos (bs : List Int) (i : Nat) (hi : i < (sts bs).length) : ∃ d : Nat, (sts bs).getD i 0 = (d : Int) ∧ d ≤ bs.length := by
  rcases (sts_mem bs _).1 (getD_mem hi) with h | ⟨j, h1, h2, h3⟩
  · exact ⟨0, by simpa using h, by omega⟩
  · exact ⟨j + 1, by rw [h3]; simp, by omega⟩
/-- behind the last start stands no 10 -/
theorem sts_last (bs : List Int) (i d : Nat) (hi : i < (sts bs).length) (hd : (sts bs).getD i 0 = (d : Int)) (h : ∀ k, d ≤ k → k < bs.length → bs.getD k 0 ≠ 10) : i + 1 = (sts bs).length := by
  rcases Nat.lt_or_ge (i + 1) (sts bs).length with h1 | h1
  · have h2 := sts_mono bs i (i + 1) (by omega) h1
    rw [hd] at h2
    rcases (sts_mem bs _).1 (getD_mem h1) with h3 | ⟨j, h3, h4, h5⟩
    · omega
    · exact absurd h4 (h j (by omega) h3)
  · omega
theorem sts_next (bs : List Int) (i d c : Nat) (hi : i < (sts bs).length) (hd : (sts bs).getD i 0 = (d : Int)) (h1 : d + c < bs.length) (h2 : bs.getD (d + c) 0 = 10) (h3 : ∀ k, d ≤ k → k < d + c → bs.getD k 0 ≠ 10) :
    i + 1 < (sts bs).length ∧ (sts bs).getD (i + 1) 0 = ((d + c + 1 : Nat) : Int) := by
  have hm : ((d + c + 1 : Nat) : Int) ∈ sts bs := (sts_mem bs _).2 (.inr ⟨d + c, h1, h2, by simp⟩)
  obtain ⟨j, hj, hje⟩ := List.getElem_of_mem hm
  have hje2 : (sts bs).getD j 0 = ((d + c + 1 : Nat) : Int) := by simp [List.getD, hj, hje]
  have hij : i < j := by
    rcases Nat.lt_or_ge i j with h | h
    · exact h
    · rcases Nat.eq_or_lt_of_le h with e | e
      · subst e; rw [hd] at hje2; omega
      · have := sts_mono bs j i e hi; rw [hd, hje2] at this; omega
  rcases Nat.eq_or_lt_of_le (show i + 1 ≤ j from hij) with e | e
  · rw [e]; exact ⟨hj, hje2⟩
  · exfalso
    have a1 := sts_mono bs i (i + 1) (by omega) (by omega)
    have a2 := sts_mono bs (i + 1) j e hj
    rw [hd] at a1
    rw [hje2] at a2
    rcases (sts_mem bs _).1 (getD_mem (show i + 1 < (sts bs).length by omega)) with h | ⟨k, b1, b2, b3⟩
    · omega
    · exact absurd b2 (h3 k (by omega) (by omega))
end Go.Proofs.Ytjeploipaejepaa
