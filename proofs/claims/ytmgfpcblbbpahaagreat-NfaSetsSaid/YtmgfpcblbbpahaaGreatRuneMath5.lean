/- Sets of runes: what a cell is. No Go in sight. -/
import Derived.Test.YtmgfpcblbbpahaaGreatRuneMath4
set_option linter.unusedVariables false
set_option linter.unusedSimpArgs false
namespace Go.Proofs.YtmgfpcblbbpahaaGreat.Ru

theorem gaps_idx (P : List Pc) : ∀ (c : List Int) (q : Pc), q ∈ gaps P c → ∃ j, j + 1 < c.length ∧ q = (c.getD j 0, c.getD (j + 1) 0) ∧ inB P (c.getD j 0) = true
  | [], q, h => by simp [gaps] at h
  | [x], q, h => by simp [gaps] at h
  | x :: y :: l, q, h => by
    unfold gaps at h
    split at h
    · rename_i hc
      rcases List.mem_cons.1 h with rfl | h
      · exact ⟨0, by simp, rfl, hc.2⟩
      · obtain ⟨j, h1, h2, h3⟩ := gaps_idx P (y :: l) q h
        exact ⟨j + 1, by simpa using h1, by simpa using h2, by simpa using h3⟩
    · obtain ⟨j, h1, h2, h3⟩ := gaps_idx P (y :: l) q h
      exact ⟨j + 1, by simpa using h1, by simpa using h2, by simpa using h3⟩
theorem idx_gaps (P : List Pc) : ∀ (c : List Int) (j : Nat), j + 1 < c.length → c.getD j 0 < c.getD (j + 1) 0 → inB P (c.getD j 0) = true → (c.getD j 0, c.getD (j + 1) 0) ∈ gaps P c
  | [], j, h, _, _ => by simp at h
  | [x], j, h, _, _ => by simp at h
  | x :: y :: l, 0, _, h1, h2 => by
    unfold gaps
    rw [if_pos ⟨by simpa using h1, by simpa using h2⟩]; simp
  | x :: y :: l, j + 1, h, h1, h2 => by
    have := idx_gaps P (y :: l) j (by simpa using h) (by simpa using h1) (by simpa using h2)
    unfold gaps
    split
    · exact List.mem_cons_of_mem _ (by simpa using this)
    · simpa using this
theorem ends_gt {P : List Pc} (h : ∀ q ∈ P, 0 ≤ q.1 ∧ q.1 < q.2 ∧ q.2 ≤ 1112064) : ∀ z ∈ ends P, -1 < z := fun z hz => by
  obtain ⟨q, hq, e⟩ := (mem_ends P z).1 hz
  have := h q hq; omega
/-- a cell lies within A or outside, where A's ends are among P's -/
theorem cell_in {P A : List Pc} (h : ∀ q ∈ P, 0 ≤ q.1 ∧ q.1 < q.2 ∧ q.2 ≤ 1112064) (hA : ∀ q ∈ A, q ∈ P) {s t : Int} (hc : (s, t) ∈ cutF P) : s < t ∧ 0 ≤ s ∧ t ≤ 1112064 ∧ inB P s = true ∧ ∀ p, s ≤ p → p < t → inB A p = inB A s := by
  have hr := srtD_ris (ends_gt h)
  have hm := mem_srtD (ends_gt h)
  obtain ⟨j, h1, h2, h3⟩ := gaps_idx P _ _ hc
  simp only [Prod.mk.injEq] at h2
  obtain ⟨rfl, rfl⟩ := h2
  have hlt := hr.get j (j + 1) (by omega) h1
  have ha := hr.above _ (show (srtD (ends P)).getD j 0 ∈ srtD (ends P) by simp [List.getD, List.getElem?_eq_getElem (show j < (srtD (ends P)).length by omega)])
  have hmem : (srtD (ends P)).getD (j + 1) 0 ∈ srtD (ends P) := by simp [List.getD, List.getElem?_eq_getElem h1]
  have hb : (srtD (ends P)).getD (j + 1) 0 ≤ 1112064 := by
    obtain ⟨q, hq, e⟩ := (mem_ends P _).1 ((hm _).1 hmem)
    have := h q hq; omega
  refine ⟨hlt, by omega, hb, h3, fun p h4 h5 => inB_gap hr (fun z hz => ?_) h1 h4 h5⟩
  obtain ⟨q, hq, e⟩ := (mem_ends A z).1 hz
  exact (hm z).2 ((mem_ends P z).2 ⟨q, hA q hq, e⟩)
theorem cut_union {P : List Pc} (h : ∀ q ∈ P, 0 ≤ q.1 ∧ q.1 < q.2 ∧ q.2 ≤ 1112064) (p : Int) : inP (cutF P) p ↔ inP P p := by
  constructor
  · rintro ⟨⟨s, t⟩, hq, h1, h2⟩
    obtain ⟨_, _, _, h3, h4⟩ := cell_in h (fun q hq => hq) hq
    rw [← inB_iff, h4 p h1 h2]; exact h3
  · rintro ⟨q, hq, h1, h2⟩
    have hr := srtD_ris (ends_gt h)
    have hm := mem_srtD (ends_gt h)
    obtain ⟨i, hi, ei⟩ := List.getElem_of_mem ((hm q.1).2 ((mem_ends P _).2 ⟨q, hq, .inl rfl⟩))
    obtain ⟨k, hk, ek⟩ := List.getElem_of_mem ((hm q.2).2 ((mem_ends P _).2 ⟨q, hq, .inr rfl⟩))
    have gi : (srtD (ends P)).getD i 0 = q.1 := by simp [List.getD, List.getElem?_eq_getElem hi, ei]
    have gk : (srtD (ends P)).getD k 0 = q.2 := by simp [List.getD, List.getElem?_eq_getElem hk, ek]
    have h0 : (srtD (ends P)).getD 0 0 ≤ p := by
      by_cases e : i = 0
      · subst e; omega
      · have := hr.get 0 i (by omega) hi; omega
    obtain ⟨j, hj, h3, h4⟩ := gap_of (srtD (ends P)) k hk p h0 (by omega)
    have hB : inB P p = true := (inB_iff _ _).2 ⟨q, hq, h1, h2⟩
    have hc := inB_gap (a := P) hr (fun z hz => (hm z).2 hz) (show j + 1 < (srtD (ends P)).length by omega) h3 h4
    exact ⟨_, idx_gaps P _ j (by omega) (hr.get j (j + 1) (by omega) (by omega)) (by rw [← hc]; exact hB), h3, h4⟩
end Go.Proofs.YtmgfpcblbbpahaaGreat.Ru
