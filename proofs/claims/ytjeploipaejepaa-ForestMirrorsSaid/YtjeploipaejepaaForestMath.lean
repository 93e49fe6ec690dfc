/- Nested words as plain lists of kinds (0 internal, 1 call, 2 return): the stack of open calls, the partners. No Go in sight. -/
set_option linter.unusedVariables false
set_option linter.unusedSimpArgs false
namespace Go.Proofs.Ytjeploipaejepaa.Fo

/-- the open calls behind the first i symbols, the last one first -/
def stk (ks : List Int) : Nat → List Nat
  | 0 => []
  | i + 1 => if ks.getD i 0 = 1 then i :: stk ks i else if ks.getD i 0 = 2 then (stk ks i).tail else stk ks i
def upd (f : Nat → Int) (j : Nat) (v : Int) : Nat → Int := fun x => if x = j then v else f x
/-- the partners behind the first i symbols -/
def prs (ks : List Int) : Nat → Nat → Int
  | 0 => fun _ => -1
  | i + 1 => if ks.getD i 0 = 2 then (match stk ks i with
      | [] => prs ks i
      | c :: _ => upd (upd (prs ks i) i c) c i) else prs ks i

theorem stk_call {ks : List Int} {i : Nat} (h : ks.getD i 0 = 1) : stk ks (i + 1) = i :: stk ks i := by simp only [stk]; rw [if_pos h]
theorem stk_ret {ks : List Int} {i : Nat} (h : ks.getD i 0 = 2) : stk ks (i + 1) = (stk ks i).tail := by simp only [stk]; rw [if_neg (by omega), if_pos h]
theorem stk_int {ks : List Int} {i : Nat} (h1 : ¬ ks.getD i 0 = 1) (h2 : ¬ ks.getD i 0 = 2) : stk ks (i + 1) = stk ks i := by simp only [stk]; rw [if_neg h1, if_neg h2]
theorem prs_other {ks : List Int} {i : Nat} (h : ¬ ks.getD i 0 = 2) : prs ks (i + 1) = prs ks i := by simp only [prs]; rw [if_neg h]
theorem prs_lost {ks : List Int} {i : Nat} (h : ks.getD i 0 = 2) (h2 : stk ks i = []) : prs ks (i + 1) = prs ks i := by simp only [prs]; rw [if_pos h, h2]
theorem prs_ret {ks : List Int} {i c : Nat} {r : List Nat} (h : ks.getD i 0 = 2) (h2 : stk ks i = c :: r) : prs ks (i + 1) = upd (upd (prs ks i) i c) c i := by simp only [prs]; rw [if_pos h, h2]

theorem prs_out (ks : List Int) : ∀ (i j : Nat), i ≤ j → prs ks i j = -1 := by
  intro i
  induction i with
  | zero => intro j _; rfl
  | succ i ih =>
    intro j hj
    by_cases h : ks.getD i 0 = 2
    · cases h2 : stk ks i with
      | nil => rw [prs_lost h h2]; exact ih j (by omega)
      | cons c r =>
        rw [prs_ret h h2]
        have hc : c < i := by
          have : ∀ (i : Nat), ∀ x ∈ stk ks i, x < i := by
            intro i
            induction i with
            | zero => intro x hx; cases hx
            | succ i ih =>
              intro x hx
              by_cases a : ks.getD i 0 = 1
              · rw [stk_call a] at hx
                rcases List.mem_cons.1 hx with rfl | hx
                · omega
                · have := ih x hx; omega
              · by_cases b : ks.getD i 0 = 2
                · rw [stk_ret b] at hx
                  have := ih x (List.mem_of_mem_tail hx); omega
                · rw [stk_int a b] at hx
                  have := ih x hx; omega
          exact this i c (by rw [h2]; simp)
        unfold upd
        rw [if_neg (by omega), if_neg (by omega)]
        exact ih j (by omega)
    · rw [prs_other h]; exact ih j (by omega)
theorem stk_lt (ks : List Int) : ∀ (i : Nat), ∀ x ∈ stk ks i, x < i := by
  intro i
  induction i with
  | zero => intro x hx; cases hx
  | succ i ih =>
    intro x hx
    by_cases a : ks.getD i 0 = 1
    · rw [stk_call a] at hx
      rcases List.mem_cons.1 hx with rfl | hx
      · omega
      · have := ih x hx; omega
    · by_cases b : ks.getD i 0 = 2
      · rw [stk_ret b] at hx
        have := ih x (List.mem_of_mem_tail hx); omega
      · rw [stk_int a b] at hx
        have := ih x hx; omega
/-- the stack falls strictly -/
theorem stk_sorted (ks : List Int) : ∀ (i : Nat), (stk ks i).Pairwise (· > ·) := by
  intro i
  induction i with
  | zero => exact List.Pairwise.nil
  | succ i ih =>
    by_cases a : ks.getD i 0 = 1
    · rw [stk_call a]
      exact List.Pairwise.cons (fun x hx => stk_lt ks i x hx) ih
    · by_cases b : ks.getD i 0 = 2
      · rw [stk_ret b]; exact ih.sublist (List.tail_sublist _)
      · rw [stk_int a b]; exact ih
/-- WHAT STANDS ON THE STACK: the calls without a partner. -/
theorem stk_iff (ks : List Int) : ∀ (i c : Nat), c ∈ stk ks i ↔ (c < i ∧ ks.getD c 0 = 1 ∧ prs ks i c = -1) := by
  intro i
  induction i with
  | zero => intro c; simp [stk]
  | succ i ih =>
    intro c
    by_cases a : ks.getD i 0 = 1
    · rw [stk_call a, prs_other (by omega), List.mem_cons, ih c]
      constructor
      · rintro (rfl | ⟨h1, h2, h3⟩)
        · exact ⟨by omega, a, prs_out ks _ _ (Nat.le_refl _)⟩
        · exact ⟨by omega, h2, h3⟩
      · rintro ⟨h1, h2, h3⟩
        by_cases e : c = i
        · exact .inl e
        · exact .inr ⟨by omega, h2, h3⟩
    · by_cases b : ks.getD i 0 = 2
      · rw [stk_ret b]
        cases h2 : stk ks i with
        | nil =>
          rw [prs_lost b h2]
          have := ih c
          rw [h2] at this
          simp only [List.tail_nil, List.not_mem_nil, false_iff]
          rintro ⟨h1, h3, h4⟩
          have : c ≠ i := by rintro rfl; omega
          exact absurd ((ih c).2 ⟨by omega, h3, h4⟩) (by rw [h2]; simp)
        | cons d r =>
          rw [prs_ret b h2, List.tail_cons]
          have hs := stk_sorted ks i
          rw [h2] at hs
          have hd : ∀ {x}, x ∈ r → d > x := fun hx => List.rel_of_pairwise_cons hs hx
          have hdi := stk_lt ks i d (by rw [h2]; simp)
          have ihc := ih c
          rw [h2, List.mem_cons] at ihc
          unfold upd
          constructor
          · intro hc
            have hcd := hd hc
            obtain ⟨p1, p2, p3⟩ := ihc.1 (.inr hc)
            refine ⟨by omega, p2, ?_⟩
            rw [if_neg (by omega), if_neg (by omega)]; exact p3
          · rintro ⟨h1, h3, h4⟩
            have e1 : c ≠ i := by rintro rfl; omega
            by_cases e2 : c = d
            · rw [if_pos e2] at h4; omega
            · rw [if_neg e2, if_neg e1] at h4
              rcases ihc.2 ⟨by omega, h3, h4⟩ with h | h
              · exact absurd h e2
              · exact h
      · rw [stk_int a b, prs_other b, ih c]
        constructor
        · rintro ⟨h1, h2, h3⟩; exact ⟨by omega, h2, h3⟩
        · rintro ⟨h1, h2, h3⟩
          have : c ≠ i := by rintro rfl; omega
          exact ⟨by omega, h2, h3⟩
/-- PARTNERS ARE EACH OTHER's. -/
theorem prs_sym (ks : List Int) : ∀ (i j : Nat), prs ks i j = -1 ∨ ∃ k : Nat, prs ks i j = (k : Int) ∧ k < i ∧ j < i ∧ prs ks i k = (j : Int) ∧ ((ks.getD j 0 = 1 ∧ ks.getD k 0 = 2 ∧ j < k) ∨ (ks.getD j 0 = 2 ∧ ks.getD k 0 = 1 ∧ k < j)) := by
  intro i
  induction i with
  | zero => intro j; exact .inl rfl
  | succ i ih =>
    intro j
    have keep : prs ks (i + 1) = prs ks i → (prs ks (i + 1) j = -1 ∨ ∃ k : Nat, prs ks (i + 1) j = (k : Int) ∧ k < i + 1 ∧ j < i + 1 ∧ prs ks (i + 1) k = (j : Int) ∧ ((ks.getD j 0 = 1 ∧ ks.getD k 0 = 2 ∧ j < k) ∨ (ks.getD j 0 = 2 ∧ ks.getD k 0 = 1 ∧ k < j))) := by
      intro e
      rw [e]
      rcases ih j with h | ⟨k, h1, h2, h3, h4, h5⟩
      · exact .inl h
      · exact .inr ⟨k, h1, by omega, by omega, h4, h5⟩
    by_cases b : ks.getD i 0 = 2
    · cases h2 : stk ks i with
      | nil => exact keep (prs_lost b h2)
      | cons d r =>
        have hd := (stk_iff ks i d).1 (by rw [h2]; simp)
        rw [prs_ret b h2]
        by_cases e1 : j = d
        · subst e1
          refine .inr ⟨i, by unfold upd; rw [if_pos rfl], by omega, by omega, by unfold upd; rw [if_neg (by omega), if_pos rfl], .inl ⟨hd.2.1, b, hd.1⟩⟩
        · by_cases e2 : j = i
          · subst e2
            refine .inr ⟨d, by unfold upd; rw [if_neg e1, if_pos rfl], by omega, by omega, by unfold upd; rw [if_pos rfl], .inr ⟨b, hd.2.1, hd.1⟩⟩
          · rcases ih j with h | ⟨k, p1, p2, p3, p4, p5⟩
            · refine .inl ?_; unfold upd; rw [if_neg e1, if_neg e2]; exact h
            · have k1 : k ≠ d := by
                rintro rfl
                rw [hd.2.2] at p4; omega
              refine .inr ⟨k, by unfold upd; rw [if_neg e1, if_neg e2]; exact p1, by omega, by omega, by unfold upd; rw [if_neg k1, if_neg (by omega)]; exact p4, p5⟩
    · exact keep (prs_other b)
/-- What has a partner keeps it. -/
theorem prs_keep (ks : List Int) (i j : Nat) (h : prs ks i j ≠ -1) : prs ks (i + 1) j = prs ks i j := by
  by_cases b : ks.getD i 0 = 2
  · cases h2 : stk ks i with
    | nil => rw [prs_lost b h2]
    | cons d r =>
      have hd := (stk_iff ks i d).1 (by rw [h2]; simp)
      have e1 : j ≠ d := by rintro rfl; exact h hd.2.2
      have e2 : j ≠ i := by rintro rfl; exact h (prs_out ks _ _ (Nat.le_refl _))
      rw [prs_ret b h2]
      unfold upd; rw [if_neg e1, if_neg e2]
  · rw [prs_other b]
theorem prs_later (ks : List Int) (i j : Nat) (h : prs ks i j ≠ -1) : ∀ n, i ≤ n → prs ks n j = prs ks i j := by
  intro n hn
  induction n with
  | zero => have : i = 0 := by omega
            subst this; rfl
  | succ n ih =>
    by_cases e : i = n + 1
    · subst e; rfl
    · have := ih (by omega)
      rw [prs_keep ks n j (by rw [this]; exact h), this]
/-- a return's partner is settled where it stands -/
theorem prs_return (ks : List Int) (j : Nat) (hk : ¬ ks.getD j 0 = 1) : ∀ n, j < n → prs ks n j = prs ks (j + 1) j := by
  intro n hn
  induction n with
  | zero => omega
  | succ n ih =>
    by_cases e : j = n
    · subst e; rfl
    · rw [← ih (by omega)]
      by_cases b : ks.getD n 0 = 2
      · cases h2 : stk ks n with
        | nil => rw [prs_lost b h2]
        | cons d r =>
          have hd := (stk_iff ks n d).1 (by rw [h2]; simp)
          have e1 : j ≠ d := by rintro rfl; exact hk hd.2.1
          rw [prs_ret b h2]
          unfold upd; rw [if_neg e1, if_neg e]
      · rw [prs_other b]
end Go.Proofs.Ytjeploipaejepaa.Fo
