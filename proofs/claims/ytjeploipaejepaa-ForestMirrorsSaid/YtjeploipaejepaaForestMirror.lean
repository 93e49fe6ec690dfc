/- The partners are the only matching of their kind; so those of a mirrored word are the mirrored ones. No Go in sight. -/
import Derived.Test.YtjeploipaejepaaForestMath2
set_option linter.unusedVariables false
set_option linter.unusedSimpArgs false
namespace Go.Proofs.Ytjeploipaejepaa.Fo

/-- a matching: symmetric, a call ahead of its return; nested; no lost return behind an open call -/
structure Good (ks : List Int) (n : Nat) (M : Nat → Int) : Prop where
  sym : ∀ i, i < n → M i = -1 ∨ ∃ k : Nat, M i = (k : Int) ∧ k < n ∧ M k = (i : Int) ∧ ((ks.getD i 0 = 1 ∧ ks.getD k 0 = 2 ∧ i < k) ∨ (ks.getD i 0 = 2 ∧ ks.getD k 0 = 1 ∧ k < i))
  nest : ∀ i k j : Nat, i < n → M i = (k : Int) → i < k → i < j → j < k → (ks.getD j 0 = 1 ∨ ks.getD j 0 = 2) → ∃ m : Nat, M j = (m : Int) ∧ i < m ∧ m < k
  greedy : ∀ i j, i < n → j < n → ks.getD i 0 = 1 → M i = -1 → ks.getD j 0 = 2 → M j = -1 → j < i

theorem prs_good (ks : List Int) (n : Nat) : Good ks n (prs ks n) where
  sym := fun i hi => by
    rcases prs_sym ks n i with h | ⟨k, h1, h2, _, h4, h5⟩
    · exact .inl h
    · exact .inr ⟨k, h1, h2, h4, h5⟩
  nest := fun i k j _ h hik h1 h2 hj => prs_nest ks n i k j h hik h1 h2 hj
  greedy := fun i j hi hj h1 h2 h3 h4 => lost_open ks n i j hi hj h1 h2 h3 h4

/-- at a return -/
theorem good_ret {ks : List Int} {n : Nat} {M : Nat → Int} (h : Good ks n M) : ∀ b j, j < b → j < n → ks.getD j 0 = 2 → M j = prs ks n j := by
  intro b
  induction b with
  | zero => intro j hj; omega
  | succ b ih =>
    intro j hj hjn hk
    by_cases hjb : j < b
    · exact ih j hjb hjn hk
    obtain rfl : j = b := by omega
    -- a call that M or prs binds to a return ahead of j is bound alike
    have hopen : ∀ i, i < j → ks.getD i 0 = 1 → (∀ r : Nat, r < j → M i ≠ (r : Int)) → i ∈ stk ks j := by
      intro i hij hi hno
      refine (stk_iff ks j i).2 ⟨hij, hi, ?_⟩
      rcases prs_sym ks j i with h1 | ⟨r, h1, h2, _, h4, h5⟩
      · exact h1
      · exfalso
        have hr : ks.getD r 0 = 2 := by rcases h5 with h5 | h5 <;> omega
        have e := ih r h2 (by omega) hr
        have e2 := prs_later ks j r (by omega) n (by omega)
        rcases h.sym r (by omega) with e3 | ⟨q, e3, _, e4, _⟩
        · omega
        · have : q = i := by omega
          subst this
          exact hno r h2 e4
    have hstk : ∀ i, i ∈ stk ks j → ∀ r : Nat, r < j → M i ≠ (r : Int) := by
      intro i hi r hr he
      obtain ⟨a1, a2, a3⟩ := (stk_iff ks j i).1 hi
      rcases h.sym i (by omega) with e1 | ⟨q, e1, _, e3, e4⟩
      · omega
      · have : q = r := by omega
        subst this
        have hq : ks.getD q 0 = 2 := by rcases e4 with e4 | e4 <;> omega
        have e := ih q hr (by omega) hq
        have e5 := prs_return ks q (by omega) n (by omega)
        have e6 := prs_return ks q (by omega) j hr
        rcases prs_sym ks j q with h1 | ⟨p, h1, _, _, h4, _⟩
        · omega
        · have : p = i := by omega
          subst this; omega
    cases hs : stk ks j with
    | nil =>
      have hp : prs ks n j = -1 := by rw [prs_return ks j (by omega) n hjn, prs_lost hk hs, prs_out ks j j (Nat.le_refl _)]
      rw [hp]
      rcases h.sym j hjn with e | ⟨i, e1, e2, e3, e4⟩
      · exact e
      · exfalso
        have hi : ks.getD i 0 = 1 ∧ i < j := by rcases e4 with e4 | e4 <;> omega
        have hm := hopen i hi.2 hi.1 (fun r hr he => by omega)
        rw [hs] at hm; cases hm
    | cons c r =>
      have hcm : c ∈ stk ks j := by rw [hs]; simp
      have hcj := stk_lt ks j c hcm
      have hck := ((stk_iff ks j c).1 hcm).2.1
      have hp : prs ks n j = c := by
        rw [prs_return ks j (by omega) n hjn, prs_ret hk hs]
        unfold upd; rw [if_neg (by omega), if_pos rfl]
      rw [hp]
      have hno := hstk c hcm
      rcases h.sym j hjn with e | ⟨i, e1, e2, e3, e4⟩
      · exfalso
        rcases h.sym c (by omega) with e5 | ⟨k, e5, e6, e7, e8⟩
        · have := h.greedy c j (by omega) hjn hck e5 hk e; omega
        · have hkc : c < k := by rcases e8 with e8 | e8 <;> omega
          have hkj : ¬ k < j := fun hlt => hno k hlt e5
          have hkj2 : k ≠ j := by rintro rfl; omega
          obtain ⟨m, e9, _⟩ := h.nest c k j (by omega) e5 hkc hcj (by omega) (.inr hk)
          omega
      · have hi : ks.getD i 0 = 1 ∧ i < j := by rcases e4 with e4 | e4 <;> omega
        by_cases hic : i = c
        · rw [e1, hic]
        · exfalso
          have hm := hopen i hi.2 hi.1 (fun r hr he => by omega)
          have hsd := stk_sorted ks j
          rw [hs] at hsd hm
          have hlt : i < c := by
            rcases List.mem_cons.1 hm with e5 | e5
            · exact absurd e5 hic
            · exact (List.pairwise_cons.1 hsd).1 i e5
          obtain ⟨m, e5, e6, e7⟩ := h.nest i j c (by omega) e3 hi.2 hlt hcj (.inl hck)
          exact hno m e7 e5

theorem good_uniq {ks : List Int} {n : Nat} {M : Nat → Int} (h : Good ks n M) (i : Nat) (hi : i < n) : M i = prs ks n i := by
  rcases h.sym i hi with e | ⟨k, e1, e2, e3, e4⟩
  · rcases prs_sym ks n i with p | ⟨k, p1, p2, _, p4, p5⟩
    · omega
    · exfalso
      rcases p5 with ⟨a, b, c⟩ | ⟨a, b, c⟩
      · have := good_ret h (k + 1) k (by omega) p2 b
        rcases h.sym k p2 with q | ⟨m, q1, _, q3, _⟩
        · omega
        · have : m = i := by omega
          subst this; omega
      · have := good_ret h (i + 1) i (by omega) hi a; omega
  · rcases e4 with ⟨a, b, c⟩ | ⟨a, b, c⟩
    · have := good_ret h (k + 1) k (by omega) e2 b
      rcases prs_sym ks n k with q | ⟨m, q1, _, _, q4, _⟩
      · omega
      · have : m = i := by omega
        subst this; omega
    · exact good_ret h (i + 1) i (by omega) hi a

def swap (k : Int) : Int := if k = 1 then 2 else if k = 2 then 1 else k
theorem swap1 (k : Int) : swap k = 1 ↔ k = 2 := by unfold swap; split <;> (try split) <;> omega
theorem swap2 (k : Int) : swap k = 2 ↔ k = 1 := by unfold swap; split <;> (try split) <;> omega
/-- the mirrored partners -/
def mir (ks : List Int) (n x : Nat) : Int := if prs ks n (n - 1 - x) < 0 then -1 else (n : Int) - 1 - prs ks n (n - 1 - x)
theorem mir_good (ks ms : List Int) (n : Nat) (hm : ∀ x, x < n → ms.getD x 0 = swap (ks.getD (n - 1 - x) 0)) : Good ms n (mir ks n) := by
  have hs := (prs_good ks n)
  have key : ∀ x, x < n → (prs ks n (n - 1 - x) = -1 ∧ mir ks n x = -1) ∨ ∃ y : Nat, y < n ∧ mir ks n x = (y : Int) ∧ prs ks n (n - 1 - x) = ((n - 1 - y : Nat) : Int) ∧ prs ks n (n - 1 - y) = ((n - 1 - x : Nat) : Int) ∧
      ((ks.getD (n - 1 - x) 0 = 1 ∧ ks.getD (n - 1 - y) 0 = 2 ∧ y < x) ∨ (ks.getD (n - 1 - x) 0 = 2 ∧ ks.getD (n - 1 - y) 0 = 1 ∧ x < y)) := by
    intro x hx
    rcases hs.sym (n - 1 - x) (by omega) with e | ⟨k, e1, e2, e3, e4⟩
    · exact .inl ⟨e, by unfold mir; rw [e]; rfl⟩
    · have ek : n - 1 - (n - 1 - k) = k := by omega
      refine .inr ⟨n - 1 - k, by omega, ?_, by rw [ek]; exact e1, by rw [ek]; exact e3, ?_⟩
      · unfold mir; rw [e1, if_neg (by omega)]; omega
      · rw [ek]; rcases e4 with ⟨a, b, c⟩ | ⟨a, b, c⟩
        · exact .inl ⟨a, b, by omega⟩
        · exact .inr ⟨a, b, by omega⟩
  constructor
  · intro x hx
    rcases key x hx with ⟨_, e⟩ | ⟨y, hy, e1, e2, e3, e4⟩
    · exact .inl e
    · refine .inr ⟨y, e1, hy, ?_, ?_⟩
      · rcases key y hy with ⟨q, _⟩ | ⟨z, hz, q1, q2, _⟩
        · omega
        · rw [q1]; omega
      · rw [hm x hx, hm y hy]
        rcases e4 with ⟨a, b, c⟩ | ⟨a, b, c⟩
        · exact .inr ⟨(swap2 _).2 a, (swap1 _).2 b, c⟩
        · exact .inl ⟨(swap1 _).2 a, (swap2 _).2 b, c⟩
  · intro x y z hx he hxy h1 h2 hz
    rcases key x hx with ⟨_, e⟩ | ⟨y', hy, e1, e2, e3, e4⟩
    · omega
    · obtain rfl : y' = y := by omega
      rw [hm z (by omega), swap1, swap2] at hz
      obtain ⟨m, q1, q2, q3⟩ := hs.nest (n - 1 - y') (n - 1 - x) (n - 1 - z) (by omega) e3 (by omega) (by omega) (by omega) hz.symm
      refine ⟨n - 1 - m, ?_, by omega, by omega⟩
      unfold mir; rw [q1, if_neg (by omega)]; omega
  · intro x z hx hz h1 h2 h3 h4
    rw [hm x hx, swap1] at h1
    rw [hm z hz, swap2] at h3
    have p1 : prs ks n (n - 1 - x) = -1 := by
      rcases key x hx with ⟨e, _⟩ | ⟨y, _, e1, _⟩
      · exact e
      · omega
    have p2 : prs ks n (n - 1 - z) = -1 := by
      rcases key z hz with ⟨e, _⟩ | ⟨y, _, e1, _⟩
      · exact e
      · omega
    have := hs.greedy (n - 1 - z) (n - 1 - x) (by omega) (by omega) h3 p2 h1 p1
    omega
theorem prs_mirror (ks ms : List Int) (n : Nat) (hm : ∀ x, x < n → ms.getD x 0 = swap (ks.getD (n - 1 - x) 0)) (i : Nat) (hi : i < n) :
    prs ms n (n - 1 - i) = if prs ks n i < 0 then -1 else (n : Int) - 1 - prs ks n i := by
  have h := good_uniq (mir_good ks ms n hm) (n - 1 - i) (by omega)
  rw [← h]
  unfold mir
  rw [show n - 1 - (n - 1 - i) = i by omega]
/-- the open Calls are the mirrored word's lost Returns -/
theorem alo_mirror (ks ms : List Int) (n : Nat) (hm : ∀ x, x < n → ms.getD x 0 = swap (ks.getD (n - 1 - x) 0)) : (alo ms 2 n n).length = (alo ks 1 n n).length := by
  have e : alo ms 2 n n = (alo ks 1 n n).reverse.map (fun j => n - 1 - j) := by
    refine sorted_ext _ _ (alo_sorted ms 2 n n) ?_ fun x => ?_
    · rw [List.pairwise_map, List.pairwise_reverse]
      refine List.Pairwise.imp_of_mem ?_ (alo_sorted ks 1 n n)
      intro a b ha hb hab
      have := ((alo_mem _ _ _ _ _).1 ha).1
      have := ((alo_mem _ _ _ _ _).1 hb).1
      omega
    · rw [alo_mem, List.mem_map]
      constructor
      · rintro ⟨hx, hp, hk⟩
        refine ⟨n - 1 - x, ?_, by omega⟩
        rw [List.mem_reverse, alo_mem]
        have h := prs_mirror ks ms n hm (n - 1 - x) (by omega)
        rw [show n - 1 - (n - 1 - x) = x by omega, hp] at h
        rw [hm x hx, swap2] at hk
        refine ⟨by omega, ?_, hk⟩
        rcases prs_sym ks n (n - 1 - x) with q | ⟨k, q, q2, _⟩
        · exact q
        · rw [q, if_neg (by omega)] at h; omega
      · rintro ⟨j, hj, rfl⟩
        rw [List.mem_reverse, alo_mem] at hj
        obtain ⟨hj, hp, hk⟩ := hj
        have h := prs_mirror ks ms n hm j hj
        rw [hp] at h
        refine ⟨by omega, by simpa using h, ?_⟩
        rw [hm _ (by omega), show n - 1 - (n - 1 - j) = j by omega, swap2]; exact hk
  rw [e]; simp
end Go.Proofs.Ytjeploipaejepaa.Fo
