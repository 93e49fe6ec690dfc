/- gobolaw6.Make: the expression that numbers make: plain mathematics. -/
import Derived.Test.YtmgfpcblbbpahaaGreatAppF
import Derived.Test.YtmgfpcblbbpahaaGreatReMay
set_option linter.unusedVariables false
set_option linter.unusedSimpArgs false
namespace Go.Proofs.YtmgfpcblbbpahaaGreat
open Go.RowKit Ru

namespace M6
def lastR (s : List RE) : RE := s.getLast?.getD (.mk 0 [] [])
def oneR (r : Int) : RE := .mk 2 [(r, r)] []
/-- the set of one step: its first rune and how many more -/
def leafR (a b : Int) : RE := .mk 2 [(97 + a, 97 + a + b)] []
/-- one step over the stack -/
def stepR (k : Int) (s : List RE) : List RE :=
  let v := ((IntKind.u64.wrap k).tmod 9).toNat
  if v < 4 ∨ s.length = 0 then s ++ [leafR (bits BinOp.and IntKind.i64 k 1) (bits BinOp.and IntKind.i64 (v : Int) 1)]
  else if v = 4 then s.dropLast ++ [.mk 5 [] [lastR s]]
  else if 1 < s.length ∧ v < 7 then s.dropLast.dropLast ++ [.mk 3 [] [lastR s.dropLast, lastR s]]
  else if 1 < s.length then s.dropLast.dropLast ++ [.mk 4 [] [lastR s.dropLast, lastR s]]
  else if v = 8 then s ++ [.mk 1 [] []]
  else s
/-- the stack behind j numbers -/
def runR (l : List Int) : Nat → List RE
  | 0 => []
  | j + 1 => if j < l.length then stepR (l.getD j 0) (runR l j) else runR l j
theorem runR_next {l : List Int} {j : Nat} (h : j < l.length) : runR l (j + 1) = stepR (l.getD j 0) (runR l j) := if_pos h
theorem runR_stop {l : List Int} {j : Nat} (h : l.length ≤ j) : ∀ d, runR l (j + d) = runR l j
  | 0 => rfl
  | d + 1 => by rw [← Nat.add_assoc]; exact (if_neg (by omega)).trans (runR_stop h d)
def foldR : List RE → RE
  | [] => oneR 97
  | a :: t => t.foldl (fun e p => .mk 3 [] [e, p]) a
theorem foldR_snoc (s : List RE) (q : RE) (h : 0 < s.length) : foldR (s ++ [q]) = .mk 3 [] [foldR s, q] := by
  cases s with
  | nil => simp at h
  | cons a t => simp [foldR, List.foldl_append]
/-- what Make makes -/
def makeR (l : List Int) : RE := if (foldR (runR l 14)).may = true then foldR (runR l 14) else oneR 98
theorem makeR_at {l : List Int} {j : Nat} (hj : j ≤ 14) (h : l.length ≤ j ∨ j = 14) : runR l 14 = runR l j := by
  rcases h with h | h
  · have := runR_stop h (14 - j); rwa [show j + (14 - j) = 14 by omega] at this
  · rw [h]
/-- expressions of this kind alone are made -/
inductive G6 : RE → Prop
  | empty : G6 (.mk 1 [] [])
  | leaf {a b : Int} (ha : 97 ≤ a) (hab : a ≤ b) (hb : b ≤ 99) : G6 (.mk 2 [(a, b)] [])
  | star {p : RE} (h : G6 p) : G6 (.mk 5 [] [p])
  | two {k : Int} {p q : RE} (hk : k = 3 ∨ k = 4) (h : G6 p) (h2 : G6 q) : G6 (.mk k [] [p, q])
theorem g6_one {r : Int} (h : 97 ≤ r ∧ r ≤ 99) : G6 (oneR r) := .leaf h.1 (Int.le_refl _) h.2
theorem G6.fit {e : RE} (h : G6 e) : e.Fit := by
  induction h with
  | empty => exact .mk _ _ _ (fun p hp => by simp at hp) (by simp) (by simp) (fun i e he => by simp at he)
  | leaf ha hab hb => exact .mk _ _ _ (fun p hp => by simp at hp; subst hp; simp; omega) (by simp) (by simp) (fun i e he => by simp at he)
  | star h ih => exact .mk _ _ _ (fun p hp => by simp at hp) (by simp) (by simp) (fun i e he => by
      match i, he with
      | 0, he => cases he; exact ih
      | i + 1, he => simp at he)
  | two hk h h2 ih ih2 => exact .mk _ _ _ (fun p hp => by simp at hp) (by simp) (by simp) (fun i e he => by
      match i, he with
      | 0, he => cases he; exact ih
      | 1, he => cases he; exact ih2
      | i + 2, he => simp at he)
theorem wrap_bit (k : Int) : 0 ≤ bits BinOp.and IntKind.i64 k 1 ∧ bits BinOp.and IntKind.i64 k 1 ≤ 1 := by
  rcases afbits_one k with h | h <;> rw [h] <;> decide
theorem lastR_snoc (s : List RE) (p : RE) : lastR (s ++ [p]) = p := by simp [lastR]
/-- the stack is good, and not too great -/
structure Good (j : Nat) (s : List RE) : Prop where
  all : ∀ p ∈ s, G6 p
  len : s.length ≤ j
  size : RE.sizes s ≤ j
theorem sizes_append : ∀ (a b : List RE), RE.sizes (a ++ b) = RE.sizes a + RE.sizes b := by
  intro a b
  induction a with
  | nil => simp [RE.sizes_nil]
  | cons x a ih => rw [List.cons_append, RE.sizes_cons, RE.sizes_cons, ih]; omega
theorem cut_last {s : List RE} (h : 0 < s.length) : s = s.dropLast ++ [lastR s] := by
  rcases List.eq_nil_or_concat s with rfl | ⟨l, q, rfl⟩
  · simp at h
  · simp [lastR]
theorem Good.step {j : Nat} {s : List RE} (k : Int) (h : Good j s) : Good (j + 1) (stepR k s) := by
  have hb := wrap_bit k
  obtain ⟨v, hv⟩ : ∃ v, v = ((IntKind.u64.wrap k).tmod 9).toNat := ⟨_, rfl⟩
  have hb2 := wrap_bit (v : Int)
  unfold stepR
  rw [← hv]
  have hl := h.len
  have hz := h.size
  simp only
  split
  · refine ⟨fun p hp => ?_, by simp; omega, by rw [sizes_append, RE.sizes_cons, RE.sizes_nil, leafR, RE.size_mk, RE.sizes_nil]; omega⟩
    rcases List.mem_append.1 hp with h1 | h1
    · exact h.all p h1
    · simp at h1; subst h1; exact .leaf (by omega) (by omega) (by omega)
  · rename_i h1
    have e1 := cut_last (s := s) (by omega)
    have z1 : RE.sizes s = RE.sizes s.dropLast + (lastR s).size := by
      rw [congrArg RE.sizes e1, sizes_append, RE.sizes_cons, RE.sizes_nil]; omega
    have l1 : s.length = s.dropLast.length + 1 := by simp; omega
    have g1 : G6 (lastR s) := h.all _ (by rw [e1]; simp [lastR])
    have gd : ∀ p ∈ s.dropLast, G6 p := fun p hp => h.all p (List.dropLast_subset s hp)
    split
    · refine ⟨fun p hp => ?_, by simp; omega, by rw [sizes_append, RE.sizes_cons, RE.sizes_nil, RE.size_mk, RE.sizes_cons, RE.sizes_nil]; omega⟩
      rcases List.mem_append.1 hp with h2 | h2
      · exact gd p h2
      · simp at h2; subst h2; exact .star g1
    · have two : 1 < s.length → ∀ kk : Int, kk = 3 ∨ kk = 4 → Good (j + 1) (s.dropLast.dropLast ++ [.mk kk [] [lastR s.dropLast, lastR s]]) := by
        intro h2 kk hkk
        have e2 := cut_last (s := s.dropLast) (by simp; omega)
        have z2 : RE.sizes s.dropLast = RE.sizes s.dropLast.dropLast + (lastR s.dropLast).size := by
          rw [congrArg RE.sizes e2, sizes_append, RE.sizes_cons, RE.sizes_nil]; omega
        have g2 : G6 (lastR s.dropLast) := gd _ (by rw [e2]; simp [lastR])
        refine ⟨fun p hp => ?_, by simp; omega, by rw [sizes_append, RE.sizes_cons, RE.sizes_nil, RE.size_mk, RE.sizes_cons, RE.sizes_cons, RE.sizes_nil]; omega⟩
        rcases List.mem_append.1 hp with h3 | h3
        · exact gd p (List.dropLast_subset s.dropLast h3)
        · simp at h3; subst h3; exact .two hkk g2 g1
      split
      · rename_i h2; exact two h2.1 3 (.inl rfl)
      · split
        · rename_i h2; exact two h2 4 (.inr rfl)
        · split
          · refine ⟨fun p hp => ?_, by simp; omega, by rw [sizes_append, RE.sizes_cons, RE.sizes_nil, RE.size_mk, RE.sizes_nil]; omega⟩
            rcases List.mem_append.1 hp with h2 | h2
            · exact h.all p h2
            · simp at h2; subst h2; exact .empty
          · exact ⟨h.all, by omega, by omega⟩
theorem good_run (l : List Int) : ∀ j, Good j (runR l j)
  | 0 => ⟨fun p h => by simp [runR] at h, by simp [runR], by simp [runR, RE.sizes_nil]⟩
  | j + 1 => by
    unfold runR
    split
    · exact (good_run l j).step _
    · have := good_run l j; exact ⟨this.all, by have := this.len; omega, by have := this.size; omega⟩
theorem fold_good : ∀ (s : List RE) (a : RE), G6 a → (∀ p ∈ s, G6 p) → G6 (s.foldl (fun e p => .mk 3 [] [e, p]) a) ∧ (s.foldl (fun e p => RE.mk 3 [] [e, p]) a).size = a.size + RE.sizes s + s.length := by
  intro s
  induction s with
  | nil => intro a ha _; exact ⟨ha, by simp [RE.sizes_nil]⟩
  | cons x s ih =>
    intro a ha h
    obtain ⟨h1, h2⟩ := ih (.mk 3 [] [a, x]) (.two (.inl rfl) ha (h x (by simp))) (fun p hp => h p (by simp [hp]))
    refine ⟨h1, ?_⟩
    rw [List.foldl_cons, h2, RE.size_mk, RE.sizes_cons, RE.sizes_cons, RE.sizes_nil, RE.sizes_cons, List.length_cons]
    omega
theorem foldR_good {j : Nat} {s : List RE} (h : Good j s) : G6 (foldR s) ∧ (foldR s).size ≤ 2 * j + 1 := by
  cases s with
  | nil => exact ⟨g6_one (by decide), by rw [foldR, oneR, RE.size_mk, RE.sizes_nil]; omega⟩
  | cons a t =>
    obtain ⟨h1, h2⟩ := fold_good t a (h.all a (by simp)) (fun p hp => h.all p (by simp [hp]))
    refine ⟨h1, ?_⟩
    have := h.len
    have := h.size
    rw [RE.sizes_cons] at this
    simp at *
    rw [foldR, h2]
    omega
/-- what is made may be -/
theorem makeR_ok (l : List Int) : G6 (makeR l) ∧ (makeR l).may = true ∧ (makeR l).size ≤ 29 := by
  obtain ⟨h1, h2⟩ := foldR_good (good_run l 14)
  unfold makeR
  split
  · rename_i h; exact ⟨h1, h, by omega⟩
  · exact ⟨g6_one (by decide), by decide +kernel, by rw [oneR, RE.size_mk, RE.sizes_nil]; omega⟩
end M6
end Go.Proofs.YtmgfpcblbbpahaaGreat
