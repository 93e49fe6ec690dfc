/- nfa.Build's tables: plain mathematics. -/
import Derived.Test.YtmgfpcblbbpahaaGreatNfGlu
import Derived.Test.YtmgfpcblbbpahaaGreatNfMath
import Derived.Lib.RowBridge
set_option linter.unusedVariables false
set_option linter.unusedSimpArgs false
namespace Go.Proofs.YtmgfpcblbbpahaaGreat
open Go.RowKit Ru

namespace Nf
/-- while Build goes: the rule, the next place, the followers, the ends -/
structure BS where
  k : Nat
  n : Int
  F : List (List Int)
  E : List (List Int)
/-- one expression more -/
def bst (x : BS) (e : RE) : BS :=
  ⟨x.k + 1, (pt e x.n x.F).2.1, linkF (pt e x.n x.F).2.2 [0] (pt e x.n x.F).1.2.1, linkF (if (pt e x.n x.F).1.1 = true then linkF x.E [0] [(x.k : Int)] else x.E) (pt e x.n x.F).1.2.2 [(x.k : Int)]⟩
def bl (l : List RE) (x : BS) : BS := l.foldl bst x
/-- what Build begins with: the sets behind the empty one, no followers, no ends -/
def b0 (N : Nat) : BS := ⟨0, 1, List.replicate N [], List.replicate N []⟩
theorem bl_next (l : List RE) (x : BS) (k : Nat) (e : RE) (h : l[k]? = some e) : bl (l.take (k + 1)) x = bst (bl (l.take k) x) e := by
  unfold bl
  rw [List.take_add_one, h, List.foldl_append]
  rfl
theorem stsL_next (l : List RE) (k : Nat) (e : RE) (h : l[k]? = some e) : stsL (l.take (k + 1)) = stsL (l.take k) ++ sts e := by
  have hA : ∀ (a b : List RE), stsL (a ++ b) = stsL a ++ stsL b := by
    intro a b
    induction a with
    | nil => rw [stsL_nil]; rfl
    | cons x a ih => rw [List.cons_append, stsL_cons, stsL_cons, ih, List.append_assoc]
  rw [List.take_add_one, h, hA]
  simp [stsL_cons, stsL_nil]
structure BOk (N i m : Nat) (x : BS) : Prop where
  k : x.k = i
  n : x.n = 1 + (m : Int)
  lf : x.F.length = N
  le : x.E.length = N
  rf : ∀ r ∈ x.F, r.length ≤ i * 216060
  re : ∀ r ∈ x.E, r.length ≤ i + m
  mf : ∀ r ∈ x.F, ∀ y ∈ r, 0 ≤ y ∧ y < (N : Int)
  me : ∀ r ∈ x.E, ∀ y ∈ r, 0 ≤ y ∧ y < (i : Int)
theorem b0_ok (N : Nat) : BOk N 0 0 (b0 N) := by
  refine ⟨rfl, rfl, List.length_replicate, List.length_replicate, ?_, ?_, ?_, ?_⟩ <;> (intro r hr; rw [(List.mem_replicate.1 hr).2]; simp)
theorem bst_ok {N i m : Nat} {x : BS} (h : BOk N i m x) (e : RE) (hp : e.prt = true) (hs : e.size ≤ 60) (hm : m + (sts e).length + 1 ≤ N) : BOk N (i + 1) (m + (sts e).length) (bst x e) := by
  have hpt := pt_ok e.size e (Nat.le_refl _) hp x.n x.F (by rw [h.n]; omega)
  have hss := sts_size e.size e (Nat.le_refl _) hp
  have hnx := hpt.nxt
  have hn := h.n
  have hk := h.k
  unfold bst
  generalize pt e x.n x.F = r at hpt hnx
  have h1 := hpt.fl
  have h2 := hpt.ll
  have hsq : (sts e).length * (sts e).length ≤ 60 * 60 := Nat.mul_le_mul (by omega) (by omega)
  have hsz : e.size * ((sts e).length * (sts e).length) ≤ 60 * (60 * 60) := Nat.mul_le_mul hs hsq
  refine ⟨by simp [hk], by show r.2.1 = _; rw [hnx, hn]; omega, by show (linkF r.2.2 [0] r.1.2.1).length = N; rw [linkF_len, hpt.len, h.lf], ?_, ?_, ?_, ?_, ?_⟩
  · show (linkF (if r.1.1 = true then linkF x.E [0] [(x.k : Int)] else x.E) r.1.2.2 [(x.k : Int)]).length = N
    rw [linkF_len]; split
    · rw [linkF_len, h.le]
    · exact h.le
  · intro q hq
    have := linkF_row r.1.2.1 _ [0] r.2.2 (hpt.row _ h.rf) q hq
    simp only [List.length_singleton, Nat.one_mul] at this
    omega
  · intro q hq
    have := linkF_row [(x.k : Int)] (i + 1 + m) r.1.2.2 (if r.1.1 = true then linkF x.E [0] [(x.k : Int)] else x.E) (fun q hq => by
      split at hq
      · have := linkF_row [(x.k : Int)] _ [0] x.E h.re q hq
        simp only [List.length_singleton, Nat.one_mul] at this
        omega
      · have := h.re q hq; omega) q hq
    simp only [List.length_singleton, Nat.mul_one] at this
    omega
  · refine linkF_mem r.1.2.1 (fun y => 0 ≤ y ∧ y < (N : Int)) (fun y hy => ?_) [0] r.2.2 (hpt.mem N (by rw [hnx, hn]; omega) h.mf)
    have := hpt.fst y hy
    rw [hnx, hn] at this
    omega
  · refine linkF_mem [(x.k : Int)] (fun y => 0 ≤ y ∧ y < ((i + 1 : Nat) : Int)) (fun y hy => ?_) r.1.2.2 _ ?_
    · rw [List.mem_singleton.1 hy]; omega
    · split
      · refine linkF_mem [(x.k : Int)] (fun y => 0 ≤ y ∧ y < ((i + 1 : Nat) : Int)) (fun y hy => ?_) [0] _ (fun q hq y hy => ?_)
        · rw [List.mem_singleton.1 hy]; omega
        · have := h.me q hq y hy; omega
      · intro q hq y hy; have := h.me q hq y hy; omega
theorem bl_ok (l : List RE) (hl : ∀ e ∈ l, e.prt = true ∧ e.size ≤ 60) : ∀ i, i ≤ l.length → BOk (1 + (stsL l).length) i (stsL (l.take i)).length (bl (l.take i) (b0 (1 + (stsL l).length))) := by
  intro i
  induction i with
  | zero => intro _; rw [List.take_zero, stsL_nil]; exact b0_ok _
  | succ i ih =>
    intro hi
    obtain ⟨e, he⟩ : ∃ e, l[i]? = some e := ⟨l[i], List.getElem?_eq_getElem (by omega)⟩
    have hle := hl e (List.mem_of_getElem? he)
    rw [bl_next l _ i e he, stsL_next l i e he, List.length_append]
    refine bst_ok (ih (by omega)) e hle.1 hle.2 ?_
    have h1 := stsL_next l i e he
    have h2 : ∀ (j : Nat), (stsL (l.take j)).length ≤ (stsL l).length := by
      intro j
      induction j with
      | zero => rw [List.take_zero, stsL_nil]; simp
      | succ j ihj =>
        have hA : ∀ (a b : List RE), (stsL (a ++ b)).length = (stsL a).length + (stsL b).length := by
          intro a b
          induction a with
          | nil => rw [stsL_nil]; simp
          | cons x a ih => rw [List.cons_append, stsL_cons, stsL_cons, List.length_append, List.length_append, ih]; omega
        have := hA (l.take (j + 1)) (l.drop (j + 1))
        rw [List.take_append_drop] at this
        omega
    have h3 := h2 (i + 1)
    rw [h1, List.length_append] at h3
    omega
theorem stsL_size (l : List RE) (hl : ∀ e ∈ l, e.prt = true ∧ e.size ≤ 60) : (stsL l).length ≤ l.length * 60 := by
  induction l with
  | nil => rw [stsL_nil]; simp
  | cons e l ih =>
    have h1 := hl e (by simp)
    have h2 := sts_size e.size e (Nat.le_refl _) h1.1
    have h3 := ih (fun e he => hl e (by simp [he]))
    rw [stsL_cons, List.length_append, List.length_cons, Nat.succ_mul]
    omega
end Nf
end Go.Proofs.YtmgfpcblbbpahaaGreat
