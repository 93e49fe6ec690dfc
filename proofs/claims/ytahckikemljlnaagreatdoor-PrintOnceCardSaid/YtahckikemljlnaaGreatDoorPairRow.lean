/- Slices of pairs of whole numbers as lists: lemmas on their cells. No program's numbers. -/
import Derived.Test.YtahckikemljlnaaGreatDoorRowsOf
import Derived.ChangeSlices
import Derived.ChangeSame
import Derived.ChangeArms
import Derived.Deep.Slices
import Derived.Lib.SmallJoins
import Derived.WideShapes
import Derived.ProofKit
import Derived.OpenShut
import Derived.WalkKit
set_option linter.unusedVariables false
set_option linter.unusedSimpArgs false
namespace Go.Proofs.YtahckikemljlnaaGreatDoor
open Go.RowKit Go.ChangeShapes Go.WideShapes Go.ChangeAt Go.Deep Go.Joins

def flatK (k : IntKind) (l : List (Int × Int)) : List Value := l.flatMap fun p => [.int k p.1, .int k p.2]
theorem flatK_get (k : IntKind) : ∀ (l : List (Int × Int)) (j : Nat) (u : Value), (flatK k l)[j]? = some u → ∃ i, i < l.length ∧ ((j = i * 2 ∧ u = .int k (l.getD i (0, 0)).1) ∨ (j = i * 2 + 1 ∧ u = .int k (l.getD i (0, 0)).2))
  | [], j, u, h => by simp [flatK] at h
  | p :: l, 0, u, h => ⟨0, by simp, .inl ⟨rfl, by simp [flatK] at h; simp [h]⟩⟩
  | p :: l, 1, u, h => ⟨0, by simp, .inr ⟨rfl, by simp [flatK] at h; simp [h]⟩⟩
  | p :: l, j + 2, u, h => by
    have e2 : flatK k (p :: l) = .int k p.1 :: .int k p.2 :: flatK k l := rfl
    rw [e2] at h
    obtain ⟨i, hi, h1⟩ := flatK_get k l j u (by simpa using h)
    refine ⟨i + 1, by simpa using hi, ?_⟩
    rcases h1 with ⟨hj, hu⟩ | ⟨hj, hu⟩
    · exact .inl ⟨by omega, by rw [hu]; simp⟩
    · exact .inr ⟨by omega, by rw [hu]; simp⟩

theorem arg_pairs {P : Program} {W : World} {H : Type} {enc : TypeId × Value → H} {r : Reach} {b0 : Nat} {t e : TypeId} {f0 f1 : Field} {k : IntKind} {v : Value} {d : DataW H} {ps : List MemPlace}
    (ht : P.underlying t = some (.slice e)) (he : P.underlying e = some (.struct #[f0, f1])) (hone : oneCellFields P #[f0, f1] = true) (hC : P.cellsOf e = 2)
    (hk0 : P.underlying f0.type = some (.int k)) (hk1 : P.underlying f1.type = some (.int k))
    (hval : Value.okWide P W r b0 t v) (h : DataW.Trod enc P W 0 (fun _ => true) true t v d ps) (hlt : ∀ x ∈ ps, x.block < W.heap.size) :
    ∃ l : List (Int × Int), Row W v l.length (flatK k l) ∧ ∀ p ∈ l, (Lit.int k p.1).wf = true ∧ (Lit.int k p.2).wf = true := by
  obtain ⟨a0, len, cap, rfl⟩ := okWide_slice ht hval
  obtain ⟨fuel, hf⟩ := h
  rcases open_slice ht hf with ⟨hcs, hx⟩ | ⟨a, len', cap', m, n, D, Pl, hcs, _, hl, hm, hmm, hx, hel⟩
  · simp [Value.cells] at hcs
    obtain ⟨rfl, rfl, rfl⟩ := hcs
    exact ⟨[], Row.nil W, by simp⟩
  · simp [Value.cells] at hcs
    obtain ⟨rfl, rfl, rfl⟩ := hcs
    simp only [Prod.mk.injEq] at hx
    obtain ⟨rfl, rfl⟩ := hx
    simp only [if_true] at hmm
    rw [hC] at hel hlt
    obtain ⟨o0, c0⟩ := hone_of hone 0 f0 rfl
    obtain ⟨o1, c1⟩ := hone_of hone 1 f1 rfl
    obtain ⟨F, hF⟩ := choose_lt (α := Int × Int) (n := len) (p := fun i p => W.cell? (a.add (i * 2)) = some (.int k p.1) ∧ W.cell? ((a.add (i * 2)).add 1) = some (.int k p.2) ∧ (Lit.int k p.1).wf = true ∧ (Lit.int k p.2).wf = true) (fun i hi => by
      obtain ⟨cs', h1, h2⟩ := hel i (by omega)
      obtain ⟨_, hlen, hc⟩ := World.cells?_some h1
      obtain ⟨y0, y1, n', _, _, h3, h4⟩ := trod_struct2 he h2
      rw [o0, c0] at h3
      rw [o1, c1] at h4
      match cs', hlen with
      | [v0, v1], _ =>
        obtain ⟨z0, e0, _, w0⟩ := DataW.trod_int hk0 h3
        obtain ⟨z1, e1, _, w1⟩ := DataW.trod_int hk1 h4
        simp at e0 e1
        subst e0 e1
        refine ⟨(z0, z1), ?_, ?_, w0, w1⟩
        · have := hc 0 (by omega)
          have hz : (a.add (i * 2)).add 0 = a.add (i * 2) := by simp [Addr.add]
          rw [hz] at this; exact this
        · have := hc 1 (by omega)
          exact this)
    have hlen : ((List.range len).map F).length = len := by simp
    refine ⟨(List.range len).map F, ?_, fun p hp => ?_⟩
    · rw [hlen]
      refine ⟨some a, cap, rfl, hl, hm, ?_⟩
      by_cases hl0 : len = 0
      · exact .inl ⟨hl0, fun h => by cases h⟩
      · obtain ⟨b, off, spot⟩ := a
        have hspot : spot = none := by simpa [Addr.add] using World.cell?_spot (hF 0 (by omega)).1
        subst hspot
        have hbW : b < W.heap.size := hlt (.cell b off) (List.mem_append.2 (.inl (MemPlace.mem_row.2 ⟨0, by omega, by simp⟩)))
        refine .inr ⟨b, off, rfl, hbW, fun j u hj => ?_⟩
        obtain ⟨i, hi, h1⟩ := flatK_get k _ j u hj
        rw [hlen] at hi
        have hg : ((List.range len).map F).getD i (0, 0) = F i := by simp [List.getD, hi]
        rw [hg] at h1
        obtain ⟨q1, q2, _, _⟩ := hF i hi
        rcases h1 with ⟨rfl, rfl⟩ | ⟨rfl, rfl⟩
        · rw [WideShapes.add_plain] at q1; exact q1
        · rw [WideShapes.add_plain, WideShapes.add_plain, Nat.add_assoc] at q2; exact q2
    · obtain ⟨i, hi, rfl⟩ := List.mem_map.1 hp
      obtain ⟨_, _, w0, w1⟩ := hF i (by simpa using hi)
      exact ⟨w0, w1⟩
end Go.Proofs.YtahckikemljlnaaGreatDoor

namespace Go.Proofs.YtahckikemljlnaaGreatDoor
open Go.RowKit

theorem flatK_cons (k : IntKind) (p : Int × Int) (l : List (Int × Int)) : flatK k (p :: l) = .int k p.1 :: .int k p.2 :: flatK k l := rfl
theorem flatK_nil (k : IntKind) : flatK k [] = [] := rfl
theorem flatK_append (k : IntKind) (a b : List (Int × Int)) : flatK k (a ++ b) = flatK k a ++ flatK k b := by simp [flatK]
theorem flatK_len (k : IntKind) : ∀ l : List (Int × Int), (flatK k l).length = l.length * 2
  | [] => rfl
  | p :: l => by rw [flatK_cons]; simp [flatK_len k l]; omega
theorem flatK_one (k : IntKind) : ∀ l : List (Int × Int), ∀ u ∈ flatK k l, u.oneCell' = true
  | [], u, h => by simp [flatK] at h
  | p :: l, u, h => by
    rw [flatK_cons] at h
    rcases List.mem_cons.1 h with rfl | h
    · rfl
    rcases List.mem_cons.1 h with rfl | h
    · rfl
    · exact flatK_one k l u h
theorem flatK_at (k : IntKind) : ∀ (l : List (Int × Int)) (i : Nat), i < l.length → (flatK k l)[i * 2]? = some (.int k (l.getD i (0, 0)).1) ∧ (flatK k l)[i * 2 + 1]? = some (.int k (l.getD i (0, 0)).2)
  | [], i, h => by simp at h
  | p :: l, 0, _ => by simp [flatK_cons]
  | p :: l, i + 1, h => by
    have := flatK_at k l i (by simpa using h)
    have e1 : (i + 1) * 2 = (i * 2) + 2 := by omega
    rw [e1, flatK_cons]
    simpa using this
theorem flatK_last (k : IntKind) (t : List (Int × Int)) (q : Int × Int) (x : Int) : (flatK k (t ++ [q])).set (t.length * 2 + 1) (.int k x) = flatK k (t ++ [(q.1, x)]) := by
  rw [flatK_append, flatK_append, List.set_append_right _ _ (by rw [flatK_len]; omega), flatK_len]
  simp [flatK_cons, flatK_nil]
theorem getD_snoc {α} (t : List α) (q d : α) : (t ++ [q]).getD t.length d = q := by simp [List.getD]
theorem Row.pair {w : World} {b off n cap : Nat} {k : IntKind} {l : List (Int × Int)} (h : Row w (.slice (some ⟨b, off, none⟩) n cap) n (flatK k l)) {i : Nat} (hi : i < l.length) (hn : n = l.length) :
    b < w.heap.size ∧ w.cell? ⟨b, off + i * 2, none⟩ = some (.int k (l.getD i (0, 0)).1) ∧ w.cell? ⟨b, off + i * 2 + 1, none⟩ = some (.int k (l.getD i (0, 0)).2) := by
  obtain ⟨o, c, e, h1, h2, h3⟩ := h
  simp only [Value.slice.injEq, true_and] at e
  obtain ⟨rfl, rfl⟩ := e
  rcases h3 with ⟨h0, _⟩ | ⟨b', off', e', hlt, hc⟩
  · omega
  · simp only [Option.some.injEq, Addr.mk.injEq, and_true] at e'
    obtain ⟨rfl, rfl⟩ := e'
    obtain ⟨c1, c2⟩ := flatK_at k l i hi
    exact ⟨hlt, hc _ _ c1, by rw [Nat.add_assoc]; exact hc _ _ c2⟩
theorem Row.head {w : World} {v : Value} {n : Nat} {cs : List Value} (h : Row w v n cs) (hn : 0 < n) : ∃ b off cap, v = .slice (some ⟨b, off, none⟩) n cap ∧ b < w.heap.size := by
  obtain ⟨o, c, e, h1, h2, h3⟩ := h
  rcases h3 with ⟨h0, _⟩ | ⟨b', off', e', hlt, hc⟩
  · omega
  · exact ⟨b', off', c, by rw [e, e'], hlt⟩
theorem Row.litK (w : World) (e : TypeId) (k : IntKind) (l : List (Int × Int)) (n : Nat) (h : l.length = n) (hm : n ≤ maxLen) : Row (w.alloc (.cells (flatK k l).toArray e)) (.slice (some ⟨w.heap.size, 0, none⟩) n n) n (flatK k l) := by
  refine ⟨_, _, rfl, Nat.le_refl _, hm, .inr ⟨w.heap.size, 0, rfl, by simp, fun j u hu => ?_⟩⟩
  rw [Nat.zero_add, World.cell?_alloc_mark]
  simpa using hu
end Go.Proofs.YtahckikemljlnaaGreatDoor
