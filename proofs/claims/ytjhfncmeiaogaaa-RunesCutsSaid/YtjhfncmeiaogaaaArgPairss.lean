/- An argument that is a slice of slices of ranges is rows of pairs. -/
import Derived.Test.YtjhfncmeiaogaaaArgPairs
import Derived.Test.YtjhfncmeiaogaaaRuneCuts
namespace Go.Proofs.Ytjhfncmeiaogaaa
open Go.RowKit Go.ChangeShapes Go.WideShapes Go.ChangeAt Go.Deep Go.Joins Ru
set_option linter.unusedVariables false
set_option linter.unusedSimpArgs false

/-- a cell that reads as a slice of pairs is a row of pairs -/
theorem cell_pairs {P : Program} {W : World} {H : Type} {enc : TypeId × Value → H} {t e : TypeId} {f0 f1 : Field} {k : IntKind} {fuel : Nat} {v : Value} {x : DataW H × List MemPlace}
    (ht : P.underlying t = some (.slice e)) (he : P.underlying e = some (.struct #[f0, f1])) (hone : oneCellFields P #[f0, f1] = true) (hC : P.cellsOf e = 2)
    (hk0 : P.underlying f0.type = some (.int k)) (hk1 : P.underlying f1.type = some (.int k))
    (hf : DataW.trod enc P W 0 (fun _ => true) true fuel t [v] = some x) (hlt : ∀ y ∈ x.2, y.block < W.heap.size) :
    ∃ l : List (Int × Int), Row W v l.length (flatK k l) ∧ ∀ p ∈ l, (Lit.int k p.1).wf = true ∧ (Lit.int k p.2).wf = true := by
  rcases open_slice ht hf with ⟨hcs, hx⟩ | ⟨a, len, cap, m, n, D, Pl, hcs, _, hl, hm, hmm, hx, hel⟩
  · simp at hcs
    subst hcs
    exact ⟨[], Row.nil W, by simp⟩
  · simp at hcs
    subst hcs
    subst hx
    simp only [if_true] at hmm
    rw [hC] at hel hlt
    obtain ⟨o0, c0⟩ := hone_of hone 0 f0 rfl
    obtain ⟨o1, c1⟩ := hone_of hone 1 f1 rfl
    obtain ⟨F, hF⟩ := choose_lt (α := Int × Int) (n := len) (p := fun i p => W.cell? (a.add (i * 2)) = some (.int k p.1) ∧ W.cell? ((a.add (i * 2)).add 1) = some (.int k p.2) ∧ (Lit.int k p.1).wf = true ∧ (Lit.int k p.2).wf = true) (fun i hi => by
      obtain ⟨cs', h1, h2⟩ := hel i (by omega)
      obtain ⟨_, hlen, hc⟩ := World.cells?_some h1
      obtain ⟨y0, y1, n', _, _, h3, h4⟩ := trod_struct2 he h2
      rw [o0, c0] at h3
      rw [o1, c1] at h4
      match cs', hlen with
      | [v0, v1], _ =>
        obtain ⟨z0, e0, _, w0⟩ := DataW.trod_int hk0 h3
        obtain ⟨z1, e1, _, w1⟩ := DataW.trod_int hk1 h4
        simp at e0 e1
        subst e0 e1
        refine ⟨(z0, z1), ?_, ?_, w0, w1⟩
        · have := hc 0 (by omega)
          have hz : (a.add (i * 2)).add 0 = a.add (i * 2) := by simp [Addr.add]
          rw [hz] at this; exact this
        · have := hc 1 (by omega)
          exact this)
    have hlen : ((List.range len).map F).length = len := by simp
    refine ⟨(List.range len).map F, ?_, fun p hp => ?_⟩
    · rw [hlen]
      refine ⟨some a, cap, rfl, hl, hm, ?_⟩
      by_cases hl0 : len = 0
      · exact .inl ⟨hl0, fun h => by cases h⟩
      · obtain ⟨b, off, spot⟩ := a
        have hspot : spot = none := by simpa [Addr.add] using World.cell?_spot (hF 0 (by omega)).1
        subst hspot
        have hbW : b < W.heap.size := hlt (.cell b off) (List.mem_append.2 (.inl (MemPlace.mem_row.2 ⟨0, by omega, by simp⟩)))
        refine .inr ⟨b, off, rfl, hbW, fun j u hj => ?_⟩
        obtain ⟨i, hi, h1⟩ := flatK_get k _ j u hj
        rw [hlen] at hi
        have hg : ((List.range len).map F).getD i (0, 0) = F i := by simp [List.getD, hi]
        rw [hg] at h1
        obtain ⟨q1, q2, _, _⟩ := hF i hi
        rcases h1 with ⟨rfl, rfl⟩ | ⟨rfl, rfl⟩
        · rw [WideShapes.add_plain] at q1; exact q1
        · rw [WideShapes.add_plain, WideShapes.add_plain, Nat.add_assoc] at q2; exact q2
    · obtain ⟨i, hi, rfl⟩ := List.mem_map.1 hp
      obtain ⟨_, _, w0, w1⟩ := hF i (by simpa using hi)
      exact ⟨w0, w1⟩

/-- an argument of slices of pairs -/
theorem arg_pairss {P : Program} {W : World} {H : Type} {enc : TypeId × Value → H} {r : Reach} {b0 : Nat} {T t e : TypeId} {f0 f1 : Field} {v : Value} {d : DataW H} {ps : List MemPlace}
    (hT : P.underlying T = some (.slice t)) (hCt : P.cellsOf t = 1) (ht : P.underlying t = some (.slice e)) (he : P.underlying e = some (.struct #[f0, f1])) (hone : oneCellFields P #[f0, f1] = true) (hC : P.cellsOf e = 2)
    (hk0 : P.underlying f0.type = some (.int .i32)) (hk1 : P.underlying f1.type = some (.int .i32))
    (hval : Value.okWide P W r b0 T v) (h : DataW.Trod enc P W 0 (fun _ => true) true T v d ps) (hlt : ∀ x ∈ ps, x.block < W.heap.size) :
    ∃ (vs : List Value) (ls : List (List (Int × Int))), RowsR W v vs ls ∧ ∀ l ∈ ls, ∀ p ∈ l, (Lit.int .i32 p.1).wf = true ∧ (Lit.int .i32 p.2).wf = true := by
  obtain ⟨a0, len, cap, rfl⟩ := okWide_slice hT hval
  obtain ⟨fuel, hf⟩ := h
  rcases open_slice hT hf with ⟨hcs, hx⟩ | ⟨a, len', cap', m, n, D, Pl, hcs, _, hl, hm, hmm, hx, hel⟩
  · simp [Value.cells] at hcs
    obtain ⟨rfl, rfl, rfl⟩ := hcs
    exact ⟨[], [], ⟨rfl, Row.nil W, fun i hi => absurd hi (by simp)⟩, by simp⟩
  · simp [Value.cells] at hcs
    obtain ⟨rfl, rfl, rfl⟩ := hcs
    simp only [Prod.mk.injEq] at hx
    obtain ⟨rfl, rfl⟩ := hx
    simp only [if_true] at hmm
    rw [hCt] at hel hlt
    obtain ⟨F, hF⟩ := choose_lt (α := Value × List (Int × Int)) (n := len) (p := fun i p => W.cell? (a.add (i * 1)) = some p.1 ∧ Row W p.1 p.2.length (flatK .i32 p.2) ∧ ∀ q ∈ p.2, (Lit.int .i32 q.1).wf = true ∧ (Lit.int .i32 q.2).wf = true) (fun i hi => by
      obtain ⟨cs', h1, h2⟩ := hel i (by omega)
      obtain ⟨_, hlen, hc⟩ := World.cells?_some h1
      match cs', hlen with
      | [v0], _ =>
        obtain ⟨l, hr, hw⟩ := cell_pairs ht he hone hC hk0 hk1 h2 (fun y hy => hlt y (List.mem_append.2 (.inr (List.mem_flatMap.2 ⟨i, by simp; omega, hy⟩))))
        refine ⟨(v0, l), ?_, hr, hw⟩
        have := hc 0 (by omega)
        have hz : (a.add (i * 1)).add 0 = a.add (i * 1) := by simp [Addr.add]
        rw [hz] at this; exact this)
    have hl1 : ((List.range len).map fun i => (F i).1).length = len := by simp
    have hl2 : ((List.range len).map fun i => (F i).2).length = len := by simp
    refine ⟨(List.range len).map fun i => (F i).1, (List.range len).map fun i => (F i).2, ⟨by simp, ?_, fun i hi => ?_⟩, fun l hl p hp => ?_⟩
    · rw [hl2]
      refine ⟨some a, cap, rfl, hl, hm, ?_⟩
      by_cases hl0 : len = 0
      · exact .inl ⟨hl0, fun h => by cases h⟩
      · obtain ⟨b, off, spot⟩ := a
        have hspot : spot = none := by simpa [Addr.add] using World.cell?_spot (hF 0 (by omega)).1
        subst hspot
        have hbW : b < W.heap.size := hlt (.cell b off) (List.mem_append.2 (.inl (MemPlace.mem_row.2 ⟨0, by omega, by simp⟩)))
        refine .inr ⟨b, off, rfl, hbW, fun j u hj => ?_⟩
        have hj2 : j < len := by
          have := (List.getElem?_eq_some_iff.1 hj).1
          simpa using this
        have h1 := (hF j hj2).1
        rw [WideShapes.add_plain, Nat.mul_one] at h1
        rw [h1]
        simpa [hj2] using hj
    · have hi2 : i < len := by simpa using hi
      have e1 : ((List.range len).map fun i => (F i).1).getD i undef = (F i).1 := by simp [List.getD, hi2]
      have e2 : ((List.range len).map fun i => (F i).2).getD i [] = (F i).2 := by simp [List.getD, hi2]
      rw [e1, e2]
      exact (hF i hi2).2.1
    · obtain ⟨i, hi, rfl⟩ := List.mem_map.1 hl
      exact (hF i (by simpa using hi)).2.2 p hp
end Go.Proofs.Ytjhfncmeiaogaaa
