/- An argument that is a slice of slices of whole numbers is rows of numbers. -/
import Derived.ChangeSlices
import Derived.WideShapes
import Derived.ProofKit
import Derived.OpenShut
import Derived.Test.YtbanmggkfpnalaaGreatDoorArgPairs
import Derived.SizedLaws
set_option linter.unusedVariables false
set_option linter.unusedSimpArgs false
namespace Go.Proofs.YtbanmggkfpnalaaGreatDoor
open Go.RowKit Go.ChangeShapes Go.WideShapes Go.ChangeAt

end Go.Proofs.YtbanmggkfpnalaaGreatDoor

namespace Go.Proofs.YtbanmggkfpnalaaGreatDoor
open Go.RowKit Go.ChangeShapes Go.WideShapes Go.ChangeAt Go.Deep Go.Joins

structure RowsI (w : World) (v : Value) (vs : List Value) (ls : List (List Int)) : Prop where
  len : vs.length = ls.length
  row : Row w v ls.length vs
  each : ∀ (i : Nat) (u : Value) (l : List Int), vs[i]? = some u → ls[i]? = some l → Row w u l.length (l.map (Value.int .i64))
theorem RowsI.moved {w w' : World} {v : Value} {vs : List Value} {ls : List (List Int)} (h : RowsI w v vs ls) (hb : Below w.heap.size w w') : RowsI w' v vs ls :=
  ⟨h.len, h.row.below hb, fun i u l hu hl => (h.each i u l hu hl).below hb⟩
theorem cell_ints_few {P : Program} {W : World} {H : Type} {enc : TypeId × Value → H} {t e : TypeId} {k : IntKind} {fuel : Nat} {v : Value} {x : DataW H × List MemPlace}
    (ht : P.underlying t = some (.slice e)) (he : P.underlying e = some (.int k)) (hc : P.cellsOf e = 1)
    (hf : DataW.trod enc P W 0 (fun _ => true) true fuel t [v] = some x) (hlt : ∀ y ∈ x.2, y.block < W.heap.size) :
    ∃ zs : List Int, Row W v zs.length (zs.map (Value.int k)) ∧ (∀ n ∈ zs, (Lit.int k n).wf = true) ∧ ((∀ n ∈ x.1.weights P t, n ≤ reachBytes) → zs.length * P.bytesOf e ≤ reachBytes) := by
  rcases open_ints ht he hc hf with ⟨hcs, hx⟩ | ⟨a, len, cap, zs, hcs, _, hl, hm, hz, hx, hcell, hwz⟩
  · simp at hcs
    subst hcs
    exact ⟨[], Row.nil W, by simp, fun _ => by simp⟩
  · simp at hcs
    subst hcs
    subst hx
    simp only [if_true] at hz
    have hlen : (zs.take len).length = len := by simp; omega
    refine ⟨zs.take len, ?_, fun n hn => hwz n (List.mem_of_mem_take hn), fun hw => ?_⟩
    rotate_left
    · have h9 := hw (((lits (H := H) k (zs.take len)).length + (lits (H := H) k (zs.drop len)).length) * P.bytesOf e) (by simp [DataW.weights, ht])
      refine Nat.le_trans (Nat.mul_le_mul_right _ ?_) h9
      simp [lits]
    rw [hlen]
    refine ⟨some a, cap, rfl, hl, hm, ?_⟩
    by_cases hl0 : len = 0
    · exact .inl ⟨hl0, fun h => by cases h⟩
    · obtain ⟨b, off, spot⟩ := a
      have hspot : spot = none := by simpa [Addr.add] using World.cell?_spot (hcell 0 (by omega))
      subst hspot
      have hbW : b < W.heap.size := hlt (.cell b off) (MemPlace.mem_row.2 ⟨0, by omega, by simp⟩)
      refine .inr ⟨b, off, rfl, hbW, fun j u hj => ?_⟩
      have hj2 : j < len := by
        have := (List.getElem?_eq_some_iff.1 hj).1
        simp at this; omega
      have h1 := hcell j (by omega)
      rw [WideShapes.add_plain] at h1
      rw [h1]
      rw [List.getElem?_map, List.getElem?_take, if_pos hj2, List.getElem?_eq_getElem (by omega)] at hj
      simp at hj
      rw [← hj, List.getD, List.getElem?_eq_getElem (by omega)]
      rfl
theorem weightsAll_mem {P : Program} {H : Type} {e : TypeId} {n : Nat} : ∀ {l : List (DataW H)} {d : DataW H}, d ∈ l → n ∈ d.weights P e → n ∈ DataW.weightsAll P e l
  | x :: l, d, hd, hn => by
    simp only [DataW.weightsAll, List.mem_append]
    rcases List.mem_cons.1 hd with rfl | h
    · exact .inl hn
    · exact .inr (weightsAll_mem h hn)
  | [], _, hd, _ => by cases hd
theorem arg_intss_few {P : Program} {W : World} {H : Type} {enc : TypeId × Value → H} {r : Reach} {b0 : Nat} {T t e : TypeId} {v : Value} {d : DataW H} {ps : List MemPlace}
    (hT : P.underlying T = some (.slice t)) (hCt : P.cellsOf t = 1) (ht : P.underlying t = some (.slice e)) (he : P.underlying e = some (.int .i64)) (hC : P.cellsOf e = 1)
    (hval : Value.okWide P W r b0 T v) (h : DataW.Trod enc P W 0 (fun _ => true) true T v d ps) (hlt : ∀ x ∈ ps, x.block < W.heap.size) :
    ∃ (vs : List Value) (ls : List (List Int)), RowsI W v vs ls ∧ (∀ l ∈ ls, ∀ n ∈ l, (Lit.int .i64 n).wf = true) ∧ ((∀ n ∈ d.weights P T, n ≤ reachBytes) → ∀ l ∈ ls, l.length * P.bytesOf e ≤ reachBytes) := by
  obtain ⟨a0, len, cap, rfl⟩ := okWide_slice hT hval
  obtain ⟨fuel, hf⟩ := h
  rcases open_slice hT hf with ⟨hcs, hx⟩ | ⟨a, len', cap', m, n, D, Pl, hcs, _, hl, hm, hmm, hx, hel⟩
  · simp [Value.cells] at hcs
    obtain ⟨rfl, rfl, rfl⟩ := hcs
    exact ⟨[], [], ⟨rfl, Row.nil W, fun i u l hu => by simp at hu⟩, by simp, fun _ l hl => by simp at hl⟩
  · simp [Value.cells] at hcs
    obtain ⟨rfl, rfl, rfl⟩ := hcs
    simp only [Prod.mk.injEq] at hx
    obtain ⟨rfl, rfl⟩ := hx
    simp only [if_true] at hmm
    rw [hCt] at hel hlt
    obtain ⟨F, hF⟩ := choose_lt (α := Value × List Int) (n := len) (p := fun i p => W.cell? (a.add (i * 1)) = some p.1 ∧ Row W p.1 p.2.length (p.2.map (Value.int .i64)) ∧ (∀ q ∈ p.2, (Lit.int .i64 q).wf = true) ∧ ((∀ n ∈ (D i).weights P t, n ≤ reachBytes) → p.2.length * P.bytesOf e ≤ reachBytes)) (fun i hi => by
      obtain ⟨cs', h1, h2⟩ := hel i (by omega)
      obtain ⟨_, hlen, hc⟩ := World.cells?_some h1
      match cs', hlen with
      | [v0], _ =>
        obtain ⟨l, hr, hw, hq⟩ := cell_ints_few ht he hC h2 (fun y hy => hlt y (List.mem_append.2 (.inr (List.mem_flatMap.2 ⟨i, by simp; omega, hy⟩))))
        refine ⟨(v0, l), ?_, hr, hw, hq⟩
        have := hc 0 (by omega)
        have hz : (a.add (i * 1)).add 0 = a.add (i * 1) := by simp [Addr.add]
        rw [hz] at this; exact this)
    refine ⟨(List.range len).map fun i => (F i).1, (List.range len).map fun i => (F i).2, ⟨by simp, ?_, fun i u l hu hl' => ?_⟩, fun l hl p hp => ?_, fun hw l hl => ?_⟩
    · rw [show ((List.range len).map fun i => (F i).2).length = len by simp]
      refine ⟨some a, cap, rfl, hl, hm, ?_⟩
      by_cases hl0 : len = 0
      · exact .inl ⟨hl0, fun h => by cases h⟩
      · obtain ⟨b, off, spot⟩ := a
        have hspot : spot = none := by simpa [Addr.add] using World.cell?_spot (hF 0 (by omega)).1
        subst hspot
        have hbW : b < W.heap.size := hlt (.cell b off) (List.mem_append.2 (.inl (MemPlace.mem_row.2 ⟨0, by omega, by simp⟩)))
        refine .inr ⟨b, off, rfl, hbW, fun j u hj => ?_⟩
        have hj2 : j < len := by
          have := (List.getElem?_eq_some_iff.1 hj).1
          simpa using this
        have h1 := (hF j hj2).1
        rw [WideShapes.add_plain, Nat.mul_one] at h1
        rw [h1]
        simpa [hj2] using hj
    · have hi2 : i < len := by
        have := (List.getElem?_eq_some_iff.1 hu).1
        simpa using this
      simp [hi2] at hu hl'
      subst hu hl'
      exact (hF i hi2).2.1
    · obtain ⟨i, hi, rfl⟩ := List.mem_map.1 hl
      exact (hF i (by simpa using hi)).2.2.1 p hp
    · obtain ⟨i, hi, rfl⟩ := List.mem_map.1 hl
      refine (hF i (by simpa using hi)).2.2.2 fun n hn => hw n ?_
      simp only [DataW.weights, hT]
      exact List.mem_cons_of_mem _ (List.mem_append.2 (.inl (weightsAll_mem (List.mem_map.2 ⟨i, hi, rfl⟩) hn)))
end Go.Proofs.YtbanmggkfpnalaaGreatDoor
