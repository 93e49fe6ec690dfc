/- Arguments that are grammars: expressions, patterns, tokens, steps, rules, out of what is read. -/
import Derived.ChangeSlices
import Derived.WideShapes
import Derived.ProofKit
import Derived.OpenShut
import Derived.SizedLaws
import Derived.Test.YtbanmggkfpnalaaGreatDoorGram
namespace Go.Proofs.YtbanmggkfpnalaaGreatDoor
open Go.RowKit Go.ChangeShapes Go.WideShapes Go.ChangeAt
set_option linter.unusedVariables false
set_option linter.unusedSimpArgs false

theorem arg_row {P : Program} {W : World} {H : Type} {enc : TypeId × Value → H} {r : Reach} {b0 : Nat} {t e : TypeId} {k : IntKind} {v : Value} {d : DataW H} {ps : List MemPlace}
    (ht : P.underlying t = some (.slice e)) (he : P.underlying e = some (.int k)) (hc : P.cellsOf e = 1)
    (hval : Value.okWide P W r b0 t v) (h : DataW.Trod enc P W 0 (fun _ => true) true t v d ps) (hlt : ∀ x ∈ ps, x.block < W.heap.size) :
    ∃ zs : List Int, Row W v zs.length (zs.map (Value.int k)) ∧ ∀ n ∈ zs, (Lit.int k n).wf = true := by
  obtain ⟨a0, len, cap, rfl⟩ := okWide_slice ht hval
  obtain ⟨fuel, hf⟩ := h
  rcases open_ints ht he hc hf with ⟨hcs, hx⟩ | ⟨a, len', cap', zs, hcs, _, hl, hm, hz, hx, hcell, hwz⟩
  · simp [Value.cells] at hcs
    obtain ⟨rfl, rfl, rfl⟩ := hcs
    exact ⟨[], Row.nil W, by simp⟩
  · simp [Value.cells] at hcs
    obtain ⟨rfl, rfl, rfl⟩ := hcs
    simp only [Prod.mk.injEq] at hx
    obtain ⟨rfl, rfl⟩ := hx
    simp only [if_true] at hz
    have hlen : (zs.take len).length = len := by simp; omega
    refine ⟨zs.take len, ?_, fun n hn => hwz n (List.mem_of_mem_take hn)⟩
    rw [hlen]
    refine ⟨some a, cap, rfl, hl, hm, ?_⟩
    by_cases hl0 : len = 0
    · exact .inl ⟨hl0, fun h => by cases h⟩
    · obtain ⟨b, off, spot⟩ := a
      have hspot : spot = none := by simpa [Addr.add] using World.cell?_spot (hcell 0 (by omega))
      subst hspot
      have hbW : b < W.heap.size := hlt (.cell b off) (MemPlace.mem_row.2 ⟨0, by omega, by simp⟩)
      refine .inr ⟨b, off, rfl, hbW, fun j u hj => ?_⟩
      have hj2 : j < len := by
        have := (List.getElem?_eq_some_iff.1 hj).1
        simp at this; omega
      have h1 := hcell j (by omega)
      rw [add_plain] at h1
      rw [h1]
      rw [List.getElem?_map, List.getElem?_take, if_pos hj2, List.getElem?_eq_getElem (by omega)] at hj
      simp at hj
      rw [← hj, List.getD, List.getElem?_eq_getElem (by omega)]
      rfl
theorem u8_of_wf {zs : List Int} (h : ∀ n ∈ zs, (Lit.int .u8 n).wf = true) : ∀ x ∈ zs, 0 ≤ x ∧ x < 256 := by
  intro x hx
  have := h x hx
  simp [Lit.wf, IntKind.min, IntKind.max, IntKind.signed, IntKind.bits] at this
  omega
theorem i64_of_wf {n : Int} (h : (Lit.int .i64 n).wf = true) : -9223372036854775808 ≤ n ∧ n ≤ 9223372036854775807 := by
  simp [Lit.wf, IntKind.min, IntKind.max, IntKind.signed, IntKind.bits] at h
  omega
end Go.Proofs.YtbanmggkfpnalaaGreatDoor

namespace Go.Proofs.YtbanmggkfpnalaaGreatDoor
open Go.RowKit Go.ChangeShapes Go.WideShapes Go.ChangeAt Go.Deep Go.Joins
set_option linter.unusedVariables false
set_option linter.unusedSimpArgs false

/-- slices of numbers, in a row -/
structure RowsI (w : World) (v : Value) (vs : List Value) (ls : List (List Int)) : Prop where
  len : vs.length = ls.length
  row : Row w v ls.length vs
  each : ∀ (i : Nat) (u : Value) (l : List Int), vs[i]? = some u → ls[i]? = some l → Row w u l.length (l.map (Value.int .i64))
theorem RowsI.moved {w w' : World} {v : Value} {vs : List Value} {ls : List (List Int)} (h : RowsI w v vs ls) (hb : Below w.heap.size w w') : RowsI w' v vs ls :=
  ⟨h.len, h.row.below hb, fun i u l hu hl => (h.each i u l hu hl).below hb⟩
theorem cell_ints {P : Program} {W : World} {H : Type} {enc : TypeId × Value → H} {t e : TypeId} {k : IntKind} {fuel : Nat} {v : Value} {x : DataW H × List MemPlace}
    (ht : P.underlying t = some (.slice e)) (he : P.underlying e = some (.int k)) (hc : P.cellsOf e = 1)
    (hf : DataW.trod enc P W 0 (fun _ => true) true fuel t [v] = some x) (hlt : ∀ y ∈ x.2, y.block < W.heap.size) :
    ∃ zs : List Int, Row W v zs.length (zs.map (Value.int k)) ∧ ∀ n ∈ zs, (Lit.int k n).wf = true := by
  rcases open_ints ht he hc hf with ⟨hcs, hx⟩ | ⟨a, len, cap, zs, hcs, _, hl, hm, hz, hx, hcell, hwz⟩
  · simp at hcs
    subst hcs
    exact ⟨[], Row.nil W, by simp⟩
  · simp at hcs
    subst hcs
    subst hx
    simp only [if_true] at hz
    have hlen : (zs.take len).length = len := by simp; omega
    refine ⟨zs.take len, ?_, fun n hn => hwz n (List.mem_of_mem_take hn)⟩
    rw [hlen]
    refine ⟨some a, cap, rfl, hl, hm, ?_⟩
    by_cases hl0 : len = 0
    · exact .inl ⟨hl0, fun h => by cases h⟩
    · obtain ⟨b, off, spot⟩ := a
      have hspot : spot = none := by simpa [Addr.add] using World.cell?_spot (hcell 0 (by omega))
      subst hspot
      have hbW : b < W.heap.size := hlt (.cell b off) (MemPlace.mem_row.2 ⟨0, by omega, by simp⟩)
      refine .inr ⟨b, off, rfl, hbW, fun j u hj => ?_⟩
      have hj2 : j < len := by
        have := (List.getElem?_eq_some_iff.1 hj).1
        simp at this; omega
      have h1 := hcell j (by omega)
      rw [WideShapes.add_plain] at h1
      rw [h1]
      rw [List.getElem?_map, List.getElem?_take, if_pos hj2, List.getElem?_eq_getElem (by omega)] at hj
      simp at hj
      rw [← hj, List.getD, List.getElem?_eq_getElem (by omega)]
      rfl
/-- an argument of slices of numbers -/
theorem arg_intss {P : Program} {W : World} {H : Type} {enc : TypeId × Value → H} {r : Reach} {b0 : Nat} {T t e : TypeId} {v : Value} {d : DataW H} {ps : List MemPlace}
    (hT : P.underlying T = some (.slice t)) (hCt : P.cellsOf t = 1) (ht : P.underlying t = some (.slice e)) (he : P.underlying e = some (.int .i64)) (hC : P.cellsOf e = 1)
    (hval : Value.okWide P W r b0 T v) (h : DataW.Trod enc P W 0 (fun _ => true) true T v d ps) (hlt : ∀ x ∈ ps, x.block < W.heap.size) :
    ∃ (vs : List Value) (ls : List (List Int)), RowsI W v vs ls ∧ ∀ l ∈ ls, ∀ n ∈ l, (Lit.int .i64 n).wf = true := by
  obtain ⟨a0, len, cap, rfl⟩ := okWide_slice hT hval
  obtain ⟨fuel, hf⟩ := h
  rcases open_slice hT hf with ⟨hcs, hx⟩ | ⟨a, len', cap', m, n, D, Pl, hcs, _, hl, hm, hmm, hx, hel⟩
  · simp [Value.cells] at hcs
    obtain ⟨rfl, rfl, rfl⟩ := hcs
    exact ⟨[], [], ⟨rfl, Row.nil W, fun i u l hu => by simp at hu⟩, by simp⟩
  · simp [Value.cells] at hcs
    obtain ⟨rfl, rfl, rfl⟩ := hcs
    simp only [Prod.mk.injEq] at hx
    obtain ⟨rfl, rfl⟩ := hx
    simp only [if_true] at hmm
    rw [hCt] at hel hlt
    obtain ⟨F, hF⟩ := choose_lt (α := Value × List Int) (n := len) (p := fun i p => W.cell? (a.add (i * 1)) = some p.1 ∧ Row W p.1 p.2.length (p.2.map (Value.int .i64)) ∧ ∀ q ∈ p.2, (Lit.int .i64 q).wf = true) (fun i hi => by
      obtain ⟨cs', h1, h2⟩ := hel i (by omega)
      obtain ⟨_, hlen, hc⟩ := World.cells?_some h1
      match cs', hlen with
      | [v0], _ =>
        obtain ⟨l, hr, hw⟩ := cell_ints ht he hC h2 (fun y hy => hlt y (List.mem_append.2 (.inr (List.mem_flatMap.2 ⟨i, by simp; omega, hy⟩))))
        refine ⟨(v0, l), ?_, hr, hw⟩
        have := hc 0 (by omega)
        have hz : (a.add (i * 1)).add 0 = a.add (i * 1) := by simp [Addr.add]
        rw [hz] at this; exact this)
    refine ⟨(List.range len).map fun i => (F i).1, (List.range len).map fun i => (F i).2, ⟨by simp, ?_, fun i u l hu hl' => ?_⟩, fun l hl p hp => ?_⟩
    · rw [show ((List.range len).map fun i => (F i).2).length = len by simp]
      refine ⟨some a, cap, rfl, hl, hm, ?_⟩
      by_cases hl0 : len = 0
      · exact .inl ⟨hl0, fun h => by cases h⟩
      · obtain ⟨b, off, spot⟩ := a
        have hspot : spot = none := by simpa [Addr.add] using World.cell?_spot (hF 0 (by omega)).1
        subst hspot
        have hbW : b < W.heap.size := hlt (.cell b off) (List.mem_append.2 (.inl (MemPlace.mem_row.2 ⟨0, by omega, by simp⟩)))
        refine .inr ⟨b, off, rfl, hbW, fun j u hj => ?_⟩
        have hj2 : j < len := by
          have := (List.getElem?_eq_some_iff.1 hj).1
          simpa using this
        have h1 := (hF j hj2).1
        rw [WideShapes.add_plain, Nat.mul_one] at h1
        rw [h1]
        simpa [hj2] using hj
    · have hi2 : i < len := by
        have := (List.getElem?_eq_some_iff.1 hu).1
        simpa using this
      simp [hi2] at hu hl'
      subst hu hl'
      exact (hF i hi2).2.1
    · obtain ⟨i, hi, rfl⟩ := List.mem_map.1 hl
      exact (hF i (by simpa using hi)).2.2 p hp
theorem cell_ints_few {P : Program} {W : World} {H : Type} {enc : TypeId × Value → H} {t e : TypeId} {k : IntKind} {fuel : Nat} {v : Value} {x : DataW H × List MemPlace}
    (ht : P.underlying t = some (.slice e)) (he : P.underlying e = some (.int k)) (hc : P.cellsOf e = 1)
    (hf : DataW.trod enc P W 0 (fun _ => true) true fuel t [v] = some x) (hlt : ∀ y ∈ x.2, y.block < W.heap.size) :
    ∃ zs : List Int, Row W v zs.length (zs.map (Value.int k)) ∧ (∀ n ∈ zs, (Lit.int k n).wf = true) ∧ ((∀ n ∈ x.1.weights P t, n ≤ reachBytes) → zs.length * P.bytesOf e ≤ reachBytes) := by
  rcases open_ints ht he hc hf with ⟨hcs, hx⟩ | ⟨a, len, cap, zs, hcs, _, hl, hm, hz, hx, hcell, hwz⟩
  · simp at hcs
    subst hcs
    exact ⟨[], Row.nil W, by simp, fun _ => by simp⟩
  · simp at hcs
    subst hcs
    subst hx
    simp only [if_true] at hz
    have hlen : (zs.take len).length = len := by simp; omega
    refine ⟨zs.take len, ?_, fun n hn => hwz n (List.mem_of_mem_take hn), fun hw => ?_⟩
    rotate_left
    · have h9 := hw (((lits (H := H) k (zs.take len)).length + (lits (H := H) k (zs.drop len)).length) * P.bytesOf e) (by simp [DataW.weights, ht])
      refine Nat.le_trans (Nat.mul_le_mul_right _ ?_) h9
      simp [lits]
    rw [hlen]
    refine ⟨some a, cap, rfl, hl, hm, ?_⟩
    by_cases hl0 : len = 0
    · exact .inl ⟨hl0, fun h => by cases h⟩
    · obtain ⟨b, off, spot⟩ := a
      have hspot : spot = none := by simpa [Addr.add] using World.cell?_spot (hcell 0 (by omega))
      subst hspot
      have hbW : b < W.heap.size := hlt (.cell b off) (MemPlace.mem_row.2 ⟨0, by omega, by simp⟩)
      refine .inr ⟨b, off, rfl, hbW, fun j u hj => ?_⟩
      have hj2 : j < len := by
        have := (List.getElem?_eq_some_iff.1 hj).1
        simp at this; omega
      have h1 := hcell j (by omega)
      rw [WideShapes.add_plain] at h1
      rw [h1]
      rw [List.getElem?_map, List.getElem?_take, if_pos hj2, List.getElem?_eq_getElem (by omega)] at hj
      simp at hj
      rw [← hj, List.getD, List.getElem?_eq_getElem (by omega)]
      rfl
theorem weightsAll_mem {P : Program} {H : Type} {e : TypeId} {n : Nat} : ∀ {l : List (DataW H)} {d : DataW H}, d ∈ l → n ∈ d.weights P e → n ∈ DataW.weightsAll P e l
  | x :: l, d, hd, hn => by
    simp only [DataW.weightsAll, List.mem_append]
    rcases List.mem_cons.1 hd with rfl | h
    · exact .inl hn
    · exact .inr (weightsAll_mem h hn)
  | [], _, hd, _ => by cases hd
/-- an argument of slices of numbers, and how long they may be -/
theorem arg_intss_few {P : Program} {W : World} {H : Type} {enc : TypeId × Value → H} {r : Reach} {b0 : Nat} {T t e : TypeId} {v : Value} {d : DataW H} {ps : List MemPlace}
    (hT : P.underlying T = some (.slice t)) (hCt : P.cellsOf t = 1) (ht : P.underlying t = some (.slice e)) (he : P.underlying e = some (.int .i64)) (hC : P.cellsOf e = 1)
    (hval : Value.okWide P W r b0 T v) (h : DataW.Trod enc P W 0 (fun _ => true) true T v d ps) (hlt : ∀ x ∈ ps, x.block < W.heap.size) :
    ∃ (vs : List Value) (ls : List (List Int)), RowsI W v vs ls ∧ (∀ l ∈ ls, ∀ n ∈ l, (Lit.int .i64 n).wf = true) ∧ ((∀ n ∈ d.weights P T, n ≤ reachBytes) → ∀ l ∈ ls, l.length * P.bytesOf e ≤ reachBytes) := by
  obtain ⟨a0, len, cap, rfl⟩ := okWide_slice hT hval
  obtain ⟨fuel, hf⟩ := h
  rcases open_slice hT hf with ⟨hcs, hx⟩ | ⟨a, len', cap', m, n, D, Pl, hcs, _, hl, hm, hmm, hx, hel⟩
  · simp [Value.cells] at hcs
    obtain ⟨rfl, rfl, rfl⟩ := hcs
    exact ⟨[], [], ⟨rfl, Row.nil W, fun i u l hu => by simp at hu⟩, by simp, fun _ l hl => by simp at hl⟩
  · simp [Value.cells] at hcs
    obtain ⟨rfl, rfl, rfl⟩ := hcs
    simp only [Prod.mk.injEq] at hx
    obtain ⟨rfl, rfl⟩ := hx
    simp only [if_true] at hmm
    rw [hCt] at hel hlt
    obtain ⟨F, hF⟩ := choose_lt (α := Value × List Int) (n := len) (p := fun i p => W.cell? (a.add (i * 1)) = some p.1 ∧ Row W p.1 p.2.length (p.2.map (Value.int .i64)) ∧ (∀ q ∈ p.2, (Lit.int .i64 q).wf = true) ∧ ((∀ n ∈ (D i).weights P t, n ≤ reachBytes) → p.2.length * P.bytesOf e ≤ reachBytes)) (fun i hi => by
      obtain ⟨cs', h1, h2⟩ := hel i (by omega)
      obtain ⟨_, hlen, hc⟩ := World.cells?_some h1
      match cs', hlen with
      | [v0], _ =>
        obtain ⟨l, hr, hw, hq⟩ := cell_ints_few ht he hC h2 (fun y hy => hlt y (List.mem_append.2 (.inr (List.mem_flatMap.2 ⟨i, by simp; omega, hy⟩))))
        refine ⟨(v0, l), ?_, hr, hw, hq⟩
        have := hc 0 (by omega)
        have hz : (a.add (i * 1)).add 0 = a.add (i * 1) := by simp [Addr.add]
        rw [hz] at this; exact this)
    refine ⟨(List.range len).map fun i => (F i).1, (List.range len).map fun i => (F i).2, ⟨by simp, ?_, fun i u l hu hl' => ?_⟩, fun l hl p hp => ?_, fun hw l hl => ?_⟩
    · rw [show ((List.range len).map fun i => (F i).2).length = len by simp]
      refine ⟨some a, cap, rfl, hl, hm, ?_⟩
      by_cases hl0 : len = 0
      · exact .inl ⟨hl0, fun h => by cases h⟩
      · obtain ⟨b, off, spot⟩ := a
        have hspot : spot = none := by simpa [Addr.add] using World.cell?_spot (hF 0 (by omega)).1
        subst hspot
        have hbW : b < W.heap.size := hlt (.cell b off) (List.mem_append.2 (.inl (MemPlace.mem_row.2 ⟨0, by omega, by simp⟩)))
        refine .inr ⟨b, off, rfl, hbW, fun j u hj => ?_⟩
        have hj2 : j < len := by
          have := (List.getElem?_eq_some_iff.1 hj).1
          simpa using this
        have h1 := (hF j hj2).1
        rw [WideShapes.add_plain, Nat.mul_one] at h1
        rw [h1]
        simpa [hj2] using hj
    · have hi2 : i < len := by
        have := (List.getElem?_eq_some_iff.1 hu).1
        simpa using this
      simp [hi2] at hu hl'
      subst hu hl'
      exact (hF i hi2).2.1
    · obtain ⟨i, hi, rfl⟩ := List.mem_map.1 hl
      exact (hF i (by simpa using hi)).2.2.1 p hp
    · obtain ⟨i, hi, rfl⟩ := List.mem_map.1 hl
      refine (hF i (by simpa using hi)).2.2.2 fun n hn => hw n ?_
      simp only [DataW.weights, hT]
      exact List.mem_cons_of_mem _ (List.mem_append.2 (.inl (weightsAll_mem (List.mem_map.2 ⟨i, hi, rfl⟩) hn)))
end Go.Proofs.YtbanmggkfpnalaaGreatDoor

set_option linter.unusedVariables false
set_option linter.unusedSimpArgs false
namespace Go.Proofs.YtbanmggkfpnalaaGreatDoor
open Go.RowKit Go.ChangeShapes Go.WideShapes Go.ChangeAt Go.Deep Go.Joins

/-- numbers of a machine in each set -/
inductive RE.Raw : RE → Prop
  | mk (k : Int) (s : List (Int × Int)) (l : List RE) (hs : i32s s) (h : ∀ (i : Nat) (e : RE), l[i]? = some e → RE.Raw e) : RE.Raw (.mk k s l)
theorem RE.Raw.sets {e : RE} (h : e.Raw) : i32s e.set := by cases h; assumption
theorem RE.Raw.part {e p : RE} {i : Nat} (h : e.Raw) (hp : e.parts[i]? = some p) : p.Raw := by cases h with | mk k s l hs h => exact h i p hp
theorem len2 {α : Type} {l : List α} (h : l.length = 2) : ∃ a b, l = [a, b] := by
  match l, h with
  | [a, b], _ => exact ⟨a, b, rfl⟩
theorem len3 {α : Type} {l : List α} (h : l.length = 3) : ∃ a b c, l = [a, b, c] := by
  match l, h with
  | [a, b, c], _ => exact ⟨a, b, c, rfl⟩
theorem len4 {α : Type} {l : List α} (h : l.length = 4) : ∃ a b c d, l = [a, b, c, d] := by
  match l, h with
  | [a, b, c, d], _ => exact ⟨a, b, c, d, rfl⟩
theorem len5 {α : Type} {l : List α} (h : l.length = 5) : ∃ a b c d e, l = [a, b, c, d, e] := by
  match l, h with
  | [a, b, c, d, e], _ => exact ⟨a, b, c, d, e, rfl⟩
theorem len6 {α : Type} {l : List α} (h : l.length = 6) : ∃ a b c d e f, l = [a, b, c, d, e, f] := by
  match l, h with
  | [a, b, c, d, e, f], _ => exact ⟨a, b, c, d, e, f, rfl⟩
theorem fm_inv {α : Type} (f : α → List Value) (W : Nat) : ∀ (l : List α) (j : Nat) (u : Value), (∀ a ∈ l, (f a).length = W) → (l.flatMap f)[j]? = some u → ∃ i a r, l[i]? = some a ∧ j = i * W + r ∧ r < W ∧ (f a)[r]? = some u := by
  intro l
  induction l with
  | nil => intro j u _ h; simp at h
  | cons x l ih =>
    intro j u hW h
    have hx := hW x (by simp)
    rw [List.flatMap_cons] at h
    rcases Nat.lt_or_ge j W with hj | hj
    · rw [List.getElem?_append_left (by omega)] at h
      exact ⟨0, x, j, rfl, by omega, hj, h⟩
    · rw [List.getElem?_append_right (by omega), hx] at h
      obtain ⟨i, a, r, h1, h2, h3, h4⟩ := ih (j - W) u (fun a ha => hW a (by simp [ha])) h
      exact ⟨i + 1, a, r, by simpa using h1, by rw [Nat.succ_mul]; omega, h3, h4⟩
theorem flat_eq {α : Type} {f : α → List Value} : ∀ (ps : List (List Value × α)), (∀ p ∈ ps, p.1 = f p.2) → ps.flatMap (·.1) = (ps.map (·.2)).flatMap f := by
  intro ps
  induction ps with
  | nil => intro _; rfl
  | cons p ps ih => intro h; rw [List.flatMap_cons, List.map_cons, List.flatMap_cons, h p (by simp), ih fun q hq => h q (by simp [hq])]
section
variable {H : Type} {enc : TypeId × Value → H} {W : World}
/-- a slice that is read: its elements' cells, each with what it holds -/
theorem trod_row {P : Program} {t e : TypeId} {fuel : Nat} {v : Value} {x : DataW H × List MemPlace} {α : Type} [Inhabited α] (C : Nat) (Q : List Value → α → Prop)
    (ht : P.underlying t = some (.slice e)) (hC : P.cellsOf e = C) (hC0 : 0 < C)
    (hf : DataW.trod enc P W 0 (fun _ => true) true fuel t [v] = some x) (hlt : ∀ y ∈ x.2, y.block < W.heap.size)
    (hq : ∀ n cs y, n < fuel → DataW.trod enc P W 0 (fun _ => true) true n e cs = some y → (∀ z ∈ y.2, z.block < W.heap.size) → ∃ a, Q cs a) :
    ∃ ps : List (List Value × α), Row W v ps.length (ps.flatMap (·.1)) ∧ ∀ p ∈ ps, p.1.length = C ∧ Q p.1 p.2 := by
  rcases DataW.trod_slice ht hf with ⟨hcs, hx⟩ | ⟨a, len, cap, elems, rest, n, rfl, hcs, hx, _, hl, hm, hlen, hel, _, _⟩
  · simp at hcs
    subst hcs
    exact ⟨[], Row.nil W, by simp⟩
  · simp at hcs
    subst hcs
    obtain ⟨F, hF⟩ := choose_lt (α := List Value × α) (n := len) (p := fun i p => W.cells? 0 (a.add (i * C)) C = some p.1 ∧ p.1.length = C ∧ Q p.1 p.2) (fun i hi => by
      have h1 := hel i hi
      rw [hC, List.getElem?_eq_getElem (by omega)] at h1
      obtain ⟨cs', h2, h3⟩ := Option.bind_eq_some_iff.1 h1
      obtain ⟨_, hl', _⟩ := World.cells?_some h2
      obtain ⟨q, hq'⟩ := hq n cs' _ (by omega) h3 (fun z hz => hlt z (by rw [hx]; exact List.mem_append.2 (.inr (List.mem_flatMap.2 ⟨elems[i], List.mem_append.2 (.inl (List.getElem_mem _)), hz⟩))))
      exact ⟨(cs', q), h2, hl', hq'⟩)
    refine ⟨(List.range len).map F, ?_, fun p hp => ?_⟩
    · rw [show ((List.range len).map F).length = len by simp]
      refine ⟨some a, cap, rfl, hl, hm, ?_⟩
      by_cases hl0 : len = 0
      · exact .inl ⟨hl0, fun h => by cases h⟩
      · obtain ⟨b, off, spot⟩ := a
        obtain ⟨h01, h02, _⟩ := hF 0 (by omega)
        have hc0 := (World.cells?_some h01).2.2 0 hC0
        rw [List.getElem?_eq_getElem (by omega)] at hc0
        have hspot : spot = none := by simpa [Addr.add] using World.cell?_spot hc0
        subst hspot
        have hbW : b < W.heap.size := hlt (.cell b off) (by
          rw [hx]
          exact List.mem_append.2 (.inl (MemPlace.mem_row.2 ⟨0, by rw [hC]; exact Nat.mul_pos (by omega) hC0, by simp⟩)))
        refine .inr ⟨b, off, rfl, hbW, fun j u hj => ?_⟩
        obtain ⟨i, q, r, hi, rfl, hr, hu⟩ := fm_inv (fun p : List Value × α => p.1) C _ j u (fun q hq => by
          obtain ⟨i, hi, rfl⟩ := List.mem_map.1 hq
          exact (hF i (by simpa using hi)).2.1) hj
        have hil : i < len := by simpa using (List.getElem?_eq_some_iff.1 hi).1
        have hq : F i = q := by simpa [hil] using hi
        subst hq
        have := (World.cells?_some (hF i hil).1).2.2 r hr
        rw [WideShapes.add_plain, WideShapes.add_plain, Nat.add_assoc] at this
        rw [this]; exact hu
    · obtain ⟨i, hi, rfl⟩ := List.mem_map.1 hp
      exact (hF i (by simpa using hi)).2
theorem fld {P : Program} {n o c : Nat} {t : TypeId} {cs : List Value} {r : Option (DataW H × List MemPlace)} (g : DataW.trod enc P W 0 (fun _ => true) true n t ((cs.drop o).take (P.cellsOf t)) = r) (hc : P.cellsOf t = c) : DataW.trod enc P W 0 (fun _ => true) true n t ((cs.drop o).take c) = r := by rw [hc] at g; exact g
theorem c1int : Tryz.prog.cellsOf 3 = 1 := by kernel_rfl
theorem c1i32 : Tryz.prog.cellsOf 21 = 1 := by kernel_rfl
theorem c1bool : Tryz.prog.cellsOf 4 = 1 := by kernel_rfl
theorem c1str : Tryz.prog.cellsOf 9 = 1 := by kernel_rfl
theorem c1strs : Tryz.prog.cellsOf 44 = 1 := by kernel_rfl
theorem c1rngs : Tryz.prog.cellsOf 22 = 1 := by kernel_rfl
theorem c1res : Tryz.prog.cellsOf 23 = 1 := by kernel_rfl
theorem c1pats : Tryz.prog.cellsOf 45 = 1 := by kernel_rfl
theorem c1stps : Tryz.prog.cellsOf 62 = 1 := by kernel_rfl
theorem c1toks : Tryz.prog.cellsOf 32 = 1 := by kernel_rfl
theorem c1ruls : Tryz.prog.cellsOf 33 = 1 := by kernel_rfl
theorem c2rng : Tryz.prog.cellsOf 53 = 2 := by kernel_rfl
theorem c3re : Tryz.prog.cellsOf 25 = 3 := by kernel_rfl
theorem c4pat : Tryz.prog.cellsOf 47 = 4 := by kernel_rfl
theorem c6tok : Tryz.prog.cellsOf 61 = 6 := by kernel_rfl
theorem c5stp : Tryz.prog.cellsOf 66 = 5 := by kernel_rfl
theorem c3rul : Tryz.prog.cellsOf 64 = 3 := by kernel_rfl
theorem c2gra : Tryz.prog.cellsOf 35 = 2 := by kernel_rfl
theorem i32_of {n : Int} (h : (Lit.int .i32 n).wf = true) : -2147483648 ≤ n ∧ n ≤ 2147483647 := by
  simp only [Lit.wf, Bool.and_eq_true, decide_eq_true_eq] at h
  exact ⟨h.1, by have := h.2; exact this⟩
set_option maxRecDepth 100000 in
/-- ranges -/
theorem read_rngs {fuel : Nat} {v : Value} {x : DataW H × List MemPlace} (hf : DataW.trod enc Tryz.prog W 0 (fun _ => true) true fuel 22 [v] = some x) (hlt : ∀ y ∈ x.2, y.block < W.heap.size) :
    ∃ s : List (Int × Int), Row W v s.length (flatK .i32 s) ∧ i32s s := by
  obtain ⟨ps, h1, h2⟩ := trod_row (α := Int × Int) 2 (fun cs p => cs = [.int .i32 p.1, .int .i32 p.2] ∧ (-2147483648 ≤ p.1 ∧ p.1 ≤ 2147483647) ∧ (-2147483648 ≤ p.2 ∧ p.2 ≤ 2147483647)) Tryz.underlying22 c2rng (by omega) hf hlt (fun n cs y hn hy hl => by
    obtain ⟨xs, m, rfl, hx, hcl, hxl, hg⟩ := DataW.trod_struct Tryz.underlying53 hy
    rw [c2rng] at hcl
    obtain ⟨a0, a1, rfl⟩ := len2 hcl
    obtain ⟨y0, y1, rfl⟩ := len2 hxl
    have g0 : DataW.trod enc Tryz.prog W 0 (fun _ => true) true m 21 [a0] = some y0 := fld (o := 0) (cs := [a0, a1]) (hg 0 _ rfl) c1i32
    have g1 : DataW.trod enc Tryz.prog W 0 (fun _ => true) true m 21 [a1] = some y1 := fld (o := 1) (cs := [a0, a1]) (hg 1 _ rfl) c1i32
    obtain ⟨z0, e0, _, w0⟩ := DataW.trod_int Tryz.underlying21 g0
    obtain ⟨z1, e1, _, w1⟩ := DataW.trod_int Tryz.underlying21 g1
    simp at e0 e1
    subst e0 e1
    exact ⟨(z0, z1), rfl, i32_of w0, i32_of w1⟩)
  refine ⟨ps.map (·.2), ?_, fun p hp => ?_⟩
  · rw [List.length_map, flatK, ← flat_eq ps fun p hp => (h2 p hp).2.1]; exact h1
  · obtain ⟨q, hq, rfl⟩ := List.mem_map.1 hp
    exact (h2 q hq).2.2
set_option maxRecDepth 100000 in
/-- texts -/
theorem read_strs {fuel : Nat} {v : Value} {x : DataW H × List MemPlace} (hf : DataW.trod enc Tryz.prog W 0 (fun _ => true) true fuel 44 [v] = some x) (hlt : ∀ y ∈ x.2, y.block < W.heap.size) :
    ∃ l : List ByteArray, Row W v l.length (strs l) := by
  obtain ⟨ps, h1, h2⟩ := trod_row (α := ByteArray) 1 (fun cs s => cs = [.string s]) Tryz.underlying44 c1str (by omega) hf hlt (fun n cs y hn hy hl => by
    obtain ⟨s, e0, _, w0⟩ := DataW.trod_string Tryz.underlying9 hy
    exact ⟨s, e0⟩)
  refine ⟨ps.map (·.2), ?_⟩
  have e := flat_eq (f := fun s : ByteArray => [Value.string s]) ps fun p hp => (h2 p hp).2
  have e2 : ∀ l : List ByteArray, (l.flatMap fun s => [Value.string s]) = strs l := fun l => by
    unfold strs
    induction l with
    | nil => rfl
    | cons a l ih => rw [List.flatMap_cons, ih]; rfl
  rw [e2] at e
  rw [List.length_map, ← e]; exact h1
set_option maxRecDepth 100000 in
/-- an expression -/
theorem read_re : ∀ (fuel : Nat) (cs : List Value) (x : DataW H × List MemPlace), DataW.trod enc Tryz.prog W 0 (fun _ => true) true fuel 25 cs = some x → (∀ y ∈ x.2, y.block < W.heap.size) →
    ∃ p : RE × Value × Value, cs = [.int .i64 p.1.kind, p.2.1, p.2.2] ∧ ReIs W p.1 p.2.1 p.2.2 ∧ p.1.Raw := by
  intro fuel
  induction fuel using Nat.strongRecOn with
  | _ fuel ih =>
    intro cs x h hlt
    obtain ⟨xs, n, rfl, rfl, hcl, hxl, hg⟩ := DataW.trod_struct Tryz.underlying25 h
    rw [c3re] at hcl
    obtain ⟨a0, a1, a2, rfl⟩ := len3 hcl
    obtain ⟨y0, y1, y2, rfl⟩ := len3 hxl
    have g0 : DataW.trod enc Tryz.prog W 0 (fun _ => true) true n 3 [a0] = some y0 := fld (o := 0) (cs := [a0, a1, a2]) (hg 0 _ rfl) c1int
    have g1 : DataW.trod enc Tryz.prog W 0 (fun _ => true) true n 22 [a1] = some y1 := fld (o := 1) (cs := [a0, a1, a2]) (hg 1 _ rfl) c1rngs
    have g2 : DataW.trod enc Tryz.prog W 0 (fun _ => true) true n 23 [a2] = some y2 := fld (o := 2) (cs := [a0, a1, a2]) (hg 2 _ rfl) c1res
    obtain ⟨k, e0, _, w0⟩ := DataW.trod_int Tryz.underlying3 g0
    simp at e0
    subst e0
    obtain ⟨s, hs, hz⟩ := read_rngs g1 (fun y hy => hlt y (by simp [hy]))
    letI : Inhabited (RE × Value × Value) := ⟨(.mk 0 [] [], .nilIface, .nilIface)⟩
    obtain ⟨ps, h1, h2⟩ := trod_row (α := RE × Value × Value) 3 (fun cs p => cs = [.int .i64 p.1.kind, p.2.1, p.2.2] ∧ ReIs W p.1 p.2.1 p.2.2 ∧ p.1.Raw) Tryz.underlying23 c3re (by omega) g2 (fun y hy => hlt y (by simp [hy])) (fun m cs y hm hy hl => ih m (by omega) cs y hy hl)
    have hget : ∀ (i : Nat) (e : RE) (p : Int × Value × Value), (ps.map fun q => q.2.1)[i]? = some e → (ps.map fun q => (q.2.1.kind, q.2.2.1, q.2.2.2))[i]? = some p → ∃ q ∈ ps, e = q.2.1 ∧ p = (q.2.1.kind, q.2.2.1, q.2.2.2) := by
      intro i e p he hp
      rw [List.getElem?_map] at he hp
      obtain ⟨q, hq, rfl⟩ := Option.map_eq_some_iff.1 he
      rw [hq] at hp
      simp at hp
      exact ⟨q, List.mem_of_getElem? hq, rfl, hp.symm⟩
    refine ⟨(.mk k s (ps.map fun q => q.2.1), a1, a2), rfl, .mk k s _ a1 a2 (ps.map fun q => (q.2.1.kind, q.2.2.1, q.2.2.2)) hs ?_ (by simp) ?_ ?_, .mk k s _ hz ?_⟩
    · rw [List.length_map]
      have e := flat_eq (f := fun p : RE × Value × Value => [Value.int .i64 p.1.kind, p.2.1, p.2.2]) ps fun p hp => (h2 p hp).2.1
      have e2 : trip (ps.map fun q => (q.2.1.kind, q.2.2.1, q.2.2.2)) = (ps.map (·.2)).flatMap fun p : RE × Value × Value => [Value.int .i64 p.1.kind, p.2.1, p.2.2] := by
        unfold trip; rw [List.flatMap_map, List.flatMap_map]
      rw [e2, ← e]; exact h1
    · intro i e p he hp
      obtain ⟨q, _, rfl, rfl⟩ := hget i e p he hp
      rfl
    · intro i e p he hp
      obtain ⟨q, hq, rfl, rfl⟩ := hget i e p he hp
      exact (h2 q hq).2.2.1
    · intro i e he
      rw [List.getElem?_map] at he
      obtain ⟨q, hq, rfl⟩ := Option.map_eq_some_iff.1 he
      exact (h2 q (List.mem_of_getElem? hq)).2.2.2
set_option maxRecDepth 100000 in
/-- a pattern -/
theorem read_pt : ∀ (fuel : Nat) (cs : List Value) (x : DataW H × List MemPlace), DataW.trod enc Tryz.prog W 0 (fun _ => true) true fuel 47 cs = some x → (∀ y ∈ x.2, y.block < W.heap.size) →
    ∃ p : PT × Value × Value × Value, cs = [.int .i64 p.1.kind, p.2.1, p.2.2.1, p.2.2.2] ∧ PtIs W p.1 p.2.1 p.2.2.1 p.2.2.2 := by
  intro fuel
  induction fuel using Nat.strongRecOn with
  | _ fuel ih =>
    intro cs x h hlt
    obtain ⟨xs, n, rfl, rfl, hcl, hxl, hg⟩ := DataW.trod_struct Tryz.underlying47 h
    rw [c4pat] at hcl
    obtain ⟨a0, a1, a2, a3, rfl⟩ := len4 hcl
    obtain ⟨y0, y1, y2, y3, rfl⟩ := len4 hxl
    have g0 : DataW.trod enc Tryz.prog W 0 (fun _ => true) true n 3 [a0] = some y0 := fld (o := 0) (cs := [a0, a1, a2, a3]) (hg 0 _ rfl) c1int
    have g1 : DataW.trod enc Tryz.prog W 0 (fun _ => true) true n 44 [a1] = some y1 := fld (o := 1) (cs := [a0, a1, a2, a3]) (hg 1 _ rfl) c1strs
    have g2 : DataW.trod enc Tryz.prog W 0 (fun _ => true) true n 44 [a2] = some y2 := fld (o := 2) (cs := [a0, a1, a2, a3]) (hg 2 _ rfl) c1strs
    have g3 : DataW.trod enc Tryz.prog W 0 (fun _ => true) true n 45 [a3] = some y3 := fld (o := 3) (cs := [a0, a1, a2, a3]) (hg 3 _ rfl) c1pats
    obtain ⟨k, e0, _, w0⟩ := DataW.trod_int Tryz.underlying3 g0
    simp at e0
    subst e0
    obtain ⟨s, hs⟩ := read_strs g1 (fun y hy => hlt y (by simp [hy]))
    obtain ⟨t, ht⟩ := read_strs g2 (fun y hy => hlt y (by simp [hy]))
    letI : Inhabited (PT × Value × Value × Value) := ⟨(.mk 0 [] [] [], .nilIface, .nilIface, .nilIface)⟩
    obtain ⟨ps, h1, h2⟩ := trod_row (α := PT × Value × Value × Value) 4 (fun cs p => cs = [.int .i64 p.1.kind, p.2.1, p.2.2.1, p.2.2.2] ∧ PtIs W p.1 p.2.1 p.2.2.1 p.2.2.2) Tryz.underlying45 c4pat (by omega) g3 (fun y hy => hlt y (by simp [hy])) (fun m cs y hm hy hl => ih m (by omega) cs y hy hl)
    have hget : ∀ (i : Nat) (e : PT) (p : Int × Value × Value × Value), (ps.map fun q => q.2.1)[i]? = some e → (ps.map fun q => (q.2.1.kind, q.2.2.1, q.2.2.2.1, q.2.2.2.2))[i]? = some p → ∃ q ∈ ps, e = q.2.1 ∧ p = (q.2.1.kind, q.2.2.1, q.2.2.2.1, q.2.2.2.2) := by
      intro i e p he hp
      rw [List.getElem?_map] at he hp
      obtain ⟨q, hq, rfl⟩ := Option.map_eq_some_iff.1 he
      rw [hq] at hp
      simp at hp
      exact ⟨q, List.mem_of_getElem? hq, rfl, hp.symm⟩
    refine ⟨(.mk k s t (ps.map fun q => q.2.1), a1, a2, a3), rfl, .mk k s t _ a1 a2 a3 (ps.map fun q => (q.2.1.kind, q.2.2.1, q.2.2.2.1, q.2.2.2.2)) hs ht ?_ (by simp) ?_ ?_⟩
    · rw [List.length_map]
      have e := flat_eq (f := fun p : PT × Value × Value × Value => [Value.int .i64 p.1.kind, p.2.1, p.2.2.1, p.2.2.2]) ps fun p hp => (h2 p hp).2.1
      have e2 : quad (ps.map fun q => (q.2.1.kind, q.2.2.1, q.2.2.2.1, q.2.2.2.2)) = (ps.map (·.2)).flatMap fun p : PT × Value × Value × Value => [Value.int .i64 p.1.kind, p.2.1, p.2.2.1, p.2.2.2] := by
        unfold quad; rw [List.flatMap_map, List.flatMap_map]
      rw [e2, ← e]; exact h1
    · intro i e p he hp
      obtain ⟨q, _, rfl, rfl⟩ := hget i e p he hp
      rfl
    · intro i e p he hp
      obtain ⟨q, hq, rfl, rfl⟩ := hget i e p he hp
      exact (h2 q hq).2.2
def TRaw (T : List TK) : Prop := ∀ (i : Nat) (t : TK), T[i]? = some t → t.re.Raw
set_option maxRecDepth 100000 in
/-- tokens -/
theorem read_toks {fuel : Nat} {v : Value} {x : DataW H × List MemPlace} (hf : DataW.trod enc Tryz.prog W 0 (fun _ => true) true fuel 32 [v] = some x) (hlt : ∀ y ∈ x.2, y.block < W.heap.size) :
    ∃ T : List TK, TksAre W v T ∧ TRaw T := by
  letI : Inhabited (TK × Value × Value) := ⟨(⟨⟨#[]⟩, 0, 0, .mk 0 [] []⟩, .nilIface, .nilIface)⟩
  obtain ⟨ps, h1, h2⟩ := trod_row (α := TK × Value × Value) 6 (fun cs p => cs = six p ∧ ReIs W p.1.re p.2.1 p.2.2 ∧ p.1.re.Raw) Tryz.underlying32 c6tok (by omega) hf hlt (fun n cs y hn hy hl => by
    obtain ⟨xs, m, rfl, rfl, hcl, hxl, hg⟩ := DataW.trod_struct Tryz.underlying61 hy
    rw [c6tok] at hcl
    obtain ⟨a0, a1, a2, a3, a4, a5, rfl⟩ := len6 hcl
    obtain ⟨y0, y1, y2, y3, rfl⟩ := len4 hxl
    have g0 : DataW.trod enc Tryz.prog W 0 (fun _ => true) true m 9 [a0] = some y0 := fld (o := 0) (cs := [a0, a1, a2, a3, a4, a5]) (hg 0 _ rfl) c1str
    have g1 : DataW.trod enc Tryz.prog W 0 (fun _ => true) true m 3 [a1] = some y1 := fld (o := 1) (cs := [a0, a1, a2, a3, a4, a5]) (hg 1 _ rfl) c1int
    have g2 : DataW.trod enc Tryz.prog W 0 (fun _ => true) true m 3 [a2] = some y2 := fld (o := 2) (cs := [a0, a1, a2, a3, a4, a5]) (hg 2 _ rfl) c1int
    have g3 : DataW.trod enc Tryz.prog W 0 (fun _ => true) true m 25 [a3, a4, a5] = some y3 := fld (o := 3) (cs := [a0, a1, a2, a3, a4, a5]) (hg 3 _ rfl) c3re
    obtain ⟨s, e0, _, _⟩ := DataW.trod_string Tryz.underlying9 g0
    obtain ⟨k, e1, _, _⟩ := DataW.trod_int Tryz.underlying3 g1
    obtain ⟨c, e2, _, _⟩ := DataW.trod_int Tryz.underlying3 g2
    simp at e0 e1 e2
    subst e0 e1 e2
    obtain ⟨⟨e, sv, lv⟩, hcs, hr, hw⟩ := read_re _ _ _ g3 (fun y hy => hl y (by simp [hy]))
    simp at hcs
    obtain ⟨rfl, rfl, rfl⟩ := hcs
    exact ⟨(⟨s, k, c, e⟩, a4, a5), rfl, hr, hw⟩)
  refine ⟨ps.map fun q => q.2.1, ⟨ps.map (·.2), by simp, ?_, fun i p hp => ?_⟩, fun i t ht => ?_⟩
  · rw [List.length_map, ← flat_eq ps fun p hp => (h2 p hp).2.1]; exact h1
  · rw [List.getElem?_map] at hp
    obtain ⟨q, hq, rfl⟩ := Option.map_eq_some_iff.1 hp
    exact (h2 q (List.mem_of_getElem? hq)).2.2.1
  · rw [List.getElem?_map] at ht
    obtain ⟨q, hq, rfl⟩ := Option.map_eq_some_iff.1 ht
    exact (h2 q (List.mem_of_getElem? hq)).2.2.2
set_option maxRecDepth 100000 in
/-- steps -/
theorem read_stps {fuel : Nat} {v : Value} {x : DataW H × List MemPlace} (hf : DataW.trod enc Tryz.prog W 0 (fun _ => true) true fuel 62 [v] = some x) (hlt : ∀ y ∈ x.2, y.block < W.heap.size) :
    ∃ L : List ST, StsAre W v L := by
  letI : Inhabited (ST × Value × Value × Value × Value) := ⟨(⟨[], .mk 0 [] [] []⟩, .nilIface, .nilIface, .nilIface, .nilIface)⟩
  obtain ⟨ps, h1, h2⟩ := trod_row (α := ST × Value × Value × Value × Value) 5 (fun cs p => cs = five p ∧ Row W p.2.1 p.1.calls.length (strs p.1.calls) ∧ PtIs W p.1.p p.2.2.1 p.2.2.2.1 p.2.2.2.2) Tryz.underlying62 c5stp (by omega) hf hlt (fun n cs y hn hy hl => by
    obtain ⟨xs, m, rfl, rfl, hcl, hxl, hg⟩ := DataW.trod_struct Tryz.underlying66 hy
    rw [c5stp] at hcl
    obtain ⟨a0, a1, a2, a3, a4, rfl⟩ := len5 hcl
    obtain ⟨y0, y1, rfl⟩ := len2 hxl
    have g0 : DataW.trod enc Tryz.prog W 0 (fun _ => true) true m 44 [a0] = some y0 := fld (o := 0) (cs := [a0, a1, a2, a3, a4]) (hg 0 _ rfl) c1strs
    have g1 : DataW.trod enc Tryz.prog W 0 (fun _ => true) true m 47 [a1, a2, a3, a4] = some y1 := fld (o := 1) (cs := [a0, a1, a2, a3, a4]) (hg 1 _ rfl) c4pat
    obtain ⟨s, hs⟩ := read_strs g0 (fun y hy => hl y (by simp [hy]))
    obtain ⟨⟨e, nv, ev, lv⟩, hcs, hr⟩ := read_pt _ _ _ g1 (fun y hy => hl y (by simp [hy]))
    simp at hcs
    obtain ⟨rfl, rfl, rfl, rfl⟩ := hcs
    exact ⟨(⟨s, e⟩, a0, a2, a3, a4), rfl, hs, hr⟩)
  refine ⟨ps.map fun q => q.2.1, ps.map (·.2), by simp, ?_, fun i p hp => ?_⟩
  · rw [List.length_map, ← flat_eq ps fun p hp => (h2 p hp).2.1]; exact h1
  · rw [List.getElem?_map] at hp
    obtain ⟨q, hq, rfl⟩ := Option.map_eq_some_iff.1 hp
    exact (h2 q (List.mem_of_getElem? hq)).2.2
set_option maxRecDepth 100000 in
/-- rules -/
theorem read_ruls {fuel : Nat} {v : Value} {x : DataW H × List MemPlace} (hf : DataW.trod enc Tryz.prog W 0 (fun _ => true) true fuel 33 [v] = some x) (hlt : ∀ y ∈ x.2, y.block < W.heap.size) :
    ∃ R : List RU, RusAre W v R := by
  letI : Inhabited (RU × Value) := ⟨(⟨0, false, []⟩, .nilIface)⟩
  obtain ⟨ps, h1, h2⟩ := trod_row (α := RU × Value) 3 (fun cs p => cs = three p ∧ StsAre W p.2 p.1.steps) Tryz.underlying33 c3rul (by omega) hf hlt (fun n cs y hn hy hl => by
    obtain ⟨xs, m, rfl, rfl, hcl, hxl, hg⟩ := DataW.trod_struct Tryz.underlying64 hy
    rw [c3rul] at hcl
    obtain ⟨a0, a1, a2, rfl⟩ := len3 hcl
    obtain ⟨y0, y1, y2, rfl⟩ := len3 hxl
    have g0 : DataW.trod enc Tryz.prog W 0 (fun _ => true) true m 3 [a0] = some y0 := fld (o := 0) (cs := [a0, a1, a2]) (hg 0 _ rfl) c1int
    have g1 : DataW.trod enc Tryz.prog W 0 (fun _ => true) true m 4 [a1] = some y1 := fld (o := 1) (cs := [a0, a1, a2]) (hg 1 _ rfl) c1bool
    have g2 : DataW.trod enc Tryz.prog W 0 (fun _ => true) true m 62 [a2] = some y2 := fld (o := 2) (cs := [a0, a1, a2]) (hg 2 _ rfl) c1stps
    obtain ⟨k, e0, _, _⟩ := DataW.trod_int Tryz.underlying3 g0
    obtain ⟨b, e1, _⟩ := DataW.trod_bool Tryz.underlying4 g1
    simp at e0 e1
    subst e0 e1
    obtain ⟨L, hL⟩ := read_stps g2 (fun y hy => hl y (by simp [hy]))
    exact ⟨(⟨k, b, L⟩, a2), rfl, hL⟩)
  refine ⟨ps.map fun q => q.2.1, ps.map (·.2), by simp, ?_, fun i p hp => ?_⟩
  · rw [List.length_map, ← flat_eq ps fun p hp => (h2 p hp).2.1]; exact h1
  · rw [List.getElem?_map] at hp
    obtain ⟨q, hq, rfl⟩ := Option.map_eq_some_iff.1 hp
    exact (h2 q (List.mem_of_getElem? hq)).2.2
set_option maxRecDepth 100000 in
/-- an argument that is a grammar -/
theorem arg_gram {r : Reach} {b0 : Nat} {v : Value} {d : DataW H} {ps : List MemPlace} (hval : Value.okWide Tryz.prog W r b0 35 v) (h : DataW.Trod enc Tryz.prog W 0 (fun _ => true) true 35 v d ps) (hlt : ∀ x ∈ ps, x.block < W.heap.size) :
    ∃ (T : List TK) (R : List RU) (tv rv : Value), v = .agg #[tv, rv] ∧ TksAre W tv T ∧ RusAre W rv R ∧ TRaw T := by
  obtain ⟨v0, v1, y0, y1, n, rfl, rfl, rfl, h0, h1⟩ := open_agg2 Tryz.underlying35 (by kernel_rfl) c2gra hval h
  obtain ⟨T, hT, hTr⟩ := read_toks h0 (fun y hy => hlt y (by simp [hy]))
  obtain ⟨R, hR⟩ := read_ruls h1 (fun y hy => hlt y (by simp [hy]))
  exact ⟨T, R, v0, v1, rfl, hT, hR, hTr⟩
end
end Go.Proofs.YtbanmggkfpnalaaGreatDoor
