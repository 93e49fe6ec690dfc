/- An argument that is a slice of structs of three whole numbers and a []byte is a row whose last cells are rows. -/
import Derived.Test.YtjeploipaejepaaArgRow
import Derived.Test.YtjeploipaejepaaArgPairs
namespace Go.Proofs.Ytjeploipaejepaa
open Go.RowKit Go.ChangeShapes Go.WideShapes Go.ChangeAt Go.Deep Go.Joins
set_option linter.unusedVariables false
set_option linter.unusedSimpArgs false

/-- one element: three numbers, a slice, its bytes -/
structure OpR where
  k : Int
  a : Int
  d : Int
  v : Value
  bs : List Int
instance : Inhabited OpR := ⟨⟨0, 0, 0, .slice none 0 0, []⟩⟩
def opCells (l : List OpR) : List Value := l.flatMap fun o => [.int .i64 o.k, .int .i64 o.a, .int .i64 o.d, o.v]
def opGood (W : World) (o : OpR) : Prop := (Lit.int .i64 o.k).wf = true ∧ (Lit.int .i64 o.a).wf = true ∧ (Lit.int .i64 o.d).wf = true ∧ Row W o.v o.bs.length (o.bs.map (Value.int .u8)) ∧ ∀ x ∈ o.bs, 0 ≤ x ∧ x < 256

theorem opCells_get : ∀ (l : List OpR) (j : Nat) (u : Value), (opCells l)[j]? = some u → ∃ i, i < l.length ∧ ((j = i * 4 ∧ u = .int .i64 (l.getD i default).k) ∨ (j = i * 4 + 1 ∧ u = .int .i64 (l.getD i default).a) ∨ (j = i * 4 + 2 ∧ u = .int .i64 (l.getD i default).d) ∨ (j = i * 4 + 3 ∧ u = (l.getD i default).v))
  | [], j, u, h => by simp [opCells] at h
  | o :: l, 0, u, h => ⟨0, by simp, .inl ⟨rfl, by simp [opCells] at h; simp [h]⟩⟩
  | o :: l, 1, u, h => ⟨0, by simp, .inr (.inl ⟨rfl, by simp [opCells] at h; simp [h]⟩)⟩
  | o :: l, 2, u, h => ⟨0, by simp, .inr (.inr (.inl ⟨rfl, by simp [opCells] at h; simp [h]⟩))⟩
  | o :: l, 3, u, h => ⟨0, by simp, .inr (.inr (.inr ⟨rfl, by simp [opCells] at h; simp [h]⟩))⟩
  | o :: l, j + 4, u, h => by
    have e2 : opCells (o :: l) = .int .i64 o.k :: .int .i64 o.a :: .int .i64 o.d :: o.v :: opCells l := rfl
    rw [e2] at h
    obtain ⟨i, hi, h1⟩ := opCells_get l j u (by simpa using h)
    refine ⟨i + 1, by simpa using hi, ?_⟩
    rcases h1 with ⟨hj, hu⟩ | ⟨hj, hu⟩ | ⟨hj, hu⟩ | ⟨hj, hu⟩
    · exact .inl ⟨by omega, by rw [hu]; simp⟩
    · exact .inr (.inl ⟨by omega, by rw [hu]; simp⟩)
    · exact .inr (.inr (.inl ⟨by omega, by rw [hu]; simp⟩))
    · exact .inr (.inr (.inr ⟨by omega, by rw [hu]; simp⟩))

/-- a cell that reads as a slice of whole numbers is a row -/
theorem cell_row {P : Program} {W : World} {H : Type} {enc : TypeId × Value → H} {t e : TypeId} {k : IntKind} {fuel : Nat} {v : Value} {x : DataW H × List MemPlace}
    (ht : P.underlying t = some (.slice e)) (he : P.underlying e = some (.int k)) (hc : P.cellsOf e = 1)
    (hf : DataW.trod enc P W 0 (fun _ => true) true fuel t [v] = some x) (hlt : ∀ y ∈ x.2, y.block < W.heap.size) :
    ∃ zs : List Int, Row W v zs.length (zs.map (Value.int k)) ∧ ∀ n ∈ zs, (Lit.int k n).wf = true := by
  rcases open_ints ht he hc hf with ⟨hcs, hx⟩ | ⟨a, len, cap, zs, hcs, _, hl, hm, hz, hx, hcell, hwz⟩
  · simp at hcs
    subst hcs
    exact ⟨[], Row.nil W, by simp⟩
  · simp at hcs
    subst hcs
    subst hx
    simp only [if_true] at hz
    have hlen : (zs.take len).length = len := by simp; omega
    refine ⟨zs.take len, ?_, fun n hn => hwz n (List.mem_of_mem_take hn)⟩
    rw [hlen]
    refine ⟨some a, cap, rfl, hl, hm, ?_⟩
    by_cases hl0 : len = 0
    · exact .inl ⟨hl0, fun h => by cases h⟩
    · obtain ⟨b, off, spot⟩ := a
      have hspot : spot = none := by simpa [Addr.add] using World.cell?_spot (hcell 0 (by omega))
      subst hspot
      have hbW : b < W.heap.size := hlt (.cell b off) (MemPlace.mem_row.2 ⟨0, by omega, by simp⟩)
      refine .inr ⟨b, off, rfl, hbW, fun j u hj => ?_⟩
      have hj2 : j < len := by
        have := (List.getElem?_eq_some_iff.1 hj).1
        simp at this; omega
      have h1 := hcell j (by omega)
      rw [WideShapes.add_plain] at h1
      rw [h1]
      rw [List.getElem?_map, List.getElem?_take, if_pos hj2, List.getElem?_eq_getElem (by omega)] at hj
      simp at hj
      rw [← hj, List.getD, List.getElem?_eq_getElem (by omega)]
      rfl

theorem arg_ops {P : Program} {W : World} {H : Type} {enc : TypeId × Value → H} {r : Reach} {b0 : Nat} {t e q : TypeId} {f0 f1 f2 f3 : Field} {v : Value} {d : DataW H} {ps : List MemPlace}
    (ht : P.underlying t = some (.slice e)) (he : P.underlying e = some (.struct #[f0, f1, f2, f3])) (hone : oneCellFields P #[f0, f1, f2, f3] = true) (hC : P.cellsOf e = 4)
    (hk0 : P.underlying f0.type = some (.int .i64)) (hk1 : P.underlying f1.type = some (.int .i64)) (hk2 : P.underlying f2.type = some (.int .i64)) (hk3 : P.underlying f3.type = some (.slice q)) (hq : P.underlying q = some (.int .u8)) (hqc : P.cellsOf q = 1)
    (hval : Value.okWide P W r b0 t v) (h : DataW.Trod enc P W 0 (fun _ => true) true t v d ps) (hlt : ∀ x ∈ ps, x.block < W.heap.size) :
    ∃ l : List OpR, Row W v l.length (opCells l) ∧ ∀ o ∈ l, opGood W o := by
  obtain ⟨a0, len, cap, rfl⟩ := okWide_slice ht hval
  obtain ⟨fuel, hf⟩ := h
  rcases open_slice ht hf with ⟨hcs, hx⟩ | ⟨a, len', cap', m, n, D, Pl, hcs, _, hl, hm, hmm, hx, hel⟩
  · simp [Value.cells] at hcs
    obtain ⟨rfl, rfl, rfl⟩ := hcs
    exact ⟨[], Row.nil W, by simp⟩
  · simp [Value.cells] at hcs
    obtain ⟨rfl, rfl, rfl⟩ := hcs
    simp only [Prod.mk.injEq] at hx
    obtain ⟨rfl, rfl⟩ := hx
    simp only [if_true] at hmm
    rw [hC] at hel hlt
    obtain ⟨o0, c0⟩ := hone_of hone 0 f0 rfl
    obtain ⟨o1, c1⟩ := hone_of hone 1 f1 rfl
    obtain ⟨o2, c2⟩ := hone_of hone 2 f2 rfl
    obtain ⟨o3, c3⟩ := hone_of hone 3 f3 rfl
    obtain ⟨F, hF⟩ := choose_lt (α := OpR) (n := len) (p := fun i p => W.cell? (a.add (i * 4)) = some (.int .i64 p.k) ∧ W.cell? ((a.add (i * 4)).add 1) = some (.int .i64 p.a) ∧ W.cell? ((a.add (i * 4)).add 2) = some (.int .i64 p.d) ∧ W.cell? ((a.add (i * 4)).add 3) = some p.v ∧ opGood W p) (fun i hi => by
      obtain ⟨cs', h1, h2⟩ := hel i (by omega)
      obtain ⟨_, hlen, hc⟩ := World.cells?_some h1
      obtain ⟨y0, y1, y2, y3, n', hxy, _, h3, h4, h5, h6⟩ := trod_struct4 he h2
      rw [o0, c0] at h3
      rw [o1, c1] at h4
      rw [o2, c2] at h5
      rw [o3, c3] at h6
      match cs', hlen with
      | [v0, v1, v2, v3], _ =>
        obtain ⟨z0, e0, _, w0⟩ := DataW.trod_int hk0 h3
        obtain ⟨z1, e1, _, w1⟩ := DataW.trod_int hk1 h4
        obtain ⟨z2, e2, _, w2⟩ := DataW.trod_int hk2 h5
        simp at e0 e1 e2
        subst e0 e1 e2
        obtain ⟨zs, hr, hw⟩ := cell_row (v := v3) hk3 hq hqc (by simpa using h6) (fun y hy => hlt y (List.mem_append.2 (.inr (List.mem_flatMap.2 ⟨i, by simp; omega, by
          have e := congrArg Prod.snd hxy
          simp only at e
          rw [e]; simp [hy]⟩))))
        refine ⟨⟨z0, z1, z2, v3, zs⟩, ?_, hc 1 (by omega), hc 2 (by omega), hc 3 (by omega), w0, w1, w2, hr, u8_of_wf hw⟩
        have := hc 0 (by omega)
        have hz : (a.add (i * 4)).add 0 = a.add (i * 4) := by simp [Addr.add]
        rw [hz] at this; exact this)
    have hlen : ((List.range len).map F).length = len := by simp
    refine ⟨(List.range len).map F, ?_, fun p hp => ?_⟩
    · rw [hlen]
      refine ⟨some a, cap, rfl, hl, hm, ?_⟩
      by_cases hl0 : len = 0
      · exact .inl ⟨hl0, fun h => by cases h⟩
      · obtain ⟨b, off, spot⟩ := a
        have hspot : spot = none := by simpa [Addr.add] using World.cell?_spot (hF 0 (by omega)).1
        subst hspot
        have hbW : b < W.heap.size := hlt (.cell b off) (List.mem_append.2 (.inl (MemPlace.mem_row.2 ⟨0, by omega, by simp⟩)))
        refine .inr ⟨b, off, rfl, hbW, fun j u hj => ?_⟩
        obtain ⟨i, hi, h1⟩ := opCells_get _ j u hj
        rw [hlen] at hi
        have hg : ((List.range len).map F).getD i default = F i := by simp [List.getD, hi]
        rw [hg] at h1
        obtain ⟨q1, q2, q3, q4, _⟩ := hF i hi
        rcases h1 with ⟨rfl, rfl⟩ | ⟨rfl, rfl⟩ | ⟨rfl, rfl⟩ | ⟨rfl, rfl⟩
        · rw [WideShapes.add_plain] at q1; exact q1
        · rw [WideShapes.add_plain, WideShapes.add_plain, Nat.add_assoc] at q2; exact q2
        · rw [WideShapes.add_plain, WideShapes.add_plain, Nat.add_assoc] at q3; exact q3
        · rw [WideShapes.add_plain, WideShapes.add_plain, Nat.add_assoc] at q4; exact q4
    · obtain ⟨i, hi, rfl⟩ := List.mem_map.1 hp
      exact (hF i (by simpa using hi)).2.2.2.2
end Go.Proofs.Ytjeploipaejepaa
