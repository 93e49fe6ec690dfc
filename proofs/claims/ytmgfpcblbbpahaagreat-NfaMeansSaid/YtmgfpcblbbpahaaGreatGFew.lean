/- Few: what gobolaw6.size and gobolaw11.patSize tell of trees. -/
import Derived.StillTail
import Derived.BigQuiet
import Derived.ChangeSlices
import Derived.WideShapes
import Derived.ProofKit
import Derived.OpenShut
import Derived.SizedLaws
import Derived.Laws.EntriesVeiled
import Derived.Deep.LoopGhost
import Derived.WalkSpells
import Derived.Deep.RegionHeld3
import Derived.Deep.DeepCutAuto
import Derived.Defers
import Derived.Recover
import Derived.Lib.OthersKept
import Derived.Laws.RangeAny
import Derived.Test.YtmgfpcblbbpahaaGreatGram
import Derived.Outline
import Derived.RegionTactic
import Derived.ChangeAlike
import Derived.BigRegion
set_option linter.unusedVariables false
set_option linter.unusedSimpArgs false
namespace Go.Proofs.YtmgfpcblbbpahaaGreat
open Go Go.RowKit

section
variable {P : Program} {ops : Array Oper} {md : Region.Mode} {C : World → Prop}
def Hd (P : Program) (md : Region.Mode) (ops : Array Oper) (C : World → Prop) (n : Nat) (L : Array Bool → Act → Prop) : Nat → Array Bool → Act → Prop
  | 0, s, a => L s a
  | f + 1, s, a => Region.ready md ops s ≠ [] ∧ ∀ i ∈ Region.ready md ops s, i < n ∧ qOp P ops C i (Hd P md ops C n L f (s.setIfInBounds i true)) a
theorem hd_any {n g : Nat} {L : Array Bool → Act → Prop} {Q : Exit → Act → World → Prop} (hL : ∀ s a w, C w → L s a → wpAny P md ops Q g s a w) :
    ∀ (f : Nat) (s : Array Bool) (a : Act) (w : World), C w → Hd P md ops C n L f s a → wpAny P md ops Q (f + g) s a w := by
  intro f
  induction f with
  | zero => intro s a w hw h; rw [Nat.zero_add]; exact hL s a w hw h
  | succ f ih =>
    intro s a w hw h
    have e : f + 1 + g = (f + g) + 1 := by omega
    rw [e]
    exact ⟨fun h0 => (h.1 h0).elim, fun i hi => wpOp_of_qOp hw (fun a' w' hw' hh => ih _ a' w' hw' hh) (h.2 i hi).2⟩
structure Frst (md : Region.Mode) (ops : Array Oper) (n i : Nat) (oi : Oper) (s : Array Bool) : Prop where
  inv : HeadInv md ops n s
  rdy : i ∈ Region.ready md ops s
  far : ∀ j oj, ops[j]? = some oj → j ≠ i → s.getD j true = false → (∀ e ∈ oj.after, Region.binds md e = true → e.on ≠ i) → oi.apart ops oj = true
theorem Frst.lt {n i : Nat} {oi : Oper} {s : Array Bool} (h : Frst md ops n i oi s) (hs : Region.sinkB md ops n = true) (hc : Region.chainB md ops n = true) (hn : n < ops.size) (hin : i < n) {j : Nat} (hj : j ∈ Region.ready md ops s) : j < n := by
  rcases Nat.lt_or_ge j n with k | k
  · exact k
  · exact (tail_waits hs hc hn h.inv _ i rfl hin (mem_ready.1 h.rdy).1 j k hj).elim
theorem Frst.next {n i j : Nat} {oi : Oper} {s : Array Bool} (h : Frst md ops n i oi s) (hj : j ∈ Region.ready md ops s) (hjn : j < n) (hji : j ≠ i) : Frst md ops n i oi (s.setIfInBounds j true) where
  inv := h.inv.set hj hjn
  rdy := ready_mono h.rdy hji.symm
  far := by
    intro k ok hk hki hun hno
    refine h.far k ok hk hki ?_ hno
    by_cases e : j = k
    · exact e ▸ (mem_ready.1 hj).1
    · rwa [getD_set_ne true e] at hun
theorem hd_first {n i : Nat} {oi : Oper} {v : Value} {L : Array Bool → Act → Prop} (hi : ops[i]? = some oi) (hsel : Region.noSelect ops = true)
    (hs : Region.sinkB md ops n = true) (hc : Region.chainB md ops n = true) (hn : n < ops.size) (hin : i < n)
    (hd : ∀ s a, L s a → ∀ j ∈ Region.ready md ops s, n ≤ j) :
    ∀ (f : Nat) (s : Array Bool) (a : Act), Frst md ops n i oi s → YieldsIn P ops C oi v a →
      Hd P md ops C n L f (s.setIfInBounds i true) (a.put oi.dst v) → Hd P md ops C n L (f + 1) s a := by
  intro f
  induction f with
  | zero =>
    intro s a F hy H
    refine ⟨fun h => (by have := F.rdy; rw [h] at this; cases this), fun j hj => ⟨F.lt hs hc hn hin hj, ?_⟩⟩
    by_cases e : j = i
    · rw [e]; exact hy.qOp hi H
    · have h1 := hd _ _ H j (ready_mono hj e)
      have h2 := F.lt hs hc hn hin hj
      omega
  | succ f ih =>
    intro s a F hy H
    refine ⟨fun h => (by have := F.rdy; rw [h] at this; cases this), fun j hj => ⟨F.lt hs hc hn hin hj, ?_⟩⟩
    by_cases e : j = i
    · rw [e]; exact hy.qOp hi H
    · obtain ⟨hun, oj, hoj, hall⟩ := mem_ready.1 hj
      have hno : ∀ e ∈ oj.after, Region.binds md e = true → e.on ≠ i := by
        intro x hx hb hxi
        have h1 := hall x hx hb
        rw [hxi, getD_both (mem_ready.1 F.rdy).1] at h1
        cases h1
      have h2 := qOp_put hoj (F.far j oj hoj e hun hno) (fun cs b => Region.noSelect_spec hsel i oi cs b hi) (fun cs b => Region.noSelect_spec hsel j oj cs b hoj) hy (H.2 j (ready_mono hj e)).2
      refine qOp_mono (fun a' h3 => ih _ a' (F.next hj (F.lt hs hc hn hin hj) e) h3.1 ?_) h2
      rw [Array.setIfInBounds_comm _ _ e]
      exact h3.2
theorem hd_lex {n g : Nat} {Lq : Act → Prop} (hsel : Region.noSelect ops = true) (hs : Region.sinkB md ops n = true) (hc : Region.chainB md ops n = true) (hn : n < ops.size) :
    ∀ (l : List Oper) (k : Nat) (s : Array Bool) (a : Act), (∀ j, j < l.length → l[j]? = ops[k + j]?) → k + l.length = n → HeadInv md ops n s →
    Region.lexHead md ops g l.length k s = true → wpQuiet P ops C Lq l a → Hd P md ops C n (fun s' a' => Region.seqB md ops g n s' = true ∧ Lq a') l.length s a := by
  intro l
  induction l with
  | nil =>
    intro k s a _ hk _ hB h
    obtain rfl : k = n := by simpa using hk
    exact ⟨by simpa [Region.lexHead] using hB, h⟩
  | cons o l ih =>
    intro k s a hl hk inv hB h
    have h0 : ops[k]? = some o := by simpa using (hl 0 (by simp)).symm
    rw [List.length_cons] at hk
    simp only [List.length_cons, Region.lexHead, Bool.and_eq_true] at hB
    have hr : k ∈ Region.ready md ops s := by simpa using hB.1.1
    have hst : qOp P ops C k (wpQuiet P ops C Lq l) a := by unfold qOp; simp only [h0]; exact h
    obtain ⟨v, hy, hK⟩ := yieldsIn_of_qOp h0 hst
    refine hd_first h0 hsel hs hc hn (by omega) (fun s' a' hL => seqB_ready hL.1) l.length s a ⟨inv, hr, Region.free_spec h0 hB.1.2⟩ hy ?_
    exact ih (k + 1) _ _ (fun j hj => by have := hl (j + 1) (by simp; omega); simpa [Nat.add_assoc, Nat.add_comm 1 j] using this) (by omega) (inv.set hr (by omega)) hB.2 hK
end
theorem region_tail {P : Program} {id : Nat} {Q : Exit → Act → World → Prop} {a : Act} {w : World} {l : List Oper} {ι : Type} (W : ι → World) (n : Nat) (hm : P.follows .mixedOrders = true) (hB : Region.lexTailB .any l.toArray n = true) (h0 : ∃ i, w.drew = W i)
    (h : wpQuiet P l.toArray (fun w' => ∃ i, w' = W i) (fun a' => ∀ w', (∃ i, w' = W i) → wpList P l.toArray Q (l.drop n) a' w') (l.take n) a) : (Code.region id l.toArray true).wp P Q a w := by
  simp only [Region.lexTailB, Bool.and_eq_true, decide_eq_true_eq] at hB
  obtain ⟨⟨⟨⟨hsel, hn⟩, hs⟩, hc⟩, hlex⟩ := hB
  have hn' : n < l.length := by simpa using hn
  have htl : (l.take n).length = n := by simp; omega
  have hdl : (l.drop n).length = l.toArray.size - n := by simp
  have inv0 : HeadInv .any l.toArray n (Array.replicate l.toArray.size false) :=
    ⟨by simp, fun j oj _ hl => (by rw [getD_replicate_false] at hl; cases hl), fun t _ ht => getD_in (by simpa using ht) (getD_replicate_false _ _)⟩
  have H := hd_lex (md := .any) (g := l.toArray.size - n) hsel hs hc hn (l.take n) 0 _ a (fun j hj => by rw [htl] at hj; simp [hj]) (by omega) inv0 (by rw [htl]; exact hlex) h
  refine wp_region_any hm ?_
  have H2 := hd_any (Q := Q) (g := l.toArray.size - n) (fun s a' w' hw' hL => by
    have := wpAny_of_seq (md := .any) (Q' := Q) (l.drop n) n s a' w' (fun j => by simp [List.getElem?_drop]) (by rw [hdl]; exact hL.1) (hL.2 w' hw')
    rwa [hdl] at this) _ _ _ _ h0 H
  have e : (l.take n).length + (l.toArray.size - n) = l.toArray.size := by simp; omega
  rw [e] at H2
  exact H2
theorem region_kept {P : Program} {id : Nat} {Q : Exit → Act → World → Prop} {a : Act} {w : World} {l : List Oper} {ι : Type} (W : ι → World) (hm : P.follows .mixedOrders = true) (hB : Region.lexB .any l.toArray = true) (h0 : ∃ i, w.drew = W i)
    (h : wpQuiet P l.toArray (fun w' => ∃ i, w' = W i) (fun a' => ∀ w', (∃ i, w' = W i) → Q .normal a' w') l a) : (Code.region id l.toArray true).wp P Q a w :=
  wp_region_quiet (C := fun w' => ∃ i, w' = W i) hm hB h0 (by simpa using h)
theorem kept_family (w : World) : ∃ (ι : Type) (K : ι → World), Nonempty ι ∧ (∀ i, Below w.heap.size w (K i)) ∧ ∀ w', Below w.heap.size w w' → ∃ i, w' = K i :=
  ⟨{ w' : World // Below w.heap.size w w' }, Subtype.val, ⟨⟨w, Below.refl _ _⟩⟩, fun i => i.2, fun w' h => ⟨⟨w', h⟩, rfl⟩⟩
theorem calls_kept {P : Program} {f : FuncId} {args : Array Value} {w : World} {ι : Type} {K : ι → World} (hb : ∀ i, Below w.heap.size w (K i)) (hs : ∀ w', Below w.heap.size w w' → ∃ i, w' = K i) {v : Value} {i : ι}
    (h : Calls P f args (K i) fun e w'' => e = .returned v ∧ Below (K i).heap.size (K i) w'') : Calls P f args (K i) fun e w'' => e = .returned v ∧ ∃ j, w'' = K j :=
  h.mono fun e w'' hh => ⟨hh.1, hs _ (bel_then (hb i) hh.2)⟩
end Go.Proofs.YtmgfpcblbbpahaaGreat

namespace Go.Proofs.YtmgfpcblbbpahaaGreat
open Go.RowKit Go.ChangeShapes Go.WideShapes Go.ChangeAt

theorem arg_row {P : Program} {W : World} {H : Type} {enc : TypeId × Value → H} {r : Reach} {b0 : Nat} {t e : TypeId} {k : IntKind} {v : Value} {d : DataW H} {ps : List MemPlace}
    (ht : P.underlying t = some (.slice e)) (he : P.underlying e = some (.int k)) (hc : P.cellsOf e = 1)
    (hval : Value.okWide P W r b0 t v) (h : DataW.Trod enc P W 0 (fun _ => true) true t v d ps) (hlt : ∀ x ∈ ps, x.block < W.heap.size) :
    ∃ zs : List Int, Row W v zs.length (zs.map (Value.int k)) ∧ ∀ n ∈ zs, (Lit.int k n).wf = true := by
  obtain ⟨a0, len, cap, rfl⟩ := okWide_slice ht hval
  obtain ⟨fuel, hf⟩ := h
  rcases open_ints ht he hc hf with ⟨hcs, hx⟩ | ⟨a, len', cap', zs, hcs, _, hl, hm, hz, hx, hcell, hwz⟩
  · simp [Value.cells] at hcs
    obtain ⟨rfl, rfl, rfl⟩ := hcs
    exact ⟨[], Row.nil W, by simp⟩
  · simp [Value.cells] at hcs
    obtain ⟨rfl, rfl, rfl⟩ := hcs
    simp only [Prod.mk.injEq] at hx
    obtain ⟨rfl, rfl⟩ := hx
    simp only [if_true] at hz
    have hlen : (zs.take len).length = len := by simp; omega
    refine ⟨zs.take len, ?_, fun n hn => hwz n (List.mem_of_mem_take hn)⟩
    rw [hlen]
    refine ⟨some a, cap, rfl, hl, hm, ?_⟩
    by_cases hl0 : len = 0
    · exact .inl ⟨hl0, fun h => by cases h⟩
    · obtain ⟨b, off, spot⟩ := a
      have hspot : spot = none := by simpa [Addr.add] using World.cell?_spot (hcell 0 (by omega))
      subst hspot
      have hbW : b < W.heap.size := hlt (.cell b off) (MemPlace.mem_row.2 ⟨0, by omega, by simp⟩)
      refine .inr ⟨b, off, rfl, hbW, fun j u hj => ?_⟩
      have hj2 : j < len := by
        have := (List.getElem?_eq_some_iff.1 hj).1
        simp at this; omega
      have h1 := hcell j (by omega)
      rw [add_plain] at h1
      rw [h1]
      rw [List.getElem?_map, List.getElem?_take, if_pos hj2, List.getElem?_eq_getElem (by omega)] at hj
      simp at hj
      rw [← hj, List.getD, List.getElem?_eq_getElem (by omega)]
      rfl
end Go.Proofs.YtmgfpcblbbpahaaGreat

namespace Go.Proofs.YtmgfpcblbbpahaaGreat
open Go.RowKit Go.ChangeShapes Go.WideShapes Go.ChangeAt Go.Deep Go.Joins

structure RowsI (w : World) (v : Value) (vs : List Value) (ls : List (List Int)) : Prop where
  len : vs.length = ls.length
  row : Row w v ls.length vs
  each : ∀ (i : Nat) (u : Value) (l : List Int), vs[i]? = some u → ls[i]? = some l → Row w u l.length (l.map (Value.int .i64))
theorem cell_ints {P : Program} {W : World} {H : Type} {enc : TypeId × Value → H} {t e : TypeId} {k : IntKind} {fuel : Nat} {v : Value} {x : DataW H × List MemPlace}
    (ht : P.underlying t = some (.slice e)) (he : P.underlying e = some (.int k)) (hc : P.cellsOf e = 1)
    (hf : DataW.trod enc P W 0 (fun _ => true) true fuel t [v] = some x) (hlt : ∀ y ∈ x.2, y.block < W.heap.size) :
    ∃ zs : List Int, Row W v zs.length (zs.map (Value.int k)) ∧ ∀ n ∈ zs, (Lit.int k n).wf = true := by
  rcases open_ints ht he hc hf with ⟨hcs, hx⟩ | ⟨a, len, cap, zs, hcs, _, hl, hm, hz, hx, hcell, hwz⟩
  · simp at hcs
    subst hcs
    exact ⟨[], Row.nil W, by simp⟩
  · simp at hcs
    subst hcs
    subst hx
    simp only [if_true] at hz
    have hlen : (zs.take len).length = len := by simp; omega
    refine ⟨zs.take len, ?_, fun n hn => hwz n (List.mem_of_mem_take hn)⟩
    rw [hlen]
    refine ⟨some a, cap, rfl, hl, hm, ?_⟩
    by_cases hl0 : len = 0
    · exact .inl ⟨hl0, fun h => by cases h⟩
    · obtain ⟨b, off, spot⟩ := a
      have hspot : spot = none := by simpa [Addr.add] using World.cell?_spot (hcell 0 (by omega))
      subst hspot
      have hbW : b < W.heap.size := hlt (.cell b off) (MemPlace.mem_row.2 ⟨0, by omega, by simp⟩)
      refine .inr ⟨b, off, rfl, hbW, fun j u hj => ?_⟩
      have hj2 : j < len := by
        have := (List.getElem?_eq_some_iff.1 hj).1
        simp at this; omega
      have h1 := hcell j (by omega)
      rw [WideShapes.add_plain] at h1
      rw [h1]
      rw [List.getElem?_map, List.getElem?_take, if_pos hj2, List.getElem?_eq_getElem (by omega)] at hj
      simp at hj
      rw [← hj, List.getD, List.getElem?_eq_getElem (by omega)]
      rfl
theorem arg_intss {P : Program} {W : World} {H : Type} {enc : TypeId × Value → H} {r : Reach} {b0 : Nat} {T t e : TypeId} {v : Value} {d : DataW H} {ps : List MemPlace}
    (hT : P.underlying T = some (.slice t)) (hCt : P.cellsOf t = 1) (ht : P.underlying t = some (.slice e)) (he : P.underlying e = some (.int .i64)) (hC : P.cellsOf e = 1)
    (hval : Value.okWide P W r b0 T v) (h : DataW.Trod enc P W 0 (fun _ => true) true T v d ps) (hlt : ∀ x ∈ ps, x.block < W.heap.size) :
    ∃ (vs : List Value) (ls : List (List Int)), RowsI W v vs ls ∧ ∀ l ∈ ls, ∀ n ∈ l, (Lit.int .i64 n).wf = true := by
  obtain ⟨a0, len, cap, rfl⟩ := okWide_slice hT hval
  obtain ⟨fuel, hf⟩ := h
  rcases open_slice hT hf with ⟨hcs, hx⟩ | ⟨a, len', cap', m, n, D, Pl, hcs, _, hl, hm, hmm, hx, hel⟩
  · simp [Value.cells] at hcs
    obtain ⟨rfl, rfl, rfl⟩ := hcs
    exact ⟨[], [], ⟨rfl, Row.nil W, fun i u l hu => by simp at hu⟩, by simp⟩
  · simp [Value.cells] at hcs
    obtain ⟨rfl, rfl, rfl⟩ := hcs
    simp only [Prod.mk.injEq] at hx
    obtain ⟨rfl, rfl⟩ := hx
    simp only [if_true] at hmm
    rw [hCt] at hel hlt
    obtain ⟨F, hF⟩ := choose_lt (α := Value × List Int) (n := len) (p := fun i p => W.cell? (a.add (i * 1)) = some p.1 ∧ Row W p.1 p.2.length (p.2.map (Value.int .i64)) ∧ ∀ q ∈ p.2, (Lit.int .i64 q).wf = true) (fun i hi => by
      obtain ⟨cs', h1, h2⟩ := hel i (by omega)
      obtain ⟨_, hlen, hc⟩ := World.cells?_some h1
      match cs', hlen with
      | [v0], _ =>
        obtain ⟨l, hr, hw⟩ := cell_ints ht he hC h2 (fun y hy => hlt y (List.mem_append.2 (.inr (List.mem_flatMap.2 ⟨i, by simp; omega, hy⟩))))
        refine ⟨(v0, l), ?_, hr, hw⟩
        have := hc 0 (by omega)
        have hz : (a.add (i * 1)).add 0 = a.add (i * 1) := by simp [Addr.add]
        rw [hz] at this; exact this)
    refine ⟨(List.range len).map fun i => (F i).1, (List.range len).map fun i => (F i).2, ⟨by simp, ?_, fun i u l hu hl' => ?_⟩, fun l hl p hp => ?_⟩
    · rw [show ((List.range len).map fun i => (F i).2).length = len by simp]
      refine ⟨some a, cap, rfl, hl, hm, ?_⟩
      by_cases hl0 : len = 0
      · exact .inl ⟨hl0, fun h => by cases h⟩
      · obtain ⟨b, off, spot⟩ := a
        have hspot : spot = none := by simpa [Addr.add] using World.cell?_spot (hF 0 (by omega)).1
        subst hspot
        have hbW : b < W.heap.size := hlt (.cell b off) (List.mem_append.2 (.inl (MemPlace.mem_row.2 ⟨0, by omega, by simp⟩)))
        refine .inr ⟨b, off, rfl, hbW, fun j u hj => ?_⟩
        have hj2 : j < len := by
          have := (List.getElem?_eq_some_iff.1 hj).1
          simpa using this
        have h1 := (hF j hj2).1
        rw [WideShapes.add_plain, Nat.mul_one] at h1
        rw [h1]
        simpa [hj2] using hj
    · have hi2 : i < len := by
        have := (List.getElem?_eq_some_iff.1 hu).1
        simpa using this
      simp [hi2] at hu hl'
      subst hu hl'
      exact (hF i hi2).2.1
    · obtain ⟨i, hi, rfl⟩ := List.mem_map.1 hl
      exact (hF i (by simpa using hi)).2.2 p hp
end Go.Proofs.YtmgfpcblbbpahaaGreat

namespace Go.Proofs.YtmgfpcblbbpahaaGreat
open Go.RowKit Ru

namespace PT
mutual
def vis : PT → Nat → Nat → Bool × Nat
  | .mk k ns es l, n, deep => if 60 < n + 1 ∨ 12 < deep then (false, n + 1) else visL l (n + 1) (deep + 1)
def visL : List PT → Nat → Nat → Bool × Nat
  | [], n, _ => (true, n)
  | e :: l, n, deep => if (vis e n deep).1 = true then visL l (vis e n deep).2 deep else (false, (vis e n deep).2)
end
theorem vis_eq (e : PT) (n deep : Nat) : vis e n deep = if 60 < n + 1 ∨ 12 < deep then (false, n + 1) else visL e.parts (n + 1) (deep + 1) := by cases e; rw [vis]; rfl
theorem visL_nil (n deep : Nat) : visL [] n deep = (true, n) := by rw [visL]
theorem visL_cons (e : PT) (l : List PT) (n deep : Nat) : visL (e :: l) n deep = if (vis e n deep).1 = true then visL l (vis e n deep).2 deep else (false, (vis e n deep).2) := by rw [visL]
end PT
end Go.Proofs.YtmgfpcblbbpahaaGreat

namespace Go.Proofs.YtmgfpcblbbpahaaGreat
open Go.RowKit Ru

namespace PT
mutual
def emp : PT → Bool
  | .mk k n e l => if k = 1 ∨ k = 4 ∨ k = 7 then true else if k = 5 then (decide (l.length = 2) && allE l) else if k = 6 then anyE l else false
def anyE : List PT → Bool
  | [] => false
  | e :: l => emp e || anyE l
def allE : List PT → Bool
  | [] => true
  | e :: l => emp e && allE l
end
theorem emp_eq (e : PT) : e.emp = if e.kind = 1 ∨ e.kind = 4 ∨ e.kind = 7 then true else if e.kind = 5 then (decide (e.parts.length = 2) && allE e.parts) else if e.kind = 6 then anyE e.parts else false := by cases e; rw [emp]; rfl
theorem anyE_iff (l : List PT) : anyE l = true ↔ ∃ (i : Nat) (e : PT), l[i]? = some e ∧ e.emp = true := by
  induction l with
  | nil => rw [anyE]; simp
  | cons a l ih =>
    rw [anyE, Bool.or_eq_true, ih]
    constructor
    · rintro (h | ⟨i, e, h1, h2⟩)
      · exact ⟨0, a, rfl, h⟩
      · exact ⟨i + 1, e, by simpa using h1, h2⟩
    · rintro ⟨i, e, h1, h2⟩
      cases i with
      | zero => simp at h1; subst h1; exact .inl h2
      | succ i => exact .inr ⟨i, e, by simpa using h1, h2⟩
end PT
end Go.Proofs.YtmgfpcblbbpahaaGreat

namespace Go.Proofs.YtmgfpcblbbpahaaGreat
open Go.RowKit Ru
namespace PT
mutual
def cnt : PT → Nat → Nat → Nat → Nat × Nat
  | .mk _ _ _ l, deep, n, d => cntL l (deep + 1) (n + 1) (max d deep)
def cntL : List PT → Nat → Nat → Nat → Nat × Nat
  | [], _, n, d => (n, d)
  | e :: l, deep, n, d => cntL l deep (cnt e deep n d).1 (cnt e deep n d).2
end
theorem size_sizes (e : PT) : e.size = sizes e.parts + 1 := by cases e; rw [size_mk]; rfl
end PT
structure Ch2 (w w' : World) (p q : Nat) : Prop where
  os : w'.os = w.os
  tape : w'.tape = w.tape
  output : w'.output = w.output
  size : w.heap.size ≤ w'.heap.size
  block : ∀ k, k < w.heap.size → k ≠ p → k ≠ q → w'.heap[k]? = w.heap[k]?
theorem Ch2.refl (w : World) (p q : Nat) : Ch2 w w p q := ⟨rfl, rfl, rfl, Nat.le_refl _, fun _ _ _ _ => rfl⟩
end Go.Proofs.YtmgfpcblbbpahaaGreat

namespace Go.Proofs.YtmgfpcblbbpahaaGreat
open Go.RowKit Ru

namespace PT
mutual
def remp : PT → Bool
  | .mk k _ _ l => if k = 1 ∨ k = 4 ∨ k = 7 then true else if k = 5 then (decide (l.length = 2) && allR l) else if k = 6 then (decide (l.length = 2) && anyR l) else false
def anyR : List PT → Bool
  | [] => false
  | e :: l => remp e || anyR l
def allR : List PT → Bool
  | [] => true
  | e :: l => remp e && allR l
end
end PT
namespace PT
mutual
def dep : PT → Nat
  | .mk _ _ _ l => deps l + 1
def deps : List PT → Nat
  | [] => 0
  | e :: l => max (dep e) (deps l)
end
theorem dep_eq (e : PT) : e.dep = deps e.parts + 1 := by cases e; rw [dep]; rfl
theorem deps_snoc : ∀ (l : List PT) (e : PT), deps (l ++ [e]) = max (deps l) e.dep := by
  intro l
  induction l with
  | nil => intro e; rw [List.nil_append, deps, deps]; simp [deps]
  | cons a l ih => intro e; rw [List.cons_append, deps, ih, deps]; omega
theorem sizes_snoc : ∀ (l : List PT) (e : PT), sizes (l ++ [e]) = sizes l + e.size := by
  intro l
  induction l with
  | nil => intro e; rw [List.nil_append, sizes_cons, sizes_nil]; omega
  | cons a l ih => intro e; rw [List.cons_append, sizes_cons, ih, sizes_cons]; omega
theorem sizes_take : ∀ (l : List PT) (k : Nat), sizes (l.take k) ≤ sizes l := by
  intro l
  induction l with
  | nil => intro k; simp
  | cons a l ih =>
    intro k
    cases k with
    | zero => rw [List.take_zero, sizes_nil]; omega
    | succ k => rw [List.take_succ_cons, sizes_cons, sizes_cons]; have := ih k; omega
theorem dep_le : ∀ (N : Nat) (e : PT), e.size ≤ N → e.dep ≤ e.size := by
  intro N
  induction N with
  | zero => intro e h; have := e.size_pos; omega
  | succ N ih =>
    have all : ∀ l : List PT, sizes l ≤ N → deps l ≤ sizes l := by
      intro l
      induction l with
      | nil => intro _; rw [deps]; omega
      | cons a l ihl => intro h; rw [sizes_cons] at h ⊢; rw [deps]; have := ih a (by omega); have := ihl (by omega); omega
    intro e h
    rw [size_sizes] at h ⊢
    rw [dep_eq]
    have := all e.parts (by omega)
    omega
theorem take_snoc {l : List PT} {k : Nat} {p : PT} (h : l[k]? = some p) : l.take (k + 1) = l.take k ++ [p] := by rw [List.take_add_one, h]; rfl
end PT
end Go.Proofs.YtmgfpcblbbpahaaGreat

namespace Go.Proofs.YtmgfpcblbbpahaaGreat
open Go.RowKit Ru
def PT.shp (e : PT) : Bool := if e.kind = 2 then (decide (0 < e.names.length) && decide (e.ends.length = 0) && decide (e.parts.length = 0)) else if e.kind = 3 then (decide (0 < e.names.length) && decide (0 < e.ends.length) && decide (e.parts.length = 1)) else if e.kind = 1 ∨ e.kind = 4 then (decide (e.names.length = 0) && decide (e.ends.length = 0) && decide (e.parts.length = 0)) else if e.kind = 5 ∨ e.kind = 6 then (decide (e.names.length = 0) && decide (e.ends.length = 0) && decide (e.parts.length = 2)) else if e.kind = 7 then (decide (e.names.length = 0) && decide (e.ends.length = 0) && decide (e.parts.length = 1)) else false
end Go.Proofs.YtmgfpcblbbpahaaGreat

namespace Go.Proofs.YtmgfpcblbbpahaaGreat
open Go.RowKit

end Go.Proofs.YtmgfpcblbbpahaaGreat

namespace Go.Proofs.YtmgfpcblbbpahaaGreat
open Go.RowKit Ru
end Go.Proofs.YtmgfpcblbbpahaaGreat

namespace Go.Proofs.YtmgfpcblbbpahaaGreat
open Go.RowKit Ru

end Go.Proofs.YtmgfpcblbbpahaaGreat

namespace Go.Proofs.YtmgfpcblbbpahaaGreat
open Go.RowKit Ru

def memS (l : List ByteArray) (s : ByteArray) : Bool := l.any fun x => decide (x = s)
end Go.Proofs.YtmgfpcblbbpahaaGreat

namespace Go.Proofs.YtmgfpcblbbpahaaGreat
open Go.RowKit Ru

def namesE (T : List TK) (kind : Int) : List ByteArray → List ByteArray → Option Int
  | _, [] => none
  | seen, x :: l => if findB T x < 0 ∨ memS seen x = true then some 4 else if (T[(findB T x).toNat]?.map (·.kind)) ≠ some kind then some 5 else namesE T kind (seen ++ [x]) l
end Go.Proofs.YtmgfpcblbbpahaaGreat

namespace Go.Proofs.YtmgfpcblbbpahaaGreat
open Go.RowKit Ru

end Go.Proofs.YtmgfpcblbbpahaaGreat

namespace Go.Proofs.YtmgfpcblbbpahaaGreat
open Go.RowKit Ru

def orE (a b : Option Int) : Option Int := match a with | some c => some c | none => b
def nodeE (T : List TK) (k : Int) (ns es : List ByteArray) : Option Int := if k = 2 then namesE T 0 [] ns else if k = 3 then orE (namesE T 1 [] ns) (namesE T 2 [] es) else none
mutual
def patE (T : List TK) : PT → Option Int
  | .mk k ns es l => if (PT.mk k ns es l).shp = false then some 5 else orE (nodeE T k ns es) (patEL T l)
def patEL (T : List TK) : List PT → Option Int
  | [] => none
  | p :: l => orE (patE T p) (patEL T l)
end
end Go.Proofs.YtmgfpcblbbpahaaGreat

namespace Go.Proofs.YtmgfpcblbbpahaaGreat
open Go.RowKit Go.ChangeShapes Go.WideShapes Go.ChangeAt Go.Deep Go.Joins

inductive RE.Raw : RE → Prop
  | mk (k : Int) (s : List (Int × Int)) (l : List RE) (hs : i32s s) (h : ∀ (i : Nat) (e : RE), l[i]? = some e → RE.Raw e) : RE.Raw (.mk k s l)
theorem RE.Raw.part {e p : RE} {i : Nat} (h : e.Raw) (hp : e.parts[i]? = some p) : p.Raw := by cases h with | mk k s l hs h => exact h i p hp
section
variable {H : Type} {enc : TypeId × Value → H} {W : World}
theorem fld {P : Program} {n o c : Nat} {t : TypeId} {cs : List Value} {r : Option (DataW H × List MemPlace)} (g : DataW.trod enc P W 0 (fun _ => true) true n t ((cs.drop o).take (P.cellsOf t)) = r) (hc : P.cellsOf t = c) : DataW.trod enc P W 0 (fun _ => true) true n t ((cs.drop o).take c) = r := by rw [hc] at g; exact g
end
end Go.Proofs.YtmgfpcblbbpahaaGreat

namespace Go.Proofs.YtmgfpcblbbpahaaGreat
open Go.RowKit Ru

theorem StsAre.form {w : World} {v : Value} {l : List ST} (h : StsAre w v l) : ∃ o c, v = .slice o l.length c := by
  obtain ⟨ps, h1, ⟨o, c, h2, _⟩, _⟩ := h; exact ⟨o, c, h2⟩
end Go.Proofs.YtmgfpcblbbpahaaGreat

namespace Go.Proofs.YtmgfpcblbbpahaaGreat
open Go.RowKit Ru

theorem RusAre.form {w : World} {v : Value} {l : List RU} (h : RusAre w v l) : ∃ o c, v = .slice o l.length c := by
  obtain ⟨ps, h1, ⟨o, c, h2, _⟩, _⟩ := h; exact ⟨o, c, h2⟩
end Go.Proofs.YtmgfpcblbbpahaaGreat

namespace Go.Proofs.YtmgfpcblbbpahaaGreat
open Go.RowKit Ru

namespace RE
theorem sizes_snoc : ∀ (l : List RE) (e : RE), sizes (l ++ [e]) = sizes l + e.size := by
  intro l
  induction l with
  | nil => intro e; rw [List.nil_append, sizes_cons, sizes_nil]; omega
  | cons a l ih => intro e; rw [List.cons_append, sizes_cons, ih, sizes_cons]; omega
theorem size_sizes (e : RE) : e.size = sizes e.parts + 1 := by cases e; rw [size_mk]; rfl
theorem take_snoc {l : List RE} {k : Nat} {p : RE} (h : l[k]? = some p) : l.take (k + 1) = l.take k ++ [p] := by rw [List.take_add_one, h]; rfl
end RE
end Go.Proofs.YtmgfpcblbbpahaaGreat
