/- Few: what gobolaw6.size and gobolaw11.patSize tell of trees. -/
import Derived.ChangeSlices
import Derived.WideShapes
import Derived.ProofKit
import Derived.OpenShut
import Derived.SizedLaws
import Derived.Laws.EntriesVeiled
import Derived.Deep.LoopGhost
import Derived.WalkSpells
import Derived.Deep.RegionHeld3
import Derived.Deep.DeepCutAuto
import Derived.Defers
import Derived.Recover
import Derived.Lib.OthersKept
import Derived.Laws.RangeAny
import Derived.Test.YtmgfpcblbbpahaaGreatGram
import Derived.Outline
import Derived.RegionTactic
import Derived.ChangeAlike
import Derived.BigRegion
import Derived.StillTail
import Derived.BigQuiet
set_option linter.unusedVariables false
set_option linter.unusedSimpArgs false
namespace Go.Proofs.YtmgfpcblbbpahaaGreat
open Go.RowKit Go.ChangeShapes Go.WideShapes Go.ChangeAt

theorem arg_row {P : Program} {W : World} {H : Type} {enc : TypeId × Value → H} {r : Reach} {b0 : Nat} {t e : TypeId} {k : IntKind} {v : Value} {d : DataW H} {ps : List MemPlace}
    (ht : P.underlying t = some (.slice e)) (he : P.underlying e = some (.int k)) (hc : P.cellsOf e = 1)
    (hval : Value.okWide P W r b0 t v) (h : DataW.Trod enc P W 0 (fun _ => true) true t v d ps) (hlt : ∀ x ∈ ps, x.block < W.heap.size) :
    ∃ zs : List Int, Row W v zs.length (zs.map (Value.int k)) ∧ ∀ n ∈ zs, (Lit.int k n).wf = true := by
  obtain ⟨a0, len, cap, rfl⟩ := okWide_slice ht hval
  obtain ⟨fuel, hf⟩ := h
  rcases open_ints ht he hc hf with ⟨hcs, hx⟩ | ⟨a, len', cap', zs, hcs, _, hl, hm, hz, hx, hcell, hwz⟩
  · simp [Value.cells] at hcs
    obtain ⟨rfl, rfl, rfl⟩ := hcs
    exact ⟨[], Row.nil W, by simp⟩
  · simp [Value.cells] at hcs
    obtain ⟨rfl, rfl, rfl⟩ := hcs
    simp only [Prod.mk.injEq] at hx
    obtain ⟨rfl, rfl⟩ := hx
    simp only [if_true] at hz
    have hlen : (zs.take len).length = len := by simp; omega
    refine ⟨zs.take len, ?_, fun n hn => hwz n (List.mem_of_mem_take hn)⟩
    rw [hlen]
    refine ⟨some a, cap, rfl, hl, hm, ?_⟩
    by_cases hl0 : len = 0
    · exact .inl ⟨hl0, fun h => by cases h⟩
    · obtain ⟨b, off, spot⟩ := a
      have hspot : spot = none := by simpa [Addr.add] using World.cell?_spot (hcell 0 (by omega))
      subst hspot
      have hbW : b < W.heap.size := hlt (.cell b off) (MemPlace.mem_row.2 ⟨0, by omega, by simp⟩)
      refine .inr ⟨b, off, rfl, hbW, fun j u hj => ?_⟩
      have hj2 : j < len := by
        have := (List.getElem?_eq_some_iff.1 hj).1
        simp at this; omega
      have h1 := hcell j (by omega)
      rw [add_plain] at h1
      rw [h1]
      rw [List.getElem?_map, List.getElem?_take, if_pos hj2, List.getElem?_eq_getElem (by omega)] at hj
      simp at hj
      rw [← hj, List.getD, List.getElem?_eq_getElem (by omega)]
      rfl
end Go.Proofs.YtmgfpcblbbpahaaGreat

namespace Go.Proofs.YtmgfpcblbbpahaaGreat
open Go.RowKit Go.ChangeShapes Go.WideShapes Go.ChangeAt Go.Deep Go.Joins

structure RowsI (w : World) (v : Value) (vs : List Value) (ls : List (List Int)) : Prop where
  len : vs.length = ls.length
  row : Row w v ls.length vs
  each : ∀ (i : Nat) (u : Value) (l : List Int), vs[i]? = some u → ls[i]? = some l → Row w u l.length (l.map (Value.int .i64))
theorem cell_ints {P : Program} {W : World} {H : Type} {enc : TypeId × Value → H} {t e : TypeId} {k : IntKind} {fuel : Nat} {v : Value} {x : DataW H × List MemPlace}
    (ht : P.underlying t = some (.slice e)) (he : P.underlying e = some (.int k)) (hc : P.cellsOf e = 1)
    (hf : DataW.trod enc P W 0 (fun _ => true) true fuel t [v] = some x) (hlt : ∀ y ∈ x.2, y.block < W.heap.size) :
    ∃ zs : List Int, Row W v zs.length (zs.map (Value.int k)) ∧ ∀ n ∈ zs, (Lit.int k n).wf = true := by
  rcases open_ints ht he hc hf with ⟨hcs, hx⟩ | ⟨a, len, cap, zs, hcs, _, hl, hm, hz, hx, hcell, hwz⟩
  · simp at hcs
    subst hcs
    exact ⟨[], Row.nil W, by simp⟩
  · simp at hcs
    subst hcs
    subst hx
    simp only [if_true] at hz
    have hlen : (zs.take len).length = len := by simp; omega
    refine ⟨zs.take len, ?_, fun n hn => hwz n (List.mem_of_mem_take hn)⟩
    rw [hlen]
    refine ⟨some a, cap, rfl, hl, hm, ?_⟩
    by_cases hl0 : len = 0
    · exact .inl ⟨hl0, fun h => by cases h⟩
    · obtain ⟨b, off, spot⟩ := a
      have hspot : spot = none := by simpa [Addr.add] using World.cell?_spot (hcell 0 (by omega))
      subst hspot
      have hbW : b < W.heap.size := hlt (.cell b off) (MemPlace.mem_row.2 ⟨0, by omega, by simp⟩)
      refine .inr ⟨b, off, rfl, hbW, fun j u hj => ?_⟩
      have hj2 : j < len := by
        have := (List.getElem?_eq_some_iff.1 hj).1
        simp at this; omega
      have h1 := hcell j (by omega)
      rw [WideShapes.add_plain] at h1
      rw [h1]
      rw [List.getElem?_map, List.getElem?_take, if_pos hj2, List.getElem?_eq_getElem (by omega)] at hj
      simp at hj
      rw [← hj, List.getD, List.getElem?_eq_getElem (by omega)]
      rfl
theorem arg_intss {P : Program} {W : World} {H : Type} {enc : TypeId × Value → H} {r : Reach} {b0 : Nat} {T t e : TypeId} {v : Value} {d : DataW H} {ps : List MemPlace}
    (hT : P.underlying T = some (.slice t)) (hCt : P.cellsOf t = 1) (ht : P.underlying t = some (.slice e)) (he : P.underlying e = some (.int .i64)) (hC : P.cellsOf e = 1)
    (hval : Value.okWide P W r b0 T v) (h : DataW.Trod enc P W 0 (fun _ => true) true T v d ps) (hlt : ∀ x ∈ ps, x.block < W.heap.size) :
    ∃ (vs : List Value) (ls : List (List Int)), RowsI W v vs ls ∧ ∀ l ∈ ls, ∀ n ∈ l, (Lit.int .i64 n).wf = true := by
  obtain ⟨a0, len, cap, rfl⟩ := okWide_slice hT hval
  obtain ⟨fuel, hf⟩ := h
  rcases open_slice hT hf with ⟨hcs, hx⟩ | ⟨a, len', cap', m, n, D, Pl, hcs, _, hl, hm, hmm, hx, hel⟩
  · simp [Value.cells] at hcs
    obtain ⟨rfl, rfl, rfl⟩ := hcs
    exact ⟨[], [], ⟨rfl, Row.nil W, fun i u l hu => by simp at hu⟩, by simp⟩
  · simp [Value.cells] at hcs
    obtain ⟨rfl, rfl, rfl⟩ := hcs
    simp only [Prod.mk.injEq] at hx
    obtain ⟨rfl, rfl⟩ := hx
    simp only [if_true] at hmm
    rw [hCt] at hel hlt
    obtain ⟨F, hF⟩ := choose_lt (α := Value × List Int) (n := len) (p := fun i p => W.cell? (a.add (i * 1)) = some p.1 ∧ Row W p.1 p.2.length (p.2.map (Value.int .i64)) ∧ ∀ q ∈ p.2, (Lit.int .i64 q).wf = true) (fun i hi => by
      obtain ⟨cs', h1, h2⟩ := hel i (by omega)
      obtain ⟨_, hlen, hc⟩ := World.cells?_some h1
      match cs', hlen with
      | [v0], _ =>
        obtain ⟨l, hr, hw⟩ := cell_ints ht he hC h2 (fun y hy => hlt y (List.mem_append.2 (.inr (List.mem_flatMap.2 ⟨i, by simp; omega, hy⟩))))
        refine ⟨(v0, l), ?_, hr, hw⟩
        have := hc 0 (by omega)
        have hz : (a.add (i * 1)).add 0 = a.add (i * 1) := by simp [Addr.add]
        rw [hz] at this; exact this)
    refine ⟨(List.range len).map fun i => (F i).1, (List.range len).map fun i => (F i).2, ⟨by simp, ?_, fun i u l hu hl' => ?_⟩, fun l hl p hp => ?_⟩
    · rw [show ((List.range len).map fun i => (F i).2).length = len by simp]
      refine ⟨some a, cap, rfl, hl, hm, ?_⟩
      by_cases hl0 : len = 0
      · exact .inl ⟨hl0, fun h => by cases h⟩
      · obtain ⟨b, off, spot⟩ := a
        have hspot : spot = none := by simpa [Addr.add] using World.cell?_spot (hF 0 (by omega)).1
        subst hspot
        have hbW : b < W.heap.size := hlt (.cell b off) (List.mem_append.2 (.inl (MemPlace.mem_row.2 ⟨0, by omega, by simp⟩)))
        refine .inr ⟨b, off, rfl, hbW, fun j u hj => ?_⟩
        have hj2 : j < len := by
          have := (List.getElem?_eq_some_iff.1 hj).1
          simpa using this
        have h1 := (hF j hj2).1
        rw [WideShapes.add_plain, Nat.mul_one] at h1
        rw [h1]
        simpa [hj2] using hj
    · have hi2 : i < len := by
        have := (List.getElem?_eq_some_iff.1 hu).1
        simpa using this
      simp [hi2] at hu hl'
      subst hu hl'
      exact (hF i hi2).2.1
    · obtain ⟨i, hi, rfl⟩ := List.mem_map.1 hl
      exact (hF i (by simpa using hi)).2.2 p hp
end Go.Proofs.YtmgfpcblbbpahaaGreat

namespace Go.Proofs.YtmgfpcblbbpahaaGreat
open Go.RowKit Ru

namespace PT
mutual
def vis : PT → Nat → Nat → Bool × Nat
  | .mk k ns es l, n, deep => if 60 < n + 1 ∨ 12 < deep then (false, n + 1) else visL l (n + 1) (deep + 1)
def visL : List PT → Nat → Nat → Bool × Nat
  | [], n, _ => (true, n)
  | e :: l, n, deep => if (vis e n deep).1 = true then visL l (vis e n deep).2 deep else (false, (vis e n deep).2)
end
theorem vis_eq (e : PT) (n deep : Nat) : vis e n deep = if 60 < n + 1 ∨ 12 < deep then (false, n + 1) else visL e.parts (n + 1) (deep + 1) := by cases e; rw [vis]; rfl
theorem visL_nil (n deep : Nat) : visL [] n deep = (true, n) := by rw [visL]
theorem visL_cons (e : PT) (l : List PT) (n deep : Nat) : visL (e :: l) n deep = if (vis e n deep).1 = true then visL l (vis e n deep).2 deep else (false, (vis e n deep).2) := by rw [visL]
end PT
end Go.Proofs.YtmgfpcblbbpahaaGreat

namespace Go.Proofs.YtmgfpcblbbpahaaGreat
open Go.RowKit Ru

namespace PT
mutual
def emp : PT → Bool
  | .mk k n e l => if k = 1 ∨ k = 4 ∨ k = 7 then true else if k = 5 then (decide (l.length = 2) && allE l) else if k = 6 then anyE l else false
def anyE : List PT → Bool
  | [] => false
  | e :: l => emp e || anyE l
def allE : List PT → Bool
  | [] => true
  | e :: l => emp e && allE l
end
end PT
end Go.Proofs.YtmgfpcblbbpahaaGreat

namespace Go.Proofs.YtmgfpcblbbpahaaGreat
open Go.RowKit Ru
namespace PT
mutual
def cnt : PT → Nat → Nat → Nat → Nat × Nat
  | .mk _ _ _ l, deep, n, d => cntL l (deep + 1) (n + 1) (max d deep)
def cntL : List PT → Nat → Nat → Nat → Nat × Nat
  | [], _, n, d => (n, d)
  | e :: l, deep, n, d => cntL l deep (cnt e deep n d).1 (cnt e deep n d).2
end
theorem size_sizes (e : PT) : e.size = sizes e.parts + 1 := by cases e; rw [size_mk]; rfl
end PT
structure Ch2 (w w' : World) (p q : Nat) : Prop where
  os : w'.os = w.os
  tape : w'.tape = w.tape
  output : w'.output = w.output
  size : w.heap.size ≤ w'.heap.size
  block : ∀ k, k < w.heap.size → k ≠ p → k ≠ q → w'.heap[k]? = w.heap[k]?
theorem Ch2.refl (w : World) (p q : Nat) : Ch2 w w p q := ⟨rfl, rfl, rfl, Nat.le_refl _, fun _ _ _ _ => rfl⟩
end Go.Proofs.YtmgfpcblbbpahaaGreat

namespace Go.Proofs.YtmgfpcblbbpahaaGreat
open Go.RowKit Ru

namespace PT
mutual
def remp : PT → Bool
  | .mk k _ _ l => if k = 1 ∨ k = 4 ∨ k = 7 then true else if k = 5 then (decide (l.length = 2) && allR l) else if k = 6 then (decide (l.length = 2) && anyR l) else false
def anyR : List PT → Bool
  | [] => false
  | e :: l => remp e || anyR l
def allR : List PT → Bool
  | [] => true
  | e :: l => remp e && allR l
end
end PT
namespace PT
mutual
def dep : PT → Nat
  | .mk _ _ _ l => deps l + 1
def deps : List PT → Nat
  | [] => 0
  | e :: l => max (dep e) (deps l)
end
theorem dep_eq (e : PT) : e.dep = deps e.parts + 1 := by cases e; rw [dep]; rfl
theorem deps_snoc : ∀ (l : List PT) (e : PT), deps (l ++ [e]) = max (deps l) e.dep := by
  intro l
  induction l with
  | nil => intro e; rw [List.nil_append, deps, deps]; simp [deps]
  | cons a l ih => intro e; rw [List.cons_append, deps, ih, deps]; omega
theorem sizes_snoc : ∀ (l : List PT) (e : PT), sizes (l ++ [e]) = sizes l + e.size := by
  intro l
  induction l with
  | nil => intro e; rw [List.nil_append, sizes_cons, sizes_nil]; omega
  | cons a l ih => intro e; rw [List.cons_append, sizes_cons, ih, sizes_cons]; omega
theorem sizes_take : ∀ (l : List PT) (k : Nat), sizes (l.take k) ≤ sizes l := by
  intro l
  induction l with
  | nil => intro k; simp
  | cons a l ih =>
    intro k
    cases k with
    | zero => rw [List.take_zero, sizes_nil]; omega
    | succ k => rw [List.take_succ_cons, sizes_cons, sizes_cons]; have := ih k; omega
theorem dep_le : ∀ (N : Nat) (e : PT), e.size ≤ N → e.dep ≤ e.size := by
  intro N
  induction N with
  | zero => intro e h; have := e.size_pos; omega
  | succ N ih =>
    have all : ∀ l : List PT, sizes l ≤ N → deps l ≤ sizes l := by
      intro l
      induction l with
      | nil => intro _; rw [deps]; omega
      | cons a l ihl => intro h; rw [sizes_cons] at h ⊢; rw [deps]; have := ih a (by omega); have := ihl (by omega); omega
    intro e h
    rw [size_sizes] at h ⊢
    rw [dep_eq]
    have := all e.parts (by omega)
    omega
theorem take_snoc {l : List PT} {k : Nat} {p : PT} (h : l[k]? = some p) : l.take (k + 1) = l.take k ++ [p] := by rw [List.take_add_one, h]; rfl
end PT
end Go.Proofs.YtmgfpcblbbpahaaGreat

namespace Go.Proofs.YtmgfpcblbbpahaaGreat
open Go.RowKit Ru
def PT.shp (e : PT) : Bool := if e.kind = 2 then (decide (0 < e.names.length) && decide (e.ends.length = 0) && decide (e.parts.length = 0)) else if e.kind = 3 then (decide (0 < e.names.length) && decide (0 < e.ends.length) && decide (e.parts.length = 1)) else if e.kind = 1 ∨ e.kind = 4 then (decide (e.names.length = 0) && decide (e.ends.length = 0) && decide (e.parts.length = 0)) else if e.kind = 5 ∨ e.kind = 6 then (decide (e.names.length = 0) && decide (e.ends.length = 0) && decide (e.parts.length = 2)) else if e.kind = 7 then (decide (e.names.length = 0) && decide (e.ends.length = 0) && decide (e.parts.length = 1)) else false
end Go.Proofs.YtmgfpcblbbpahaaGreat

namespace Go.Proofs.YtmgfpcblbbpahaaGreat
open Go.RowKit

end Go.Proofs.YtmgfpcblbbpahaaGreat

namespace Go.Proofs.YtmgfpcblbbpahaaGreat
open Go.RowKit Ru
end Go.Proofs.YtmgfpcblbbpahaaGreat

namespace Go.Proofs.YtmgfpcblbbpahaaGreat
open Go.RowKit Ru

end Go.Proofs.YtmgfpcblbbpahaaGreat

namespace Go.Proofs.YtmgfpcblbbpahaaGreat
open Go.RowKit Ru

def memS (l : List ByteArray) (s : ByteArray) : Bool := l.any fun x => decide (x = s)
end Go.Proofs.YtmgfpcblbbpahaaGreat

namespace Go.Proofs.YtmgfpcblbbpahaaGreat
open Go Go.RowKit

section
variable {P : Program} {ops : Array Oper} {md : Region.Mode} {C : World → Prop}
def Hd (P : Program) (md : Region.Mode) (ops : Array Oper) (C : World → Prop) (n : Nat) (L : Array Bool → Act → Prop) : Nat → Array Bool → Act → Prop
  | 0, s, a => L s a
  | f + 1, s, a => Region.ready md ops s ≠ [] ∧ ∀ i ∈ Region.ready md ops s, i < n ∧ qOp P ops C i (Hd P md ops C n L f (s.setIfInBounds i true)) a
end
end Go.Proofs.YtmgfpcblbbpahaaGreat

namespace Go.Proofs.YtmgfpcblbbpahaaGreat
open Go.RowKit Ru

def namesE (T : List TK) (kind : Int) : List ByteArray → List ByteArray → Option Int
  | _, [] => none
  | seen, x :: l => if findB T x < 0 ∨ memS seen x = true then some 4 else if (T[(findB T x).toNat]?.map (·.kind)) ≠ some kind then some 5 else namesE T kind (seen ++ [x]) l
end Go.Proofs.YtmgfpcblbbpahaaGreat

namespace Go.Proofs.YtmgfpcblbbpahaaGreat
open Go.RowKit Ru

end Go.Proofs.YtmgfpcblbbpahaaGreat

namespace Go.Proofs.YtmgfpcblbbpahaaGreat
open Go.RowKit Ru

def orE (a b : Option Int) : Option Int := match a with | some c => some c | none => b
def nodeE (T : List TK) (k : Int) (ns es : List ByteArray) : Option Int := if k = 2 then namesE T 0 [] ns else if k = 3 then orE (namesE T 1 [] ns) (namesE T 2 [] es) else none
mutual
def patE (T : List TK) : PT → Option Int
  | .mk k ns es l => if (PT.mk k ns es l).shp = false then some 5 else orE (nodeE T k ns es) (patEL T l)
def patEL (T : List TK) : List PT → Option Int
  | [] => none
  | p :: l => orE (patE T p) (patEL T l)
end
end Go.Proofs.YtmgfpcblbbpahaaGreat

namespace Go.Proofs.YtmgfpcblbbpahaaGreat
open Go.RowKit Go.ChangeShapes Go.WideShapes Go.ChangeAt Go.Deep Go.Joins

inductive RE.Raw : RE → Prop
  | mk (k : Int) (s : List (Int × Int)) (l : List RE) (hs : i32s s) (h : ∀ (i : Nat) (e : RE), l[i]? = some e → RE.Raw e) : RE.Raw (.mk k s l)
theorem RE.Raw.part {e p : RE} {i : Nat} (h : e.Raw) (hp : e.parts[i]? = some p) : p.Raw := by cases h with | mk k s l hs h => exact h i p hp
section
variable {H : Type} {enc : TypeId × Value → H} {W : World}
theorem fld {P : Program} {n o c : Nat} {t : TypeId} {cs : List Value} {r : Option (DataW H × List MemPlace)} (g : DataW.trod enc P W 0 (fun _ => true) true n t ((cs.drop o).take (P.cellsOf t)) = r) (hc : P.cellsOf t = c) : DataW.trod enc P W 0 (fun _ => true) true n t ((cs.drop o).take c) = r := by rw [hc] at g; exact g
end
end Go.Proofs.YtmgfpcblbbpahaaGreat

namespace Go.Proofs.YtmgfpcblbbpahaaGreat
open Go.RowKit Ru

theorem StsAre.form {w : World} {v : Value} {l : List ST} (h : StsAre w v l) : ∃ o c, v = .slice o l.length c := by
  obtain ⟨ps, h1, ⟨o, c, h2, _⟩, _⟩ := h; exact ⟨o, c, h2⟩
end Go.Proofs.YtmgfpcblbbpahaaGreat

namespace Go.Proofs.YtmgfpcblbbpahaaGreat
open Go.RowKit Ru

theorem RusAre.form {w : World} {v : Value} {l : List RU} (h : RusAre w v l) : ∃ o c, v = .slice o l.length c := by
  obtain ⟨ps, h1, ⟨o, c, h2, _⟩, _⟩ := h; exact ⟨o, c, h2⟩
end Go.Proofs.YtmgfpcblbbpahaaGreat

namespace Go.Proofs.YtmgfpcblbbpahaaGreat
open Go.RowKit Ru

namespace RE
theorem sizes_snoc : ∀ (l : List RE) (e : RE), sizes (l ++ [e]) = sizes l + e.size := by
  intro l
  induction l with
  | nil => intro e; rw [List.nil_append, sizes_cons, sizes_nil]; omega
  | cons a l ih => intro e; rw [List.cons_append, sizes_cons, ih, sizes_cons]; omega
theorem size_sizes (e : RE) : e.size = sizes e.parts + 1 := by cases e; rw [size_mk]; rfl
theorem take_snoc {l : List RE} {k : Nat} {p : RE} (h : l[k]? = some p) : l.take (k + 1) = l.take k ++ [p] := by rw [List.take_add_one, h]; rfl
end RE
end Go.Proofs.YtmgfpcblbbpahaaGreat
