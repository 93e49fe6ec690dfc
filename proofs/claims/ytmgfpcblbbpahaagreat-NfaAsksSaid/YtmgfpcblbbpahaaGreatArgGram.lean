/- Arguments that are grammars: expressions, patterns, tokens, steps, rules, out of what is read. -/
import Derived.Test.YtmgfpcblbbpahaaGreatReMark
import Derived.Laws.EntriesVeiled
import Derived.ChangeSlices
import Derived.WideShapes
import Derived.ProofKit
import Derived.OpenShut
import Derived.SizedLaws
set_option linter.unusedVariables false
set_option linter.unusedSimpArgs false
namespace Go.Proofs.YtmgfpcblbbpahaaGreat
open Go.RowKit Ru

namespace RE
mutual
def same : RE → RE → Bool
  | .mk k s l, f => decide (k = f.kind) && (decide (s = f.set) && (decide (l.length = f.parts.length) && sameL l f.parts))
def sameL : List RE → List RE → Bool
  | [], _ => true
  | a :: l, m => match m with
    | [] => true
    | b :: m => same a b && sameL l m
end
end RE
end Go.Proofs.YtmgfpcblbbpahaaGreat

namespace Go.Proofs.YtmgfpcblbbpahaaGreat
open Go.RowKit Ru

inductive PT where
  | mk (k : Int) (ns es : List ByteArray) (l : List PT)
namespace PT
def kind : PT → Int | mk k _ _ _ => k
def names : PT → List ByteArray | mk _ n _ _ => n
def ends : PT → List ByteArray | mk _ _ e _ => e
def parts : PT → List PT | mk _ _ _ l => l
mutual
def size : PT → Nat
  | mk _ _ _ l => sizes l + 1
def sizes : List PT → Nat
  | [] => 0
  | e :: l => size e + sizes l
end
theorem size_mk (k : Int) (n e : List ByteArray) (l : List PT) : (mk k n e l).size = sizes l + 1 := by rw [size]
theorem sizes_nil : sizes [] = 0 := by rw [sizes]
theorem sizes_cons (e : PT) (l : List PT) : sizes (e :: l) = e.size + sizes l := by rw [sizes]
theorem size_pos (e : PT) : 1 ≤ e.size := by cases e; rw [size_mk]; omega
theorem size_get : ∀ (l : List PT) (i : Nat) (e : PT), l[i]? = some e → e.size ≤ sizes l := by
  intro l
  induction l with
  | nil => intro i e h; simp at h
  | cons a l ih =>
    intro i e h
    rw [sizes_cons]
    cases i with
    | zero => simp at h; subst h; omega
    | succ i => have := ih i e (by simpa using h); omega
theorem size_part {e p : PT} {i : Nat} (h : e.parts[i]? = some p) : p.size < e.size := by
  cases e with
  | mk k n s l => rw [size_mk]; have := size_get l i p h; omega
inductive Fit : PT → Prop
  | mk (k : Int) (n e : List ByteArray) (l : List PT) (hn : n.length ≤ 1000) (he : e.length ≤ 1000) (hl : l.length ≤ 1000) (h : ∀ (i : Nat) (p : PT), l[i]? = some p → Fit p) : Fit (.mk k n e l)
theorem Fit.part {e p : PT} {i : Nat} (h : Fit e) (hp : e.parts[i]? = some p) : Fit p := by cases h with | mk k n s l hn he hl h => exact h i p hp
end PT
def strs (l : List ByteArray) : List Value := l.map Value.string
def quad (l : List (Int × Value × Value × Value)) : List Value := l.flatMap fun p => [.int .i64 p.1, p.2.1, p.2.2.1, p.2.2.2]
inductive PtIs (w : World) : PT → Value → Value → Value → Prop
  | mk (k : Int) (n e : List ByteArray) (l : List PT) (nv ev lv : Value) (ps : List (Int × Value × Value × Value)) (hns : Row w nv n.length (strs n)) (hes : Row w ev e.length (strs e)) (hl : Row w lv l.length (quad ps)) (hn : ps.length = l.length)
      (hk : ∀ (i : Nat) (c : PT) (p : Int × Value × Value × Value), l[i]? = some c → ps[i]? = some p → c.kind = p.1) (ih : ∀ (i : Nat) (c : PT) (p : Int × Value × Value × Value), l[i]? = some c → ps[i]? = some p → PtIs w c p.2.1 p.2.2.1 p.2.2.2) : PtIs w (.mk k n e l) nv ev lv
theorem PtIs.names {w : World} {e : PT} {nv ev lv : Value} (h : PtIs w e nv ev lv) : Row w nv e.names.length (strs e.names) := by cases h; assumption
theorem PtIs.ends {w : World} {e : PT} {nv ev lv : Value} (h : PtIs w e nv ev lv) : Row w ev e.ends.length (strs e.ends) := by cases h; assumption
theorem PtIs.form {w : World} {e : PT} {nv ev lv : Value} (h : PtIs w e nv ev lv) : (∃ o c, nv = .slice o e.names.length c) ∧ (∃ o c, ev = .slice o e.ends.length c) ∧ (∃ o c, lv = .slice o e.parts.length c) := by
  cases h with
  | mk k n s l nv ev lv ps hns hes hl hn hk ih =>
    obtain ⟨o, c, rfl, _⟩ := hns
    obtain ⟨o', c', rfl, _⟩ := hes
    obtain ⟨o'', c'', rfl, _⟩ := hl
    exact ⟨⟨o, c, rfl⟩, ⟨o', c', rfl⟩, ⟨o'', c'', rfl⟩⟩
end Go.Proofs.YtmgfpcblbbpahaaGreat

namespace Go.Proofs.YtmgfpcblbbpahaaGreat
open Go.RowKit Ru

namespace PT
mutual
def same : PT → PT → Bool
  | .mk k n e l, f => decide (k = f.kind) && (decide (n = f.names) && (decide (e = f.ends) && (decide (l.length = f.parts.length) && sameL l f.parts)))
def sameL : List PT → List PT → Bool
  | [], _ => true
  | a :: l, m => match m with
    | [] => true
    | b :: m => same a b && sameL l m
end
end PT
end Go.Proofs.YtmgfpcblbbpahaaGreat

namespace Go.Proofs.YtmgfpcblbbpahaaGreat
open Go.RowKit Ru

structure TK where
  name : ByteArray
  kind : Int
  cls : Int
  re : RE
structure ST where
  calls : List ByteArray
  p : PT
structure RU where
  cls : Int
  free : Bool
  steps : List ST
def five (p : ST × Value × Value × Value × Value) : List Value := [p.2.1, .int .i64 p.1.p.kind, p.2.2.1, p.2.2.2.1, p.2.2.2.2]
def three (p : RU × Value) : List Value := [.int .i64 p.1.cls, .bool p.1.free, p.2]
def StsAre (w : World) (v : Value) (l : List ST) : Prop := ∃ ps : List (ST × Value × Value × Value × Value), ps.map (·.1) = l ∧ Row w v l.length (ps.flatMap five) ∧
  ∀ (i : Nat) (p : ST × Value × Value × Value × Value), ps[i]? = some p → Row w p.2.1 p.1.calls.length (strs p.1.calls) ∧ PtIs w p.1.p p.2.2.1 p.2.2.2.1 p.2.2.2.2
def RusAre (w : World) (v : Value) (l : List RU) : Prop := ∃ ps : List (RU × Value), ps.map (·.1) = l ∧ Row w v l.length (ps.flatMap three) ∧ ∀ (i : Nat) (p : RU × Value), ps[i]? = some p → StsAre w p.2 p.1.steps
def findB (l : List TK) (s : ByteArray) : Int := match l.findIdx? (fun t => decide (t.name = s)) with | some i => i | none => -1
end Go.Proofs.YtmgfpcblbbpahaaGreat

namespace Go.Proofs.YtmgfpcblbbpahaaGreat
open Go.RowKit Go.ChangeShapes Go.WideShapes Go.ChangeAt

theorem arg_row {P : Program} {W : World} {H : Type} {enc : TypeId × Value → H} {r : Reach} {b0 : Nat} {t e : TypeId} {k : IntKind} {v : Value} {d : DataW H} {ps : List MemPlace}
    (ht : P.underlying t = some (.slice e)) (he : P.underlying e = some (.int k)) (hc : P.cellsOf e = 1)
    (hval : Value.okWide P W r b0 t v) (h : DataW.Trod enc P W 0 (fun _ => true) true t v d ps) (hlt : ∀ x ∈ ps, x.block < W.heap.size) :
    ∃ zs : List Int, Row W v zs.length (zs.map (Value.int k)) ∧ ∀ n ∈ zs, (Lit.int k n).wf = true := by
  obtain ⟨a0, len, cap, rfl⟩ := okWide_slice ht hval
  obtain ⟨fuel, hf⟩ := h
  rcases open_ints ht he hc hf with ⟨hcs, hx⟩ | ⟨a, len', cap', zs, hcs, _, hl, hm, hz, hx, hcell, hwz⟩
  · simp [Value.cells] at hcs
    obtain ⟨rfl, rfl, rfl⟩ := hcs
    exact ⟨[], Row.nil W, by simp⟩
  · simp [Value.cells] at hcs
    obtain ⟨rfl, rfl, rfl⟩ := hcs
    simp only [Prod.mk.injEq] at hx
    obtain ⟨rfl, rfl⟩ := hx
    simp only [if_true] at hz
    have hlen : (zs.take len).length = len := by simp; omega
    refine ⟨zs.take len, ?_, fun n hn => hwz n (List.mem_of_mem_take hn)⟩
    rw [hlen]
    refine ⟨some a, cap, rfl, hl, hm, ?_⟩
    by_cases hl0 : len = 0
    · exact .inl ⟨hl0, fun h => by cases h⟩
    · obtain ⟨b, off, spot⟩ := a
      have hspot : spot = none := by simpa [Addr.add] using World.cell?_spot (hcell 0 (by omega))
      subst hspot
      have hbW : b < W.heap.size := hlt (.cell b off) (MemPlace.mem_row.2 ⟨0, by omega, by simp⟩)
      refine .inr ⟨b, off, rfl, hbW, fun j u hj => ?_⟩
      have hj2 : j < len := by
        have := (List.getElem?_eq_some_iff.1 hj).1
        simp at this; omega
      have h1 := hcell j (by omega)
      rw [add_plain] at h1
      rw [h1]
      rw [List.getElem?_map, List.getElem?_take, if_pos hj2, List.getElem?_eq_getElem (by omega)] at hj
      simp at hj
      rw [← hj, List.getD, List.getElem?_eq_getElem (by omega)]
      rfl
end Go.Proofs.YtmgfpcblbbpahaaGreat

namespace Go.Proofs.YtmgfpcblbbpahaaGreat
open Go.RowKit Go.ChangeShapes Go.WideShapes Go.ChangeAt Go.Deep Go.Joins

end Go.Proofs.YtmgfpcblbbpahaaGreat

namespace Go.Proofs.YtmgfpcblbbpahaaGreat
open Go.RowKit Go.ChangeShapes Go.WideShapes Go.ChangeAt Go.Deep Go.Joins

inductive RE.Raw : RE → Prop
  | mk (k : Int) (s : List (Int × Int)) (l : List RE) (hs : i32s s) (h : ∀ (i : Nat) (e : RE), l[i]? = some e → RE.Raw e) : RE.Raw (.mk k s l)
theorem RE.Raw.sets {e : RE} (h : e.Raw) : i32s e.set := by cases h; assumption
theorem RE.Raw.part {e p : RE} {i : Nat} (h : e.Raw) (hp : e.parts[i]? = some p) : p.Raw := by cases h with | mk k s l hs h => exact h i p hp
theorem len2 {α : Type} {l : List α} (h : l.length = 2) : ∃ a b, l = [a, b] := by
  match l, h with
  | [a, b], _ => exact ⟨a, b, rfl⟩
theorem len3 {α : Type} {l : List α} (h : l.length = 3) : ∃ a b c, l = [a, b, c] := by
  match l, h with
  | [a, b, c], _ => exact ⟨a, b, c, rfl⟩
theorem fm_inv {α : Type} (f : α → List Value) (W : Nat) : ∀ (l : List α) (j : Nat) (u : Value), (∀ a ∈ l, (f a).length = W) → (l.flatMap f)[j]? = some u → ∃ i a r, l[i]? = some a ∧ j = i * W + r ∧ r < W ∧ (f a)[r]? = some u := by
  intro l
  induction l with
  | nil => intro j u _ h; simp at h
  | cons x l ih =>
    intro j u hW h
    have hx := hW x (by simp)
    rw [List.flatMap_cons] at h
    rcases Nat.lt_or_ge j W with hj | hj
    · rw [List.getElem?_append_left (by omega)] at h
      exact ⟨0, x, j, rfl, by omega, hj, h⟩
    · rw [List.getElem?_append_right (by omega), hx] at h
      obtain ⟨i, a, r, h1, h2, h3, h4⟩ := ih (j - W) u (fun a ha => hW a (by simp [ha])) h
      exact ⟨i + 1, a, r, by simpa using h1, by rw [Nat.succ_mul]; omega, h3, h4⟩
theorem flat_eq {α : Type} {f : α → List Value} : ∀ (ps : List (List Value × α)), (∀ p ∈ ps, p.1 = f p.2) → ps.flatMap (·.1) = (ps.map (·.2)).flatMap f := by
  intro ps
  induction ps with
  | nil => intro _; rfl
  | cons p ps ih => intro h; rw [List.flatMap_cons, List.map_cons, List.flatMap_cons, h p (by simp), ih fun q hq => h q (by simp [hq])]
section
variable {H : Type} {enc : TypeId × Value → H} {W : World}
theorem trod_row {P : Program} {t e : TypeId} {fuel : Nat} {v : Value} {x : DataW H × List MemPlace} {α : Type} [Inhabited α] (C : Nat) (Q : List Value → α → Prop)
    (ht : P.underlying t = some (.slice e)) (hC : P.cellsOf e = C) (hC0 : 0 < C)
    (hf : DataW.trod enc P W 0 (fun _ => true) true fuel t [v] = some x) (hlt : ∀ y ∈ x.2, y.block < W.heap.size)
    (hq : ∀ n cs y, n < fuel → DataW.trod enc P W 0 (fun _ => true) true n e cs = some y → (∀ z ∈ y.2, z.block < W.heap.size) → ∃ a, Q cs a) :
    ∃ ps : List (List Value × α), Row W v ps.length (ps.flatMap (·.1)) ∧ ∀ p ∈ ps, p.1.length = C ∧ Q p.1 p.2 := by
  rcases DataW.trod_slice ht hf with ⟨hcs, hx⟩ | ⟨a, len, cap, elems, rest, n, rfl, hcs, hx, _, hl, hm, hlen, hel, _, _⟩
  · simp at hcs
    subst hcs
    exact ⟨[], Row.nil W, by simp⟩
  · simp at hcs
    subst hcs
    obtain ⟨F, hF⟩ := choose_lt (α := List Value × α) (n := len) (p := fun i p => W.cells? 0 (a.add (i * C)) C = some p.1 ∧ p.1.length = C ∧ Q p.1 p.2) (fun i hi => by
      have h1 := hel i hi
      rw [hC, List.getElem?_eq_getElem (by omega)] at h1
      obtain ⟨cs', h2, h3⟩ := Option.bind_eq_some_iff.1 h1
      obtain ⟨_, hl', _⟩ := World.cells?_some h2
      obtain ⟨q, hq'⟩ := hq n cs' _ (by omega) h3 (fun z hz => hlt z (by rw [hx]; exact List.mem_append.2 (.inr (List.mem_flatMap.2 ⟨elems[i], List.mem_append.2 (.inl (List.getElem_mem _)), hz⟩))))
      exact ⟨(cs', q), h2, hl', hq'⟩)
    refine ⟨(List.range len).map F, ?_, fun p hp => ?_⟩
    · rw [show ((List.range len).map F).length = len by simp]
      refine ⟨some a, cap, rfl, hl, hm, ?_⟩
      by_cases hl0 : len = 0
      · exact .inl ⟨hl0, fun h => by cases h⟩
      · obtain ⟨b, off, spot⟩ := a
        obtain ⟨h01, h02, _⟩ := hF 0 (by omega)
        have hc0 := (World.cells?_some h01).2.2 0 hC0
        rw [List.getElem?_eq_getElem (by omega)] at hc0
        have hspot : spot = none := by simpa [Addr.add] using World.cell?_spot hc0
        subst hspot
        have hbW : b < W.heap.size := hlt (.cell b off) (by
          rw [hx]
          exact List.mem_append.2 (.inl (MemPlace.mem_row.2 ⟨0, by rw [hC]; exact Nat.mul_pos (by omega) hC0, by simp⟩)))
        refine .inr ⟨b, off, rfl, hbW, fun j u hj => ?_⟩
        obtain ⟨i, q, r, hi, rfl, hr, hu⟩ := fm_inv (fun p : List Value × α => p.1) C _ j u (fun q hq => by
          obtain ⟨i, hi, rfl⟩ := List.mem_map.1 hq
          exact (hF i (by simpa using hi)).2.1) hj
        have hil : i < len := by simpa using (List.getElem?_eq_some_iff.1 hi).1
        have hq : F i = q := by simpa [hil] using hi
        subst hq
        have := (World.cells?_some (hF i hil).1).2.2 r hr
        rw [WideShapes.add_plain, WideShapes.add_plain, Nat.add_assoc] at this
        rw [this]; exact hu
    · obtain ⟨i, hi, rfl⟩ := List.mem_map.1 hp
      exact (hF i (by simpa using hi)).2
theorem fld {P : Program} {n o c : Nat} {t : TypeId} {cs : List Value} {r : Option (DataW H × List MemPlace)} (g : DataW.trod enc P W 0 (fun _ => true) true n t ((cs.drop o).take (P.cellsOf t)) = r) (hc : P.cellsOf t = c) : DataW.trod enc P W 0 (fun _ => true) true n t ((cs.drop o).take c) = r := by rw [hc] at g; exact g
theorem c1int : Tryz.prog.cellsOf 3 = 1 := by kernel_rfl
theorem c1i32 : Tryz.prog.cellsOf 21 = 1 := by kernel_rfl
theorem c1rngs : Tryz.prog.cellsOf 39 = 1 := by kernel_rfl
theorem c1res : Tryz.prog.cellsOf 27 = 1 := by kernel_rfl
theorem c2rng : Tryz.prog.cellsOf 54 = 2 := by kernel_rfl
theorem c3re : Tryz.prog.cellsOf 41 = 3 := by kernel_rfl
theorem i32_of {n : Int} (h : (Lit.int .i32 n).wf = true) : -2147483648 ≤ n ∧ n ≤ 2147483647 := by
  simp only [Lit.wf, Bool.and_eq_true, decide_eq_true_eq] at h
  exact ⟨h.1, by have := h.2; exact this⟩
set_option maxRecDepth 100000 in
theorem read_rngs {fuel : Nat} {v : Value} {x : DataW H × List MemPlace} (hf : DataW.trod enc Tryz.prog W 0 (fun _ => true) true fuel 39 [v] = some x) (hlt : ∀ y ∈ x.2, y.block < W.heap.size) :
    ∃ s : List (Int × Int), Row W v s.length (flatK .i32 s) ∧ i32s s := by
  obtain ⟨ps, h1, h2⟩ := trod_row (α := Int × Int) 2 (fun cs p => cs = [.int .i32 p.1, .int .i32 p.2] ∧ (-2147483648 ≤ p.1 ∧ p.1 ≤ 2147483647) ∧ (-2147483648 ≤ p.2 ∧ p.2 ≤ 2147483647)) Tryz.underlying39 c2rng (by omega) hf hlt (fun n cs y hn hy hl => by
    obtain ⟨xs, m, rfl, hx, hcl, hxl, hg⟩ := DataW.trod_struct Tryz.underlying54 hy
    rw [c2rng] at hcl
    obtain ⟨a0, a1, rfl⟩ := len2 hcl
    obtain ⟨y0, y1, rfl⟩ := len2 hxl
    have g0 : DataW.trod enc Tryz.prog W 0 (fun _ => true) true m 21 [a0] = some y0 := fld (o := 0) (cs := [a0, a1]) (hg 0 _ rfl) c1i32
    have g1 : DataW.trod enc Tryz.prog W 0 (fun _ => true) true m 21 [a1] = some y1 := fld (o := 1) (cs := [a0, a1]) (hg 1 _ rfl) c1i32
    obtain ⟨z0, e0, _, w0⟩ := DataW.trod_int Tryz.underlying21 g0
    obtain ⟨z1, e1, _, w1⟩ := DataW.trod_int Tryz.underlying21 g1
    simp at e0 e1
    subst e0 e1
    exact ⟨(z0, z1), rfl, i32_of w0, i32_of w1⟩)
  refine ⟨ps.map (·.2), ?_, fun p hp => ?_⟩
  · rw [List.length_map, flatK, ← flat_eq ps fun p hp => (h2 p hp).2.1]; exact h1
  · obtain ⟨q, hq, rfl⟩ := List.mem_map.1 hp
    exact (h2 q hq).2.2
set_option maxRecDepth 100000 in
theorem read_re : ∀ (fuel : Nat) (cs : List Value) (x : DataW H × List MemPlace), DataW.trod enc Tryz.prog W 0 (fun _ => true) true fuel 41 cs = some x → (∀ y ∈ x.2, y.block < W.heap.size) →
    ∃ p : RE × Value × Value, cs = [.int .i64 p.1.kind, p.2.1, p.2.2] ∧ ReIs W p.1 p.2.1 p.2.2 ∧ p.1.Raw := by
  intro fuel
  induction fuel using Nat.strongRecOn with
  | _ fuel ih =>
    intro cs x h hlt
    obtain ⟨xs, n, rfl, rfl, hcl, hxl, hg⟩ := DataW.trod_struct Tryz.underlying41 h
    rw [c3re] at hcl
    obtain ⟨a0, a1, a2, rfl⟩ := len3 hcl
    obtain ⟨y0, y1, y2, rfl⟩ := len3 hxl
    have g0 : DataW.trod enc Tryz.prog W 0 (fun _ => true) true n 3 [a0] = some y0 := fld (o := 0) (cs := [a0, a1, a2]) (hg 0 _ rfl) c1int
    have g1 : DataW.trod enc Tryz.prog W 0 (fun _ => true) true n 39 [a1] = some y1 := fld (o := 1) (cs := [a0, a1, a2]) (hg 1 _ rfl) c1rngs
    have g2 : DataW.trod enc Tryz.prog W 0 (fun _ => true) true n 27 [a2] = some y2 := fld (o := 2) (cs := [a0, a1, a2]) (hg 2 _ rfl) c1res
    obtain ⟨k, e0, _, w0⟩ := DataW.trod_int Tryz.underlying3 g0
    simp at e0
    subst e0
    obtain ⟨s, hs, hz⟩ := read_rngs g1 (fun y hy => hlt y (by simp [hy]))
    letI : Inhabited (RE × Value × Value) := ⟨(.mk 0 [] [], .nilIface, .nilIface)⟩
    obtain ⟨ps, h1, h2⟩ := trod_row (α := RE × Value × Value) 3 (fun cs p => cs = [.int .i64 p.1.kind, p.2.1, p.2.2] ∧ ReIs W p.1 p.2.1 p.2.2 ∧ p.1.Raw) Tryz.underlying27 c3re (by omega) g2 (fun y hy => hlt y (by simp [hy])) (fun m cs y hm hy hl => ih m (by omega) cs y hy hl)
    have hget : ∀ (i : Nat) (e : RE) (p : Int × Value × Value), (ps.map fun q => q.2.1)[i]? = some e → (ps.map fun q => (q.2.1.kind, q.2.2.1, q.2.2.2))[i]? = some p → ∃ q ∈ ps, e = q.2.1 ∧ p = (q.2.1.kind, q.2.2.1, q.2.2.2) := by
      intro i e p he hp
      rw [List.getElem?_map] at he hp
      obtain ⟨q, hq, rfl⟩ := Option.map_eq_some_iff.1 he
      rw [hq] at hp
      simp at hp
      exact ⟨q, List.mem_of_getElem? hq, rfl, hp.symm⟩
    refine ⟨(.mk k s (ps.map fun q => q.2.1), a1, a2), rfl, .mk k s _ a1 a2 (ps.map fun q => (q.2.1.kind, q.2.2.1, q.2.2.2)) hs ?_ (by simp) ?_ ?_, .mk k s _ hz ?_⟩
    · rw [List.length_map]
      have e := flat_eq (f := fun p : RE × Value × Value => [Value.int .i64 p.1.kind, p.2.1, p.2.2]) ps fun p hp => (h2 p hp).2.1
      have e2 : trip (ps.map fun q => (q.2.1.kind, q.2.2.1, q.2.2.2)) = (ps.map (·.2)).flatMap fun p : RE × Value × Value => [Value.int .i64 p.1.kind, p.2.1, p.2.2] := by
        unfold trip; rw [List.flatMap_map, List.flatMap_map]
      rw [e2, ← e]; exact h1
    · intro i e p he hp
      obtain ⟨q, _, rfl, rfl⟩ := hget i e p he hp
      rfl
    · intro i e p he hp
      obtain ⟨q, hq, rfl, rfl⟩ := hget i e p he hp
      exact (h2 q hq).2.2.1
    · intro i e he
      rw [List.getElem?_map] at he
      obtain ⟨q, hq, rfl⟩ := Option.map_eq_some_iff.1 he
      exact (h2 q (List.mem_of_getElem? hq)).2.2.2
end
end Go.Proofs.YtmgfpcblbbpahaaGreat
