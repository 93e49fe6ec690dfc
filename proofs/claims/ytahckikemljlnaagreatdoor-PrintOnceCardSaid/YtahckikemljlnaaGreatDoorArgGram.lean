/- Arguments that are grammars: expressions, patterns, tokens, steps, rules, out of what is read. -/
import Derived.ChangeSlices
import Derived.WideShapes
import Derived.ProofKit
import Derived.OpenShut
import Derived.SizedLaws
import Derived.Test.YtahckikemljlnaaGreatDoorGram
set_option linter.unusedVariables false
set_option linter.unusedSimpArgs false
namespace Go.Proofs.YtahckikemljlnaaGreatDoor
open Go.RowKit Go.ChangeShapes Go.WideShapes Go.ChangeAt

theorem arg_row {P : Program} {W : World} {H : Type} {enc : TypeId × Value → H} {r : Reach} {b0 : Nat} {t e : TypeId} {k : IntKind} {v : Value} {d : DataW H} {ps : List MemPlace}
    (ht : P.underlying t = some (.slice e)) (he : P.underlying e = some (.int k)) (hc : P.cellsOf e = 1)
    (hval : Value.okWide P W r b0 t v) (h : DataW.Trod enc P W 0 (fun _ => true) true t v d ps) (hlt : ∀ x ∈ ps, x.block < W.heap.size) :
    ∃ zs : List Int, Row W v zs.length (zs.map (Value.int k)) ∧ ∀ n ∈ zs, (Lit.int k n).wf = true := by
  obtain ⟨a0, len, cap, rfl⟩ := okWide_slice ht hval
  obtain ⟨fuel, hf⟩ := h
  rcases open_ints ht he hc hf with ⟨hcs, hx⟩ | ⟨a, len', cap', zs, hcs, _, hl, hm, hz, hx, hcell, hwz⟩
  · simp [Value.cells] at hcs
    obtain ⟨rfl, rfl, rfl⟩ := hcs
    exact ⟨[], Row.nil W, by simp⟩
  · simp [Value.cells] at hcs
    obtain ⟨rfl, rfl, rfl⟩ := hcs
    simp only [Prod.mk.injEq] at hx
    obtain ⟨rfl, rfl⟩ := hx
    simp only [if_true] at hz
    have hlen : (zs.take len).length = len := by simp; omega
    refine ⟨zs.take len, ?_, fun n hn => hwz n (List.mem_of_mem_take hn)⟩
    rw [hlen]
    refine ⟨some a, cap, rfl, hl, hm, ?_⟩
    by_cases hl0 : len = 0
    · exact .inl ⟨hl0, fun h => by cases h⟩
    · obtain ⟨b, off, spot⟩ := a
      have hspot : spot = none := by simpa [Addr.add] using World.cell?_spot (hcell 0 (by omega))
      subst hspot
      have hbW : b < W.heap.size := hlt (.cell b off) (MemPlace.mem_row.2 ⟨0, by omega, by simp⟩)
      refine .inr ⟨b, off, rfl, hbW, fun j u hj => ?_⟩
      have hj2 : j < len := by
        have := (List.getElem?_eq_some_iff.1 hj).1
        simp at this; omega
      have h1 := hcell j (by omega)
      rw [add_plain] at h1
      rw [h1]
      rw [List.getElem?_map, List.getElem?_take, if_pos hj2, List.getElem?_eq_getElem (by omega)] at hj
      simp at hj
      rw [← hj, List.getD, List.getElem?_eq_getElem (by omega)]
      rfl
end Go.Proofs.YtahckikemljlnaaGreatDoor

namespace Go.Proofs.YtahckikemljlnaaGreatDoor
open Go.RowKit Go.ChangeShapes Go.WideShapes Go.ChangeAt Go.Deep Go.Joins

structure RowsI (w : World) (v : Value) (vs : List Value) (ls : List (List Int)) : Prop where
  len : vs.length = ls.length
  row : Row w v ls.length vs
  each : ∀ (i : Nat) (u : Value) (l : List Int), vs[i]? = some u → ls[i]? = some l → Row w u l.length (l.map (Value.int .i64))
theorem RowsI.moved {w w' : World} {v : Value} {vs : List Value} {ls : List (List Int)} (h : RowsI w v vs ls) (hb : Below w.heap.size w w') : RowsI w' v vs ls :=
  ⟨h.len, h.row.below hb, fun i u l hu hl => (h.each i u l hu hl).below hb⟩
end Go.Proofs.YtahckikemljlnaaGreatDoor

namespace Go.Proofs.YtahckikemljlnaaGreatDoor
open Go.RowKit Go.ChangeShapes Go.WideShapes Go.ChangeAt Go.Deep Go.Joins

inductive RE.Raw : RE → Prop
  | mk (k : Int) (s : List (Int × Int)) (l : List RE) (hs : i32s s) (h : ∀ (i : Nat) (e : RE), l[i]? = some e → RE.Raw e) : RE.Raw (.mk k s l)
theorem RE.Raw.sets {e : RE} (h : e.Raw) : i32s e.set := by cases h; assumption
theorem RE.Raw.part {e p : RE} {i : Nat} (h : e.Raw) (hp : e.parts[i]? = some p) : p.Raw := by cases h with | mk k s l hs h => exact h i p hp
theorem len2 {α : Type} {l : List α} (h : l.length = 2) : ∃ a b, l = [a, b] := by
  match l, h with
  | [a, b], _ => exact ⟨a, b, rfl⟩
section
variable {H : Type} {enc : TypeId × Value → H} {W : World}
theorem fld {P : Program} {n o c : Nat} {t : TypeId} {cs : List Value} {r : Option (DataW H × List MemPlace)} (g : DataW.trod enc P W 0 (fun _ => true) true n t ((cs.drop o).take (P.cellsOf t)) = r) (hc : P.cellsOf t = c) : DataW.trod enc P W 0 (fun _ => true) true n t ((cs.drop o).take c) = r := by rw [hc] at g; exact g
end
end Go.Proofs.YtahckikemljlnaaGreatDoor
