/- The sort's words and ours: a row of pairs of whole numbers that the call owns. No program's numbers. -/
import Derived.Test.YtmgfpcblbbpahaaGreatPairRow
import Derived.Test.YtmgfpcblbbpahaaGreatRuneMath4
import Derived.Shelf.SlSortCmp.WholeK
import Derived.Deep.AppendLies
namespace Go.Proofs.YtmgfpcblbbpahaaGreat.Rn
open Go.RowKit Ru
set_option linter.unusedVariables false
set_option linter.unusedSimpArgs false

def encP (x : Int × Int) : List Value := [.int .i64 x.1, .int .i64 x.2]
theorem sflat (l : List (Int × Int)) : (Sort.flatK encP 2 l.toArray).toList = flatK .i64 l := by
  apply List.ext_getElem?
  intro j
  by_cases hj : j < l.length * 2
  · have h1 : j / 2 < l.length := by omega
    have e0 : (Sort.flatK encP 2 l.toArray)[j]! = (encP l.toArray[j / 2]!)[j % 2]! := Sort.get_flatK _ _ _ _ (by simpa using hj)
    have hsz : j < (Sort.flatK encP 2 l.toArray).size := by simpa using hj
    have e1 : (Sort.flatK encP 2 l.toArray).toList[j]? = some ((Sort.flatK encP 2 l.toArray)[j]!) := by
      rw [Array.getElem?_toList, getElem!_pos _ j hsz, Array.getElem?_eq_getElem hsz]
    obtain ⟨c1, c2⟩ := flatK_at .i64 l (j / 2) h1
    have e2 : l.toArray[j / 2]! = l.getD (j / 2) (0, 0) := by
      rw [getElem!_pos _ _ (by simpa using h1)]; simp [List.getD, List.getElem?_eq_getElem h1]
    rw [e1, e0, e2]
    rcases (show j % 2 = 0 ∨ j % 2 = 1 by omega) with h | h
    · rw [show j = j / 2 * 2 by omega, c1, ← show j = j / 2 * 2 by omega, h]; rfl
    · rw [show j = j / 2 * 2 + 1 by omega, c2, ← show j = j / 2 * 2 + 1 by omega, h]; rfl
  · rw [List.getElem?_eq_none (by simp; omega), List.getElem?_eq_none (by rw [flatK_len]; omega)]
theorem holdsP {w : World} {g : Nat} {cur : Array Value} {e : TypeId} {l : List (Int × Int)} (hb : w.heap[g]? = some (.cells cur e (0, 0))) (ht : cur.toList.take (l.length * 2) = flatK .i64 l) : Sort.HoldsK encP 2 w g 0 l.toArray := by
  intro j hj
  have hj' : j < l.length * 2 := by simpa using hj
  refine ⟨?_, by simp [World.frozen?, hb]⟩
  have h1 : (cur.toList.take (l.length * 2))[j]? = (flatK .i64 l)[j]? := by rw [ht]
  rw [List.getElem?_take_of_lt hj', ← sflat, Array.getElem?_toList, Array.getElem?_toList] at h1
  simp only [World.cell?, hb, Nat.zero_add]
  simp only [Option.isSome_none, Bool.false_eq_true, if_false]
  rw [h1, Array.getElem?_eq_getElem hj, getElem!_pos _ j hj]; rfl
theorem heap_sortedP {w : World} {g n : Nat} {os : Array Obj} {cur : Array Value} {e : TypeId} {fr : Nat × Nat} (d : Array (Int × Int)) (hb : w.heap[g]? = some (.cells cur e fr)) :
    (sortWorldK encP 2 w g 0 n d os).heap[g]? = some (.cells (Sort.putCells id 0 (Sort.flatK encP 2 d) cur) e fr) := by
  have hlt := (Array.getElem?_eq_some_iff.1 hb).1
  unfold sortWorldK
  rw [Sort.heap_grow_old _ _ (by simpa [Sort.putRowK, Sort.putRow, Sort.mapBlock, Sort.ahead] using hlt)]
  simp [Sort.putRowK, Sort.putRow, Sort.mapBlock, Sort.ahead, Array.getElem?_modify, hb, Sort.onCells]
theorem grownBy_sortedP {w : World} {g n : Nat} {os : Array Obj} (d : Array (Int × Int)) : w.grownBy (sortWorldK encP 2 w g 0 n d os) (some g) := by
  refine ⟨rfl, rfl, rfl, by simp [sortWorldK, Sort.grow, Sort.putRowK, Sort.putRow, Sort.mapBlock, Sort.ahead], fun k hk hne => ?_⟩
  unfold sortWorldK
  rw [Sort.heap_grow_old _ _ (by simpa [Sort.putRowK, Sort.putRow, Sort.mapBlock, Sort.ahead] using hk)]
  have : g ≠ k := fun e => hne (by rw [e])
  simp [Sort.putRowK, Sort.putRow, Sort.mapBlock, Sort.ahead, Array.getElem?_modify, this]
theorem ownsRow_sortedP {w : World} {base g cap n : Nat} {e : TypeId} {os : Array Obj} {cur : Array Value} {l : List (Int × Int)} {d : Array (Int × Int)} (hl : d.size = l.length) (hbase : base ≤ g) (hb : w.heap[g]? = some (.cells cur e (0, 0)))
    (h1 : l.length ≤ cap) (h2 : cap ≤ maxLen) (h3 : cur.size = cap * 2) :
    (sortWorldK encP 2 w g 0 n d os).ownsRow base e 2 (.slice (some ⟨g, 0, none⟩) l.length cap) l.length (flatK .i64 d.toList) := by
  refine ⟨by rw [flatK_len]; simp [hl], .inr ⟨g, cap, _, rfl, hbase, heap_sortedP d hb, h1, h2, by simp [Sort.putCells, h3], ?_⟩⟩
  have e0 : flatK .i64 d.toList = (Sort.flatK encP 2 d).toList := by rw [← sflat]
  rw [e0]
  apply List.ext_getElem?
  intro j
  by_cases hj : j < l.length * 2
  · have hj2 : j < d.size * 2 := by omega
    rw [List.getElem?_take_of_lt hj, Array.getElem?_toList, Array.getElem?_toList]
    simp [Sort.putCells, hj2, show j < cur.size by omega]
  · rw [List.getElem?_take_eq_none (by omega), List.getElem?_eq_none (by simp; omega)]
theorem perm_of {l : List (Int × Int)} {d : Array (Int × Int)} (h : Sort.PermIn 0 l.toArray.size l.toArray d) : d.size = l.length ∧ d.toList.Perm l := by
  obtain ⟨h1, _, h3⟩ := h
  have hs : d.size = l.length := by simpa using h1
  refine ⟨hs, ?_⟩
  have e1 : d.extract 0 l.toArray.size = d := by
    rw [show l.toArray.size = d.size by simpa using hs.symm]; simp
  have e2 : l.toArray.extract 0 l.toArray.size = l.toArray := by simp
  rw [e1, e2] at h3
  simpa using h3
end Go.Proofs.YtmgfpcblbbpahaaGreat.Rn
