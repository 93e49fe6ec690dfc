/- runes: the sort of pieces. -/
import Derived.Test.YtmgfpcblbbpahaaGreatChecked
import Derived.Test.YtmgfpcblbbpahaaGreatProg
import Derived.Test.YtmgfpcblbbpahaaGreatRows
import Derived.Test.YtmgfpcblbbpahaaGreatPairRow
import Derived.Test.YtmgfpcblbbpahaaGreatRuneMath4
import Derived.WalkKit
import Derived.Lib.Hide
import Derived.IntWalk
import Derived.Deep.QuietTactic
import Derived.BigQuiet
import Derived.WalkLawsBesides
import Derived.Sort.Grow
import Derived.Shelf.SlSortCmp.WholeK
import Derived.Deep.AppendLies
import Derived.Test.YtmgfpcblbbpahaaGreatRnSorts
import Derived.Shelf.SlSortCmp.NoneTotal
set_option linter.unusedVariables false
set_option linter.unusedSimpArgs false
namespace Go.Proofs.YtmgfpcblbbpahaaGreat.Rn
open Go.RowKit Ru

theorem infoPiece : ∃ i, Tryz.prog.info? 98 = some i ∧ i.zero = some (.agg #[.int .i64 0, .int .i64 0]) ∧ i.size = 2 ∧ i.bytes = 16 := info_parts (by kernel_rfl)
theorem infoRange : ∃ i, Tryz.prog.info? 54 = some i ∧ i.zero = some (.agg #[.int .i32 0, .int .i32 0]) ∧ i.size = 2 ∧ i.bytes = 8 := info_parts (by kernel_rfl)
theorem ret_bool {a b : Bool} (h : a = b) : Ending.returned (.bool a) = .returned (.bool b) := by rw [h]
theorem ret_int {k : IntKind} {a b : Int} (h : a = b) : Ending.returned (.int k a) = .returned (.int k b) := by rw [h]

theorem scal_t {r : Int} (h : 0 ≤ r ∧ r ≤ 1114111 ∧ (r < 55296 ∨ 57344 ≤ r)) : true = scal r := ((scal_iff r).2 h).symm
theorem scal_f {r : Int} (h : ¬ (0 ≤ r ∧ r ≤ 1114111 ∧ (r < 55296 ∨ 57344 ≤ r))) : false = scal r := ((scal_not r).2 h).symm

theorem scalar_any (r : Int) (w : World) : Calls Tryz.prog 66 #[.int .i32 r] w fun e w' => e = .returned (.bool (scal r)) ∧ w = w' := by
  go_enter Tryz.func66, Tryz.ntmps66
  by_cases h1 : 0 ≤ r
  · by_cases h2 : r ≤ 1114111
    · by_cases h3 : r < 55296
      · go_wp2
        go_ret
        exact ⟨ret_bool (by first | exact scal_t (by omega) | exact scal_f (by omega)), rfl⟩
      · by_cases h4 : 57344 ≤ r
        · go_wp2
          go_ret
          exact ⟨ret_bool (by first | exact scal_t (by omega) | exact scal_f (by omega)), rfl⟩
        · go_wp2
          go_ret
          exact ⟨ret_bool (by first | exact scal_t (by omega) | exact scal_f (by omega)), rfl⟩
    · go_wp2
      go_ret
      exact ⟨ret_bool (by first | exact scal_t (by omega) | exact scal_f (by omega)), rfl⟩
  · go_wp2
    go_ret
    exact ⟨ret_bool (by first | exact scal_t (by omega) | exact scal_f (by omega)), rfl⟩

theorem place_any (r : Int) (w : World) (hr : -2147483648 ≤ r ∧ r ≤ 2147483647) : Calls Tryz.prog 101 #[.int .i32 r] w fun e w' => e = .returned (.int .i64 (plc r)) ∧ w = w' := by
  go_enter Tryz.func101, Tryz.ntmps101
  by_cases h1 : r < 0
  · go_wp2
    go_ret
    exact ⟨ret_int (by unfold plc; (repeat' split) <;> omega), rfl⟩
  by_cases h2 : r < 55296
  · go_wp2
    go_ret
    exact ⟨ret_int (by unfold plc; (repeat' split) <;> omega), rfl⟩
  by_cases h3 : r < 57344
  · go_wp2
    go_ret
    exact ⟨ret_int (by unfold plc; (repeat' split) <;> omega), rfl⟩
  by_cases h4 : r ≤ 1114111
  · go_wp2
    go_ret
    exact ⟨ret_int (by unfold plc; (repeat' split) <;> omega), rfl⟩
  · go_wp2
    go_ret
    exact ⟨ret_int (by unfold plc; (repeat' split) <;> omega), rfl⟩

theorem value_any (p : Int) (w : World) (hp : 0 ≤ p ∧ p ≤ 1112064) : Calls Tryz.prog 94 #[.int .i64 p] w fun e w' => e = .returned (.int .i32 (vlu p)) ∧ w = w' := by
  go_enter Tryz.func94, Tryz.ntmps94
  by_cases h1 : p < 55296
  · go_wp2
    go_ret
    exact ⟨ret_int (by unfold vlu; simp [IntKind.wrap, IntKind.bits, IntKind.signed]; (repeat' split) <;> omega), rfl⟩
  · go_wp2
    go_ret
    exact ⟨ret_int (by unfold vlu; simp [IntKind.wrap, IntKind.bits, IntKind.signed]; (repeat' split) <;> omega), rfl⟩
end Go.Proofs.YtmgfpcblbbpahaaGreat.Rn

namespace Go.Proofs.YtmgfpcblbbpahaaGreat.Rn
open Go.RowKit Ru Go.Sort

def cmpI (x y : Int) : Int := if x < y then -1 else if y < x then 1 else 0
theorem isNaN_any (x : Int) (w : World) : Calls Tryz.prog 105 #[.int .i64 x] w fun e w' => e = .returned (.bool false) ∧ w = w' := by
  go_enter Tryz.func105, Tryz.ntmps105
  go_wp2
  go_ret
  exact ⟨ret_bool (by simp), rfl⟩
theorem compare_any (x y : Int) (w : World) : Calls Tryz.prog 88 #[.int .i64 x, .int .i64 y] w fun e w' => e = .returned (.int .i64 (cmpI x y)) ∧ w = w' := by
  go_enter Tryz.func88, Tryz.ntmps88
  by_cases h1 : x < y
  · go_wp2_with (go_at_call 105; refine (isNaN_any _ _).mono ?_; rintro e w' ⟨rfl, rfl⟩)
    go_ret
    exact ⟨ret_int (by unfold cmpI; (repeat' split) <;> omega), rfl⟩
  · by_cases h2 : y < x
    · go_wp2_with (go_at_call 105; refine (isNaN_any _ _).mono ?_; rintro e w' ⟨rfl, rfl⟩)
      go_ret
      exact ⟨ret_int (by unfold cmpI; (repeat' split) <;> omega), rfl⟩
    · go_wp2_with (go_at_call 105; refine (isNaN_any _ _).mono ?_; rintro e w' ⟨rfl, rfl⟩)
      go_ret
      exact ⟨ret_int (by unfold cmpI; (repeat' split) <;> omega), rfl⟩
theorem pieces1_any (x y : Int × Int) (w : World) : Calls Tryz.prog 87 #[.agg #[.int .i64 x.1, .int .i64 x.2], .agg #[.int .i64 y.1, .int .i64 y.2]] w fun e w' => e = .returned (.int .i64 (cmpI x.1 y.1)) ∧ ∃ q os, w' = grow (w.drewN q) os := by
  go_enter Tryz.func87, Tryz.ntmps87
  go_wp2_with (go_at_call 88; refine (compare_any _ _ _).mono ?_; rintro e w' ⟨rfl, rfl⟩)
  go_ret
  exact ⟨rfl, 0, _, by rw [alloc_eq_grow, alloc_eq_grow, grow_grow]; rfl⟩
theorem pieceOf_any (x : Int × Int) (w : World) (h1 : -2147483648 ≤ x.1 ∧ x.1 ≤ 2147483647) (h2 : -2147483648 ≤ x.2 ∧ x.2 ≤ 2147483647) :
    Calls Tryz.prog 85 #[.agg #[.int .i32 x.1, .int .i32 x.2]] w fun e w' => e = .returned (.agg #[.int .i64 (pcOf x).1, .int .i64 (pcOf x).2]) ∧ Below w.heap.size w w' := by
  have hp := plc_range x.2
  by_cases hs : scal x.2 = true
  · have e : pcOf x = (plc x.1, plc x.2 + 1) := by unfold pcOf; rw [if_pos hs]
    rw [e]
    clear e
    go_enter Tryz.func85, Tryz.ntmps85
    go_wp2_with (first
      | (go_at_call 101; refine (place_any _ _ (by assumption)).mono ?_; rintro e w' ⟨rfl, rfl⟩)
      | (go_at_call 66; refine (scalar_any _ _).mono ?_; rintro e w' ⟨rfl, rfl⟩))
    exact bodyPost_ret (v := .agg #[.int .i64 (plc x.1), .int .i64 (plc x.2 + 1)]) (by simp [results, Tryz.results85, go_sem]) rfl ⟨rfl, by repeat (first | exact Below.refl _ _ | assumption | (refine Below.drew ?_) | (refine below_drewN ?_ _) | (refine bel_new ?_ _) | (refine bel_then ?_ (by assumption)))⟩
  · have hs' : scal x.2 = false := by simpa using hs
    have e : pcOf x = (plc x.1, plc x.2) := by unfold pcOf; rw [if_neg hs]
    rw [e]
    clear e hs
    go_enter Tryz.func85, Tryz.ntmps85
    go_wp2_with (first
      | (go_at_call 101; refine (place_any _ _ (by assumption)).mono ?_; rintro e w' ⟨rfl, rfl⟩)
      | (go_at_call 66; refine (scalar_any _ _).mono ?_; rintro e w' ⟨rfl, rfl⟩))
    exact bodyPost_ret (v := .agg #[.int .i64 (plc x.1), .int .i64 (plc x.2)]) (by simp [results, Tryz.results85, go_sem]) rfl ⟨rfl, by repeat (first | exact Below.refl _ _ | assumption | (refine Below.drew ?_) | (refine below_drewN ?_ _) | (refine bel_new ?_ _) | (refine bel_then ?_ (by assumption)))⟩
end Go.Proofs.YtmgfpcblbbpahaaGreat.Rn

namespace Go.Proofs.YtmgfpcblbbpahaaGreat.Rn
open Go.RowKit Ru

def encP (x : Int × Int) : List Value := [.int .i64 x.1, .int .i64 x.2]
theorem sflat (l : List (Int × Int)) : (Sort.flatK encP 2 l.toArray).toList = flatK .i64 l := by
  apply List.ext_getElem?
  intro j
  by_cases hj : j < l.length * 2
  · have h1 : j / 2 < l.length := by omega
    have e0 : (Sort.flatK encP 2 l.toArray)[j]! = (encP l.toArray[j / 2]!)[j % 2]! := Sort.get_flatK _ _ _ _ (by simpa using hj)
    have hsz : j < (Sort.flatK encP 2 l.toArray).size := by simpa using hj
    have e1 : (Sort.flatK encP 2 l.toArray).toList[j]? = some ((Sort.flatK encP 2 l.toArray)[j]!) := by
      rw [Array.getElem?_toList, getElem!_pos _ j hsz, Array.getElem?_eq_getElem hsz]
    obtain ⟨c1, c2⟩ := flatK_at .i64 l (j / 2) h1
    have e2 : l.toArray[j / 2]! = l.getD (j / 2) (0, 0) := by
      rw [getElem!_pos _ _ (by simpa using h1)]; simp [List.getD, List.getElem?_eq_getElem h1]
    rw [e1, e0, e2]
    rcases (show j % 2 = 0 ∨ j % 2 = 1 by omega) with h | h
    · rw [show j = j / 2 * 2 by omega, c1, ← show j = j / 2 * 2 by omega, h]; rfl
    · rw [show j = j / 2 * 2 + 1 by omega, c2, ← show j = j / 2 * 2 + 1 by omega, h]; rfl
  · rw [List.getElem?_eq_none (by simp; omega), List.getElem?_eq_none (by rw [flatK_len]; omega)]
theorem holdsP {w : World} {g : Nat} {cur : Array Value} {e : TypeId} {l : List (Int × Int)} (hb : w.heap[g]? = some (.cells cur e (0, 0))) (ht : cur.toList.take (l.length * 2) = flatK .i64 l) : Sort.HoldsK encP 2 w g 0 l.toArray := by
  intro j hj
  have hj' : j < l.length * 2 := by simpa using hj
  refine ⟨?_, by simp [World.frozen?, hb]⟩
  have h1 : (cur.toList.take (l.length * 2))[j]? = (flatK .i64 l)[j]? := by rw [ht]
  rw [List.getElem?_take_of_lt hj', ← sflat, Array.getElem?_toList, Array.getElem?_toList] at h1
  simp only [World.cell?, hb, Nat.zero_add]
  simp only [Option.isSome_none, Bool.false_eq_true, if_false]
  rw [h1, Array.getElem?_eq_getElem hj, getElem!_pos _ j hj]; rfl
theorem heap_sortedP {w : World} {g n : Nat} {os : Array Obj} {cur : Array Value} {e : TypeId} {fr : Nat × Nat} (d : Array (Int × Int)) (hb : w.heap[g]? = some (.cells cur e fr)) :
    (sortWorldK encP 2 w g 0 n d os).heap[g]? = some (.cells (Sort.putCells id 0 (Sort.flatK encP 2 d) cur) e fr) := by
  have hlt := (Array.getElem?_eq_some_iff.1 hb).1
  unfold sortWorldK
  rw [Sort.heap_grow_old _ _ (by simpa [Sort.putRowK, Sort.putRow, Sort.mapBlock, Sort.ahead] using hlt)]
  simp [Sort.putRowK, Sort.putRow, Sort.mapBlock, Sort.ahead, Array.getElem?_modify, hb, Sort.onCells]
theorem grownBy_sortedP {w : World} {g n : Nat} {os : Array Obj} (d : Array (Int × Int)) : w.grownBy (sortWorldK encP 2 w g 0 n d os) (some g) := by
  refine ⟨rfl, rfl, rfl, by simp [sortWorldK, Sort.grow, Sort.putRowK, Sort.putRow, Sort.mapBlock, Sort.ahead], fun k hk hne => ?_⟩
  unfold sortWorldK
  rw [Sort.heap_grow_old _ _ (by simpa [Sort.putRowK, Sort.putRow, Sort.mapBlock, Sort.ahead] using hk)]
  have : g ≠ k := fun e => hne (by rw [e])
  simp [Sort.putRowK, Sort.putRow, Sort.mapBlock, Sort.ahead, Array.getElem?_modify, this]
theorem ownsRow_sortedP {w : World} {base g cap n : Nat} {e : TypeId} {os : Array Obj} {cur : Array Value} {l : List (Int × Int)} {d : Array (Int × Int)} (hl : d.size = l.length) (hbase : base ≤ g) (hb : w.heap[g]? = some (.cells cur e (0, 0)))
    (h1 : l.length ≤ cap) (h2 : cap ≤ maxLen) (h3 : cur.size = cap * 2) :
    (sortWorldK encP 2 w g 0 n d os).ownsRow base e 2 (.slice (some ⟨g, 0, none⟩) l.length cap) l.length (flatK .i64 d.toList) := by
  refine ⟨by rw [flatK_len]; simp [hl], .inr ⟨g, cap, _, rfl, hbase, heap_sortedP d hb, h1, h2, by simp [Sort.putCells, h3], ?_⟩⟩
  have e0 : flatK .i64 d.toList = (Sort.flatK encP 2 d).toList := by rw [← sflat]
  rw [e0]
  apply List.ext_getElem?
  intro j
  by_cases hj : j < l.length * 2
  · have hj2 : j < d.size * 2 := by omega
    rw [List.getElem?_take_of_lt hj, Array.getElem?_toList, Array.getElem?_toList]
    simp [Sort.putCells, hj2, show j < cur.size by omega]
  · rw [List.getElem?_take_eq_none (by omega), List.getElem?_eq_none (by simp; omega)]
theorem perm_of {l : List (Int × Int)} {d : Array (Int × Int)} (h : Sort.PermIn 0 l.toArray.size l.toArray d) : d.size = l.length ∧ d.toList.Perm l := by
  obtain ⟨h1, _, h3⟩ := h
  have hs : d.size = l.length := by simpa using h1
  refine ⟨hs, ?_⟩
  have e1 : d.extract 0 l.toArray.size = d := by
    rw [show l.toArray.size = d.size by simpa using hs.symm]; simp
  have e2 : l.toArray.extract 0 l.toArray.size = l.toArray := by simp
  rw [e1, e2] at h3
  simpa using h3
end Go.Proofs.YtmgfpcblbbpahaaGreat.Rn

namespace Go.Proofs.YtmgfpcblbbpahaaGreat.Rn
open Go.RowKit Ru

theorem lt_cmp (x y : Int × Int) : ltOf (fun x y : Int × Int => cmpI x.1 y.1) x y = decide (x.1 < y.1) := by
  unfold ltOf cmpI
  by_cases h1 : x.1 < y.1
  · simp [h1]
  · by_cases h2 : y.1 < x.1 <;> simp [h1, h2]
theorem swo_cmp : Sort.SWO (ltOf fun x y : Int × Int => cmpI x.1 y.1) where
  irrefl x := by rw [lt_cmp]; simp
  trans x y z h1 h2 := by rw [lt_cmp] at *; simp at *; omega
  ntrans x y z h1 h2 := by rw [lt_cmp] at *; simp at *; omega
theorem sorted_of {d : Array (Int × Int)} {n : Nat} (hn : d.size = n) (h : Sort.SortedIn (ltOf fun x y : Int × Int => cmpI x.1 y.1) 0 n d) : Sorted d.toList := by
  intro i j hij hj
  have hj' : j < d.size := by simpa using hj
  have h1 := h i j (Nat.zero_le _) hij (by omega)
  rw [lt_cmp] at h1
  have e1 : d.toList.getD i (0, 0) = d[i]! := by rw [getElem!_pos d i (by omega)]; simp [List.getD, show i < d.size by omega]
  have e2 : d.toList.getD j (0, 0) = d[j]! := by rw [getElem!_pos d j hj']; simp [List.getD, hj']
  rw [e1, e2]
  simp at h1; omega
set_option maxHeartbeats 1000000 in
theorem sortPieces (l : List Pc) (v : Value) (base : Nat) (w : World) (hown : w.ownsRow base 98 2 v l.length (flatK .i64 l)) (hn : l.length ≤ 100000) :
    Calls Tryz.prog 86 #[v, .func (.func 87) #[] #[]] w fun e w' => e = .returned (.tuple #[]) ∧ ∃ d : List Pc, d.Perm l ∧ Sorted d ∧ w'.ownsRow base 98 2 v l.length (flatK .i64 d) ∧ w.grownBy w' v.ownBlock := by
  rcases hown.2 with ⟨rfl, h0⟩ | ⟨g, cap, cur, rfl, hbase, hb, h1, h2, h3, h4⟩
  · have hcon := AnyF.slices_SortFunc_none (P := Tryz.prog) Tryz.sortRn none 0 (.func (.func 87) #[] #[]) w
    change Calls Tryz.prog 86 _ _ _ at hcon
    refine hcon.mono fun e w' ⟨he, hw⟩ => ?_
    subst hw
    have hl : l = [] := List.eq_nil_of_length_eq_zero h0
    subst hl
    exact ⟨he, [], List.Perm.refl _, fun i j _ hj => by simp at hj, hown, World.grownBy.refl _ _⟩
  · have eg : ∀ args w, (callFunc 87 args).run Tryz.prog w = .ok (.enter 87 args) w := enters_of Tryz.func87 (by kernel_rfl) rfl
    have hcon := AnyQ.slices_SortFunc Tryz.sortRn 2 Tryz.isAgg98 Tryz.sizeOf98 encP (fun _ => rfl) (fun x v hv => by simp [encP] at hv; rcases hv with rfl | rfl <;> rfl) (fun x y => cmpI x.1 y.1) swo_cmp 87 #[] g 0 cap l.toArray w eg (fun _ _ _ _ x y => pieces1_any x y _) (holdsP hb h4) (Array.getElem?_eq_some_iff.1 hb).1 (by simp; omega)
    change Calls Tryz.prog 86 _ _ _ at hcon
    have e : l.toArray.size = l.length := by simp
    rw [e] at hcon
    refine hcon.mono fun e w' ⟨he, d', n, os, hp, hs, hw⟩ => ?_
    subst hw
    obtain ⟨p1, p2⟩ := perm_of (by simpa using hp)
    exact ⟨he, d'.toList, p2, sorted_of p1 hs, ownsRow_sortedP p1 hbase hb h1 h2 h3, grownBy_sortedP d'⟩
end Go.Proofs.YtmgfpcblbbpahaaGreat.Rn
