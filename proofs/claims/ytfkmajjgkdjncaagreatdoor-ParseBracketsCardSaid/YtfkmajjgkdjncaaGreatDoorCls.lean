/- Merged. -/
import Derived.Test.YtfkmajjgkdjncaaGreatDoorPairRow
import Derived.Test.YtfkmajjgkdjncaaGreatDoorRuneMath4
import Derived.Shelf.SlSortCmp.WholeK
import Derived.Deep.AppendLies
import Derived.Shelf.SlSortCmp.NoneTotal
import Derived.Sort.Grow
import Derived.Test.YtfkmajjgkdjncaaGreatDoorStill
import Derived.Laws.OwnMore
import Derived.Deep.QuietTactic
import Derived.BigQuiet
import Derived.Test.YtfkmajjgkdjncaaGreatDoorClsEl
import Derived.RegionTactic
import Derived.ChangeAlike
import Derived.BigRegion
set_option linter.unusedVariables false
set_option linter.unusedSimpArgs false
namespace Go.Proofs.YtfkmajjgkdjncaaGreatDoor
open Go.RowKit Ru
def encP (x : Int × Int) : List Value := [.int .i32 x.1, .int .i32 x.2]
theorem sflat (l : List (Int × Int)) : (Sort.flatK encP 2 l.toArray).toList = flatK .i32 l := by
 apply List.ext_getElem?
 intro j
 by_cases hj : j < l.length * 2
 · have h1 : j / 2 < l.length := by omega
   have e0 : (Sort.flatK encP 2 l.toArray)[j]! = (encP l.toArray[j / 2]!)[j % 2]! := Sort.get_flatK _ _ _ _ (by simpa using hj)
   have hsz : j < (Sort.flatK encP 2 l.toArray).size := by simpa using hj
   have e1 : (Sort.flatK encP 2 l.toArray).toList[j]? = some ((Sort.flatK encP 2 l.toArray)[j]!) := by
    rw [Array.getElem?_toList, getElem!_pos _ j hsz, Array.getElem?_eq_getElem hsz]
   obtain ⟨c1, c2⟩ := flatK_at .i32 l (j / 2) h1
   have e2 : l.toArray[j / 2]! = l.getD (j / 2) (0, 0) := by
    rw [getElem!_pos _ _ (by simpa using h1)]; simp [List.getD, List.getElem?_eq_getElem h1]
   rw [e1, e0, e2]
   rcases (show j % 2 = 0 ∨ j % 2 = 1 by omega) with h | h
   · rw [show j = j / 2 * 2 by omega, c1, ← show j = j / 2 * 2 by omega, h]; rfl
   · rw [show j = j / 2 * 2 + 1 by omega, c2, ← show j = j / 2 * 2 + 1 by omega, h]; rfl
 · rw [List.getElem?_eq_none (by simp; omega), List.getElem?_eq_none (by rw [flatK_len]; omega)]
theorem holdsP {w : World} {g : Nat} {cur : Array Value} {e : TypeId} {l : List (Int × Int)} (hb : w.heap[g]? = some (.cells cur e (0, 0))) (ht : cur.toList.take (l.length * 2) = flatK .i32 l) : Sort.HoldsK encP 2 w g 0 l.toArray := by
 intro j hj
 have hj' : j < l.length * 2 := by simpa using hj
 refine ⟨?_, by simp [World.frozen?, hb]⟩
 have h1 : (cur.toList.take (l.length * 2))[j]? = (flatK .i32 l)[j]? := by rw [ht]
 rw [List.getElem?_take_of_lt hj', ← sflat, Array.getElem?_toList, Array.getElem?_toList] at h1
 simp only [World.cell?, hb, Nat.zero_add]
 simp only [Option.isSome_none, Bool.false_eq_true, if_false]
 rw [h1, Array.getElem?_eq_getElem hj, getElem!_pos _ j hj]; rfl
theorem heap_sortedP {w : World} {g n : Nat} {os : Array Obj} {cur : Array Value} {e : TypeId} {fr : Nat × Nat} (d : Array (Int × Int)) (hb : w.heap[g]? = some (.cells cur e fr)) :
 (sortWorldK encP 2 w g 0 n d os).heap[g]? = some (.cells (Sort.putCells id 0 (Sort.flatK encP 2 d) cur) e fr) := by
 have hlt := (Array.getElem?_eq_some_iff.1 hb).1
 unfold sortWorldK
 rw [Sort.heap_grow_old _ _ (by simpa [Sort.putRowK, Sort.putRow, Sort.mapBlock, Sort.ahead] using hlt)]
 simp [Sort.putRowK, Sort.putRow, Sort.mapBlock, Sort.ahead, Array.getElem?_modify, hb, Sort.onCells]
theorem grownBy_sortedP {w : World} {g n : Nat} {os : Array Obj} (d : Array (Int × Int)) : w.grownBy (sortWorldK encP 2 w g 0 n d os) (some g) := by
 refine ⟨rfl, rfl, rfl, by simp [sortWorldK, Sort.grow, Sort.putRowK, Sort.putRow, Sort.mapBlock, Sort.ahead], fun k hk hne => ?_⟩
 unfold sortWorldK
 rw [Sort.heap_grow_old _ _ (by simpa [Sort.putRowK, Sort.putRow, Sort.mapBlock, Sort.ahead] using hk)]
 have : g ≠ k := fun e => hne (by rw [e])
 simp [Sort.putRowK, Sort.putRow, Sort.mapBlock, Sort.ahead, Array.getElem?_modify, this]
theorem ownsRow_sortedP {w : World} {base g cap n : Nat} {e : TypeId} {os : Array Obj} {cur : Array Value} {l : List (Int × Int)} {d : Array (Int × Int)} (hl : d.size = l.length) (hbase : base ≤ g) (hb : w.heap[g]? = some (.cells cur e (0, 0)))
 (h1 : l.length ≤ cap) (h2 : cap ≤ maxLen) (h3 : cur.size = cap * 2) :
 (sortWorldK encP 2 w g 0 n d os).ownsRow base e 2 (.slice (some ⟨g, 0, none⟩) l.length cap) l.length (flatK .i32 d.toList) := by
 refine ⟨by rw [flatK_len]; simp [hl], .inr ⟨g, cap, _, rfl, hbase, heap_sortedP d hb, h1, h2, by simp [Sort.putCells, h3], ?_⟩⟩
 have e0 : flatK .i32 d.toList = (Sort.flatK encP 2 d).toList := by rw [← sflat]
 rw [e0]
 apply List.ext_getElem?
 intro j
 by_cases hj : j < l.length * 2
 · have hj2 : j < d.size * 2 := by omega
   rw [List.getElem?_take_of_lt hj, Array.getElem?_toList, Array.getElem?_toList]
   simp [Sort.putCells, hj2, show j < cur.size by omega]
 · rw [List.getElem?_take_eq_none (by omega), List.getElem?_eq_none (by simp; omega)]
theorem perm_of {l : List (Int × Int)} {d : Array (Int × Int)} (h : Sort.PermIn 0 l.toArray.size l.toArray d) : d.size = l.length ∧ d.toList.Perm l := by
 obtain ⟨h1, _, h3⟩ := h
 have hs : d.size = l.length := by simpa using h1
 refine ⟨hs, ?_⟩
 have e1 : d.extract 0 l.toArray.size = d := by
  rw [show l.toArray.size = d.size by simpa using hs.symm]; simp
 have e2 : l.toArray.extract 0 l.toArray.size = l.toArray := by simp
 rw [e1, e2] at h3
 simpa using h3
end Go.Proofs.YtfkmajjgkdjncaaGreatDoor

set_option maxHeartbeats 1000000
namespace Go.Proofs.YtfkmajjgkdjncaaGreatDoor
open Go.RowKit Ru Go.Sort
def cmpI (x y : Int) : Int := if x < y then -1 else if y < x then 1 else 0
theorem ret_int' {k : IntKind} {a b : Int} (h : a = b) : Ending.returned (.int k a) = .returned (.int k b) := by rw [h]
theorem isNaN_any (x : Int) (w : World) : Calls Tryz.prog 230 #[.int .i32 x] w fun e w' => e = .returned (.bool false) ∧ w = w' := by
 go_enter Tryz.func230, Tryz.ntmps230
 go_wp2
 go_ret
 exact ⟨ret_bool (by simp), rfl⟩
theorem compare_any (x y : Int) (w : World) : Calls Tryz.prog 208 #[.int .i32 x, .int .i32 y] w fun e w' => e = .returned (.int .i64 (cmpI x y)) ∧ w = w' := by
 go_enter Tryz.func208, Tryz.ntmps208
 by_cases h1 : x < y
 · go_wp2_with (go_at_call 230; refine (isNaN_any _ _).mono ?_; rintro e w' ⟨rfl, rfl⟩)
   go_ret
   exact ⟨ret_int' (by unfold cmpI; (repeat' split) <;> omega), rfl⟩
 · by_cases h2 : y < x
   · go_wp2_with (go_at_call 230; refine (isNaN_any _ _).mono ?_; rintro e w' ⟨rfl, rfl⟩)
     go_ret
     exact ⟨ret_int' (by unfold cmpI; (repeat' split) <;> omega), rfl⟩
   · go_wp2_with (go_at_call 230; refine (isNaN_any _ _).mono ?_; rintro e w' ⟨rfl, rfl⟩)
     go_ret
     exact ⟨ret_int' (by unfold cmpI; (repeat' split) <;> omega), rfl⟩
theorem joined1_any (x y : Int × Int) (w : World) : Calls Tryz.prog 207 #[.agg #[.int .i32 x.1, .int .i32 x.2], .agg #[.int .i32 y.1, .int .i32 y.2]] w fun e w' => e = .returned (.int .i64 (cmpI x.1 y.1)) ∧ ∃ q os, w' = grow (w.drewN q) os := by
 go_enter Tryz.func207, Tryz.ntmps207
 go_wp2_with (go_at_call 208; refine (compare_any _ _ _).mono ?_; rintro e w' ⟨rfl, rfl⟩)
 go_ret
 exact ⟨rfl, 0, _, by rw [alloc_eq_grow, alloc_eq_grow, grow_grow]; rfl⟩
theorem lt_cmp (x y : Int × Int) : ltOf (fun x y : Int × Int => cmpI x.1 y.1) x y = decide (x.1 < y.1) := by
 unfold ltOf cmpI
 by_cases h1 : x.1 < y.1
 · simp [h1]
 · by_cases h2 : y.1 < x.1 <;> simp [h1, h2]
theorem swo_cmp : Sort.SWO (ltOf fun x y : Int × Int => cmpI x.1 y.1) where
 irrefl x := by rw [lt_cmp]; simp
 trans x y z h1 h2 := by rw [lt_cmp] at *; simp at *; omega
 ntrans x y z h1 h2 := by rw [lt_cmp] at *; simp at *; omega
theorem sorted_of {d : Array (Int × Int)} {n : Nat} (hn : d.size = n) (h : Sort.SortedIn (ltOf fun x y : Int × Int => cmpI x.1 y.1) 0 n d) : Sorted d.toList := by
 intro i j hij hj
 have hj' : j < d.size := by simpa using hj
 have h1 := h i j (Nat.zero_le _) hij (by omega)
 rw [lt_cmp] at h1
 have e1 : d.toList.getD i (0, 0) = d[i]! := by rw [getElem!_pos d i (by omega)]; simp [List.getD, show i < d.size by omega]
 have e2 : d.toList.getD j (0, 0) = d[j]! := by rw [getElem!_pos d j hj']; simp [List.getD, hj']
 rw [e1, e2]
 simp at h1; omega
theorem sortRanges (l : List Pc) (v : Value) (base : Nat) (w : World) (hown : w.ownsRow base 79 2 v l.length (flatK .i32 l)) (hn : l.length ≤ 100000) :
 Calls Tryz.prog 206 #[v, .func (.func 207) #[] #[]] w fun e w' => e = .returned (.tuple #[]) ∧ ∃ d : List Pc, d.Perm l ∧ Sorted d ∧ w'.ownsRow base 79 2 v l.length (flatK .i32 d) ∧ w.grownBy w' v.ownBlock := by
 rcases hown.2 with ⟨rfl, h0⟩ | ⟨g, cap, cur, rfl, hbase, hb, h1, h2, h3, h4⟩
 · have hcon := AnyF.slices_SortFunc_none (P := Tryz.prog) Tryz.sortR none 0 (.func (.func 207) #[] #[]) w
   change Calls Tryz.prog 206 _ _ _ at hcon
   refine hcon.mono fun e w' ⟨he, hw⟩ => ?_
   subst hw
   have hl : l = [] := List.eq_nil_of_length_eq_zero h0
   subst hl
   exact ⟨he, [], List.Perm.refl _, fun i j _ hj => by simp at hj, hown, World.grownBy.refl _ _⟩
 · have eg : ∀ args w, (callFunc 207 args).run Tryz.prog w = .ok (.enter 207 args) w := enters_of Tryz.func207 (by kernel_rfl) rfl
   have hcon := AnyQ.slices_SortFunc Tryz.sortR 2 Tryz.isAgg79 Tryz.sizeOf79 encP (fun _ => rfl) (fun x v hv => by simp [encP] at hv; rcases hv with rfl | rfl <;> rfl) (fun x y => cmpI x.1 y.1) swo_cmp 207 #[] g 0 cap l.toArray w eg (fun _ _ _ _ x y => joined1_any x y _) (holdsP hb h4) (Array.getElem?_eq_some_iff.1 hb).1 (by simp; omega)
   change Calls Tryz.prog 206 _ _ _ at hcon
   have e : l.toArray.size = l.length := by simp
   rw [e] at hcon
   refine hcon.mono fun e w' ⟨he, d', n, os, hp, hs, hw⟩ => ?_
   subst hw
   obtain ⟨p1, p2⟩ := perm_of (by simpa using hp)
   exact ⟨he, d'.toList, p2, sorted_of p1 hs, ownsRow_sortedP p1 hbase hb h1 h2 h3, grownBy_sortedP d'⟩
end Go.Proofs.YtfkmajjgkdjncaaGreatDoor

set_option maxHeartbeats 4000000
set_option maxRecDepth 1000000
namespace Go.Proofs.YtfkmajjgkdjncaaGreatDoor
open Go.RowKit Ru
theorem infoRange : ∃ i, Tryz.prog.info? 79 = some i ∧ i.zero = some (.agg #[.int .i32 0, .int .i32 0]) ∧ i.size = 2 ∧ i.bytes = 8 := info_parts (by kernel_rfl)
theorem Row.form {w : World} {v : Value} {n : Nat} {cs : List Value} (h : Row w v n cs) : ∃ o c, v = .slice o n c := by obtain ⟨o, c, e, _⟩ := h; exact ⟨o, c, e⟩
theorem iwrap {x : Int} (h : -9223372036854775808 ≤ x ∧ x ≤ 9223372036854775807) : IntKind.i64.wrap x = x := IntWalk.i64_in _ h
theorem rowNew2 (w : World) (u v : Value) (e : TypeId) (B : Nat) (hB : w.heap.size = B) : Row (w.alloc (.cells #[u, v] e)) (.slice (some ⟨B, 0, none⟩) 1 1) 1 [u, v] := by
 subst hB
 have h1 := World.ownsRow_lit (e := e) (base := w.heap.size) (size := 2) w #[u, v] 1 (Nat.le_refl _) (by decide) (by simp)
 simpa using Row.owned h1
theorem owns_drewN {w : World} {base : Nat} {e : TypeId} {size n : Nat} {v : Value} {xs : List Value} (h : w.ownsRow base e size v n xs) (q : Nat) : (w.drewN q).ownsRow base e size v n xs := owns_below h (below_drewN (Below.refl _ _) q)
namespace Ru
def bhd (r : Int) : Int := if r = 55295 then 57344 else r + 1
def ahd (r : Int) : Int := if r = 57344 then 55295 else r - 1
theorem bhd_vlu {p : Int} (h : 0 ≤ p) : bhd (vlu p) = vlu (p + 1) := by unfold bhd vlu; repeat' split <;> omega
theorem ahd_vlu {p : Int} (h : 1 ≤ p) : ahd (vlu p) = vlu (p - 1) := by unfold ahd vlu; repeat' split <;> omega
def Okr (l : List Pc) : Prop := ∀ x ∈ l, x.1 ≤ x.2 ∧ scal x.1 = true ∧ scal x.2 = true
theorem okr_pc {x : Pc} (h : x.1 ≤ x.2 ∧ scal x.1 = true ∧ scal x.2 = true) : pcOf x = (plc x.1, plc x.2 + 1) ∧ plc x.1 < plc x.2 + 1 ∧ vlu (plc x.1) = x.1 ∧ vlu (plc x.2) = x.2 ∧ 0 ≤ plc x.1 ∧ plc x.2 + 1 ≤ 1112064 := by
 have h1 := plc_mono h.1
 have h2 := plc_range x.1
 have h3 := plc_scal h.2.2
 exact ⟨by unfold pcOf; rw [if_pos h.2.2], by omega, vlu_plc h.2.1, vlu_plc h.2.2, h2.1, by omega⟩
theorem raw_okr {l : List Pc} (h : Okr l) : raw l = l.map pcOf := by
 unfold raw
 rw [List.filter_eq_self]
 intro q hq
 obtain ⟨x, hx, rfl⟩ := List.mem_map.1 hq
 have := okr_pc (h x hx)
 rw [this.1]
 simp; omega
theorem sorted_pc {d : List Pc} (hs : Sorted d) : Sorted (d.map pcOf) := by
 intro i j hij hj
 rw [List.length_map] at hj
 have h := hs i j hij hj
 have e : ∀ i, i < d.length → (d.map pcOf).getD i (0, 0) = pcOf (d.getD i (0, 0)) := by
  intro i hi; simp [List.getD, List.getElem?_eq_getElem hi]
 rw [e i (by omega), e j hj]
 exact plc_mono h
theorem joined_nrm {l d : List Pc} (hl : Okr l) (hp : d.Perm l) (hs : Sorted d) : rngs (merge (d.map pcOf)) = nrm l := by
 unfold nrm
 rw [merge_pcs l (d.map pcOf) (sorted_pc hs) (fun q => by rw [raw_okr hl]; exact (hp.map pcOf).mem_iff)]
theorem rngs_append (a b : List Pc) : rngs (a ++ b) = rngs a ++ rngs b := by simp [rngs]
theorem rngs_len (P : List Pc) : (rngs P).length = P.length := by simp [rngs]
theorem asc_take {d : List Pc} (hs : Sorted d) (k : Nat) : Sorted (d.take k) := by
 intro i j hij hj
 rw [List.length_take] at hj
 have := hs i j hij (by omega)
 simpa [List.getD, List.getElem?_take, show i < k by omega, show j < k by omega] using this
theorem merge_pos {d : List Pc} (hd : Okr d) (hs : Sorted d) (k : Nat) : ∀ q ∈ merge ((d.take k).map pcOf), 0 ≤ q.1 ∧ q.1 < q.2 ∧ q.2 ≤ 1112064 := by
 have h1 := merge_nf (Sorted.asc (sorted_pc (asc_take hs k))) (by
  intro q hq
  obtain ⟨x, hx, rfl⟩ := List.mem_map.1 hq
  have := okr_pc (hd x (List.mem_of_mem_take hx))
  rw [this.1]; simp only; omega)
 intro q hq
 have := h1.1.pos q hq
 exact ⟨by omega, this.2, h1.2.1 q hq⟩
end Ru
theorem behind_still (r : Int) (w : World) (h : 0 ≤ r ∧ r ≤ 1114111) : Calls Tryz.prog 209 #[.int .i32 r] w fun e w' => e = .returned (.int .i32 (bhd r)) ∧ w' = w := by
 by_cases h1 : r = 55295
 · subst h1
   go_enter Tryz.func209, Tryz.ntmps209
   go_wp2
   go_ret
   exact ⟨rfl, rfl⟩
 · have t : (r == 55295) = false := by simpa using h1
   have e : bhd r = r + 1 := by unfold bhd; rw [if_neg h1]
   have E := Lib.hid e
   clear e h1
   go_enter Tryz.func209, Tryz.ntmps209
   go_wp2
   go_ret
   exact ⟨by rw [E.out]; rfl, rfl⟩
theorem ahead_still (r : Int) (w : World) (h : 0 ≤ r ∧ r ≤ 1114111) : Calls Tryz.prog 210 #[.int .i32 r] w fun e w' => e = .returned (.int .i32 (ahd r)) ∧ w' = w := by
 by_cases h1 : r = 57344
 · subst h1
   go_enter Tryz.func210, Tryz.ntmps210
   go_wp2
   go_ret
   exact ⟨rfl, rfl⟩
 · have t : (r == 57344) = false := by simpa using h1
   have e : ahd r = r - 1 := by unfold ahd; rw [if_neg h1]
   have E := Lib.hid e
   clear e h1
   go_enter Tryz.func210, Tryz.ntmps210
   go_wp2
   go_ret
   exact ⟨by rw [E.out]; rfl, rfl⟩
def JoinPost (l : List Pc) (v : Value) (w : World) (e : Ending) (w' : World) : Prop :=
 ∃ u, e = .returned u ∧ w'.ownsRow w.heap.size 79 2 u (nrm l).length (flatK .i32 (nrm l)) ∧ ∀ b, b ≤ w.heap.size → (∀ j, v.ownBlock = some j → b ≤ j) → Below b w w'
theorem joinedC_any (l : List Pc) (v : Value) (base : Nat) (w : World) (hown : w.ownsRow base 79 2 v l.length (flatK .i32 l)) (hn : l.length ≤ 100000) (hok : Okr l) :
 Calls Tryz.prog 198 #[v] w (JoinPost l v w) := by
 obtain ⟨i0, hi, hz0, hz1, hz2⟩ := infoRange
 have HO := Lib.hid hown
 obtain ⟨ov, cv, rfl⟩ := owns_slice hown
 clear hown
 go_enter Tryz.func198, Tryz.ntmps198
 go_wp2_with fail
 refine (sortRanges l _ base _ HO.out hn).mono ?_
 rintro e w2 ⟨rfl, d, hperm, hsort, hown2, hg2⟩
 have hdl : d.length = l.length := hperm.length_eq
 have hokd : Okr d := fun x hx => hok x (hperm.mem_iff.1 hx)
 have hfin := joined_nrm hok hperm hsort
 have H0 := Lib.hid (And.intro hfin (And.intro hg2 (And.intro hokd hsort)))
 rw [← hdl] at hown2 hn ⊢
 have HR := Lib.hid (Row.owned hown2)
 clear hown2 hfin hg2 hokd hsort hperm hdl hok HO
 go_wp2_with fail
 obtain ⟨B, hB⟩ : ∃ B, B = w2.heap.size := ⟨_, rfl⟩
 have HB := Lib.hid hB
 have hBw := hB
 go_loopw [3, 11] (fun u i wr => ∃ k : Nat, k ≤ d.length ∧ i = .int .i64 k ∧ wr.ownsRow B 79 2 u (rngs (merge ((d.take k).map pcOf))).length (flatK .i32 (rngs (merge ((d.take k).map pcOf)))) ∧ Below B w2 wr)
  (fun _ i _ => d.length - (intOf i).toNat)
 case atStart => exact ⟨0, Nat.zero_le _, rfl, World.ownsRow_nil _ _ _ _, Below.refl _ _⟩
 case round =>
  obtain ⟨k, hk, rfl, hown, hbel⟩ := hrel
  have hBs : B ≤ wr.heap.size := by rw [hB]; exact hbel.size
  by_cases hk2 : k < d.length
  · obtain ⟨b, off, cap', e, hlt⟩ := HR.out.head (by omega)
    simp only [Value.slice.injEq, true_and] at e
    obtain ⟨rfl, rfl⟩ := e
    obtain ⟨_, c1, c2⟩ := HR.out.pair hk2 rfl
    have hltB : b < B := by rw [hB]; exact hlt
    rw [← hbel.cell hltB] at c1 c2
    have hs : (d.take (k + 1)).map pcOf = (d.take k).map pcOf ++ [pcOf (d.getD k (0, 0))] := by rw [take_one d (0, 0) k hk2]; simp
    obtain ⟨x, hx⟩ : ∃ x, x = d.getD k (0, 0) := ⟨_, rfl⟩
    have hxo := okr_pc (H0.out.2.2.1 x (by rw [hx]; simp [List.getD, List.getElem?_eq_getElem hk2]))
    have hxr : 0 ≤ x.1 ∧ x.1 ≤ 1114111 ∧ 0 ≤ x.2 ∧ x.2 ≤ 1114111 := by
     have := H0.out.2.2.1 x (by rw [hx]; simp [List.getD, List.getElem?_eq_getElem hk2])
     have h1 := (scal_iff _).1 this.2.1; have h2 := (scal_iff _).1 this.2.2; omega
    rw [← hx] at c1 c2 hs
    have hml := merge_len ((d.take k).map pcOf)
    rw [List.length_map, List.length_take] at hml
    have hpos := merge_pos H0.out.2.2.1 H0.out.2.2.2 k
    have Hs := Lib.hid hs
    obtain ⟨A, hA⟩ : ∃ A, A = (d.take k).map pcOf := ⟨_, rfl⟩
    have hA0 : A = [] → k = 0 := by intro h; rw [hA] at h; have := congrArg List.length h; rw [List.length_map, List.length_take, List.length_nil] at this; omega
    rw [← hA] at hown hml hpos Hs
    obtain ⟨lo, hi'⟩ := x
    simp only at c1 c2 hxo hxr
    have HX := Lib.hid hxo
    clear hxo hs hx
    by_cases hk0 : k = 0
    · have hA0' : A = [] := by rw [hA, hk0]; rfl
      subst hA0'
      have HK := Lib.hid hk0
      clear hk0 hA hA0 hpos
      obtain ⟨o7, c7, rfl⟩ := (Row.owned hown).form
      have hnil : (rngs (merge ([] : List Pc))).length = 0 := rfl
      rw [hnil] at hown ⊢
      go_wp2_with fail
      go_quiet (fail)
      have f1 := owns_drewN (hown.alloc (.cells #[.int .i32 lo, .int .i32 hi'] 79)) nq
      have f2 : Below B w2 ((wr.alloc (.cells #[.int .i32 lo, .int .i32 hi'] 79)).drewN nq) := below_drewN (hbel.alloc hBs _) nq
      have f3 : ((wr.alloc (.cells #[.int .i32 lo, .int .i32 hi'] 79)).drewN nq).cell? ⟨wr.heap.size, 0, none⟩ = some (.int .i32 lo) := by simp
      have f4 : ((wr.alloc (.cells #[.int .i32 lo, .int .i32 hi'] 79)).drewN nq).cell? ⟨wr.heap.size, 1, none⟩ = some (.int .i32 hi') := by simp
      generalize hwq : (wr.alloc (.cells #[.int .i32 lo, .int .i32 hi'] 79)).drewN nq = wq at f1 f2 f3 f4 ⊢
      have f5 : B ≤ wq.heap.size := by rw [hB]; exact f2.size
      clear hwq hown hbel
      go_wp2_with (at_builtin; go_loud (refine wpList_append_row _ rfl _ _ 32 rfl B 79 i0 (.agg #[.int .i32 0, .int .i32 0]) 2 8 Tryz.underlying32 hi hz0 hz1 hz2 rfl (by decide) _ _ _ rfl (f1.alloc _) _ 1 [.int .i32 lo, .int .i32 hi'] rfl (rowNew2 _ _ _ _ wq.heap.size rfl) rfl (by simp [Value.oneCell']) (by unfold maxLen; omega) (by omega) (by simp; omega) ?_); intro v' w3 hown3 hgrow3)
      have hB3 : Below B w2 w3 := (f2.alloc f5 _).grown hgrow3 (by simp; omega) (fun j hj => (f1.lt j hj).1)
      have H1 := Lib.hid (And.intro hown3 hB3)
      clear hown3 hgrow3 hB3 f1 f2 f3 f4
      go_roundw
      case rel =>
       refine ⟨k + 1, by omega, by go_num, ?_, H1.out.2⟩
       have h := H1.out.1
       have e9 : rngs (merge ([] ++ [pcOf (lo, hi')])) = [(lo, hi')] := by
        obtain ⟨q1, q2, q3, q4, _⟩ := HX.out
        rw [q1]; show [(vlu (plc lo), vlu (plc hi' + 1 - 1))] = _
        rw [show plc hi' + 1 - 1 = plc hi' by omega, q3, q4]
       rw [Hs.out, e9]
       exact h
      case measure => simp [intOf] <;> omega
    · have hne : A ≠ [] := fun h => hk0 (hA0 h)
      obtain ⟨t, q, e1, e2⟩ := merge_snoc A (pcOf (lo, hi')) hne
      obtain ⟨qa, qc⟩ := q
      have hq := hpos (qa, qc) (by rw [e1]; simp)
      simp only at hq
      rw [e1] at hown hml
      have e3 : (rngs (t ++ [(qa, qc)])).length = t.length + 1 := by rw [rngs_len]; simp
      obtain ⟨sq, hsq⟩ : ∃ sq, sq = vlu (qc - 1) := ⟨_, rfl⟩
      have hsr := vlu_range (p := qc - 1) (by omega) (by omega)
      rw [← hsq] at hsr
      obtain ⟨bq, hbq⟩ : ∃ bq, bq = vlu qc := ⟨_, rfl⟩
      have hbs : bhd sq = bq := by rw [hsq, bhd_vlu (by omega), hbq]; congr 1; omega
      have hbr : 0 ≤ bq ∧ bq ≤ 1114112 := by rw [hbq]; unfold vlu; split <;> omega
      have e4 : (flatK .i32 (rngs (t ++ [(qa, qc)])))[t.length * 2 + 1]? = some (.int .i32 sq) := by
       have := (flatK_at .i32 (rngs (t ++ [(qa, qc)])) t.length (by rw [e3]; omega)).2
       rw [rngs_append, show t.length = (rngs t).length from (rngs_len t).symm] at this
       rw [rngs_append, show t.length = (rngs t).length from (rngs_len t).symm, hsq]
       rw [this]
       congr 2
       show ((rngs t ++ [(vlu qa, vlu (qc - 1))]).getD (rngs t).length (0, 0)).2 = _
       rw [getD_snoc]
      have hcall : ∀ w, Calls Tryz.prog 209 #[.int .i32 sq] w fun e w' => e = .returned (.int .i32 bq) ∧ w' = w := fun w => by have := behind_still sq w hsr; rwa [hbs] at this
      obtain ⟨g, c7, rfl⟩ := Joins.ownsRow_form hown (by rw [e3]; omega)
      have e5 := hown
      rw [e3] at e5
      have hml : t.length + 1 ≤ k := by rw [List.length_append] at hml; simp at hml; omega
      obtain ⟨m, hm⟩ : ∃ m, m = t.length := ⟨_, rfl⟩
      obtain ⟨X, hX⟩ : ∃ X, X = flatK .i32 (rngs (t ++ [(qa, qc)])) := ⟨_, rfl⟩
      rw [← hm, ← hX] at e5
      rw [← hm, ← hX] at e4
      rw [← hm] at hml
      rw [e3, ← hm]
      have hlev : lo ≤ bq ↔ (pcOf (lo, hi')).1 ≤ qc := by
       obtain ⟨q1, q2, q3, q4, _⟩ := HX.out
       rw [q1, hbq]
       show lo ≤ vlu qc ↔ plc lo ≤ qc
       rw [vlu_mono (p := plc lo), q3]
      have hmaxv : max sq hi' = vlu (max qc (pcOf (lo, hi')).2 - 1) := by
       obtain ⟨q1, q2, q3, q4, _⟩ := HX.out
       rw [q1, hsq, ← q4]
       simp only
       by_cases h : qc ≤ plc hi' + 1
       · have h2 := (vlu_mono (p := qc - 1) (q := plc hi')).1 (by omega)
         rw [q4] at h2 ⊢
         rw [show max qc (plc hi' + 1) - 1 = plc hi' by omega, q4]; omega
       · have h2 := (vlu_mono (p := plc hi') (q := qc - 1)).1 (by omega)
         rw [q4] at h2 ⊢
         rw [show max qc (plc hi' + 1) - 1 = qc - 1 by omega]; omega
      have HM := Lib.hid (And.intro e2 (And.intro hm (And.intro hX (And.intro hlev (And.intro hmaxv hsq)))))
      have HC := Lib.hid hcall
      clear e1 e2 e3 hm hX hown hA hA0 hpos hne hsq hbq hbs hlev hmaxv hcall hq
      have hg := (e5.lt g rfl).2
      by_cases hle : lo ≤ bq
      · have g1 : wr.cell? ⟨g, m * 2 + 1, none⟩ = some (.int .i32 sq) := by
         rw [e5.cellAt _ (by omega)]; exact e4
        go_wp2_with fail
        have hw1 : IntKind.i64.wrap (m : Int) = (m : Int) := iwrap (by omega)
        have hw3 : (0 : Int) ≤ (m : Int) := by omega
        have hw4 : (m : Int) < (m : Int) + 1 := by omega
        go_quiet ((go_at_call 209; exact Calls.quiet_of_same (HC.out _)))
        have f1 := owns_drewN (e5.alloc (.cells #[.int .i32 lo, .int .i32 hi'] 79)) nq
        have f2 : Below B w2 ((wr.alloc (.cells #[.int .i32 lo, .int .i32 hi'] 79)).drewN nq) := below_drewN (hbel.alloc hBs _) nq
        have f3 : ((wr.alloc (.cells #[.int .i32 lo, .int .i32 hi'] 79)).drewN nq).cell? ⟨wr.heap.size, 0, none⟩ = some (.int .i32 lo) := by simp
        have f4 : ((wr.alloc (.cells #[.int .i32 lo, .int .i32 hi'] 79)).drewN nq).cell? ⟨wr.heap.size, 1, none⟩ = some (.int .i32 hi') := by simp
        generalize hwq : (wr.alloc (.cells #[.int .i32 lo, .int .i32 hi'] 79)).drewN nq = wq at f1 f2 f3 f4 ⊢
        have f5 : B ≤ wq.heap.size := by rw [hB]; exact f2.size
        have f6 : wq.cell? ⟨g, m * 2 + 1, none⟩ = some (.int .i32 sq) := by
         rw [f1.cellAt _ (by omega)]; exact e4
        have f7 := f1.frozenAt (m * 2 + 1)
        clear hwq hbel e5 g1
        go_wp2_with fail
        have hw1 : IntKind.i64.wrap (m : Int) = (m : Int) := iwrap (by omega)
        refine still_tail 14 (by kernel_rfl) (by kernel_rfl) ?_
        simp only [List.take_succ_cons, List.take_zero, List.drop_succ_cons, List.drop_zero]
        repeat (first | still_step)
        refine wpStill_nil ?_
        go_wp2_with fail
        have hs1 := (f1.stored (m * 2 + 1) (.int .i32 (max sq hi'))).1
        have hB3 : Below B w2 (wq.setCell ⟨g, m * 2 + 1, none⟩ (.int .i32 (max sq hi'))).drew := (f2.setCell (p := ⟨g, m * 2 + 1, none⟩) (f1.lt g rfl).1 _).drew
        have H1 := Lib.hid (And.intro hs1.drew hB3)
        clear hs1 hB3 f1 f2 f3 f4 f6 f7
        go_roundw
        case rel =>
         refine ⟨k + 1, by omega, by go_num, ?_, H1.out.2⟩
         have h := H1.out.1
         obtain ⟨k2, k3, k4, k5, k6, k7⟩ := HM.out
         have e9 : (rngs (t ++ [(qa, max qc (pcOf (lo, hi')).2)])).length = m + 1 := by rw [rngs_len]; simp; omega
         have e10 : X.set (m * 2 + 1) (.int .i32 (max sq hi')) = flatK .i32 (rngs (t ++ [(qa, max qc (pcOf (lo, hi')).2)])) := by
          rw [k4, k3, rngs_append, rngs_append, show t.length = (rngs t).length from (rngs_len t).symm]
          show (flatK .i32 (rngs t ++ [(vlu qa, vlu (qc - 1))])).set _ _ = flatK .i32 (rngs t ++ [(vlu qa, vlu (max qc (pcOf (lo, hi')).2 - 1))])
          rw [flatK_last, k6]
         rw [Hs.out, k2, if_pos (k5.1 hle), e9, ← e10]
         exact h
        case measure => simp [intOf] <;> omega
      · have g1 : wr.cell? ⟨g, m * 2 + 1, none⟩ = some (.int .i32 sq) := by
         rw [e5.cellAt _ (by omega)]; exact e4
        go_wp2_with fail
        have hw1 : IntKind.i64.wrap (m : Int) = (m : Int) := iwrap (by omega)
        have hw3 : (0 : Int) ≤ (m : Int) := by omega
        have hw4 : (m : Int) < (m : Int) + 1 := by omega
        go_quiet ((go_at_call 209; exact Calls.quiet_of_same (HC.out _)))
        have f1 := owns_drewN (e5.alloc (.cells #[.int .i32 lo, .int .i32 hi'] 79)) nq
        have f2 : Below B w2 ((wr.alloc (.cells #[.int .i32 lo, .int .i32 hi'] 79)).drewN nq) := below_drewN (hbel.alloc hBs _) nq
        have f3 : ((wr.alloc (.cells #[.int .i32 lo, .int .i32 hi'] 79)).drewN nq).cell? ⟨wr.heap.size, 0, none⟩ = some (.int .i32 lo) := by simp
        have f4 : ((wr.alloc (.cells #[.int .i32 lo, .int .i32 hi'] 79)).drewN nq).cell? ⟨wr.heap.size, 1, none⟩ = some (.int .i32 hi') := by simp
        generalize hwq : (wr.alloc (.cells #[.int .i32 lo, .int .i32 hi'] 79)).drewN nq = wq at f1 f2 f3 f4 ⊢
        have f5 : B ≤ wq.heap.size := by rw [hB]; exact f2.size
        have hXl : X.length = (m + 1) * 2 := f1.1
        clear hwq hbel e5 g1 hw1 hw3 hw4
        go_wp2_with (at_builtin; refine wpList_append_row _ rfl _ _ 32 rfl B 79 i0 (.agg #[.int .i32 0, .int .i32 0]) 2 8 Tryz.underlying32 hi hz0 hz1 hz2 rfl (by decide) _ _ _ rfl (f1.alloc _) _ 1 [.int .i32 lo, .int .i32 hi'] rfl (rowNew2 _ _ _ _ wq.heap.size rfl) rfl (by simp [Value.oneCell']) (by unfold maxLen; omega) (by omega) (by simp; omega) ?_; intro v' w3 hown3 hgrow3)
        have hB3 : Below B w2 w3 := (f2.alloc f5 _).grown hgrow3 (by simp; omega) (fun j hj => (f1.lt j hj).1)
        have H1 := Lib.hid (And.intro hown3 hB3)
        clear hown3 hgrow3 hB3 f1 f2 f3 f4 hXl
        go_roundw
        case rel =>
         refine ⟨k + 1, by omega, by go_num, ?_, H1.out.2⟩
         have h := H1.out.1
         obtain ⟨k2, k3, k4, k5, k6, k7⟩ := HM.out
         have e8 : rngs (t ++ [(qa, qc), pcOf (lo, hi')]) = rngs (t ++ [(qa, qc)]) ++ [(lo, hi')] := by
          obtain ⟨q1, q2, q3, q4, _⟩ := HX.out
          rw [show t ++ [(qa, qc), pcOf (lo, hi')] = (t ++ [(qa, qc)]) ++ [pcOf (lo, hi')] by simp, rngs_append]
          congr 1
          rw [q1]; show [(vlu (plc lo), vlu (plc hi' + 1 - 1))] = _
          rw [show plc hi' + 1 - 1 = plc hi' by omega, q3, q4]
         rw [Hs.out, k2, if_neg (fun h2 => by have := k5.2 h2; omega), e8, List.length_append, flatK_append]
         have e9 : (rngs (t ++ [(qa, qc)])).length + [(lo, hi')].length = m + 1 + 1 := by rw [rngs_len]; simp; omega
         rw [e9, ← k4]
         exact h
        case measure => simp [intOf] <;> omega
  · have hkn : k = d.length := by omega
    subst hkn
    rw [List.take_length, H0.out.1] at hown
    have HW := Lib.hid (And.intro hown hbel)
    clear hown hbel
    obtain ⟨ou, cu, rfl⟩ := owns_slice HW.out.1
    go_wp2
    go_ret
    have hg2 := H0.out.2.1
    refine ⟨_, rfl, owns_base HW.out.1 (by rw [hB]; exact hg2.size), fun b hb hr => ?_⟩
    have h1 : Below b w w2 := (Below.refl b w).grown hg2 hb hr
    exact h1.trans (HW.out.2.mono (by rw [hB]; exact Nat.le_trans hb hg2.size))
end Go.Proofs.YtfkmajjgkdjncaaGreatDoor

set_option maxHeartbeats 4000000
set_option maxRecDepth 1000000
namespace Go.Proofs.YtfkmajjgkdjncaaGreatDoor
open Go.RowKit Ru
namespace Ru
def stepN (s : List Pc × Int) (p : Pc) : List Pc × Int := (if s.2 < p.1 then s.1 ++ [(s.2, p.1)] else s.1, p.2)
def endN (s : List Pc × Int) : List Pc := if s.2 < 1112064 then s.1 ++ [(s.2, 1112064)] else s.1
theorem cpl_fold : ∀ (P : List Pc) (Q : List Pc) (f : Int), endN (P.foldl stepN (Q, f)) = Q ++ cpl f P
 | [], Q, f => by
  show (if f < 1112064 then Q ++ [(f, 1112064)] else Q) = Q ++ (if f < 1112064 then [(f, 1112064)] else [])
  by_cases h : f < 1112064 <;> simp [h]
 | p :: P, Q, f => by
  rw [List.foldl_cons, show stepN (Q, f) p = (if f < p.1 then Q ++ [(f, p.1)] else Q, p.2) from rfl, cpl_fold P]
  simp only [cpl]
  split <;> simp
theorem fold_len : ∀ (P : List Pc) (s : List Pc × Int), (P.foldl stepN s).1.length ≤ s.1.length + P.length
 | [], s => by simp
 | p :: P, s => by
  have := fold_len P (stepN s p)
  have h : (stepN s p).1.length ≤ s.1.length + 1 := by unfold stepN; simp only; split <;> simp
  simp only [List.foldl_cons, List.length_cons]; omega
theorem fold_take (P : List Pc) (s : List Pc × Int) (k : Nat) (h : k < P.length) : (P.take (k + 1)).foldl stepN s = stepN ((P.take k).foldl stepN s) (P.getD k (0, 0)) := by
 rw [take_one P (0, 0) k h, List.foldl_append]; rfl
theorem fold_snd (P : List Pc) (k : Nat) (hp : ∀ q ∈ P, 0 ≤ q.1 ∧ q.1 < q.2 ∧ q.2 ≤ 1112064) : 0 ≤ ((P.take k).foldl stepN ([], 0)).2 ∧ ((P.take k).foldl stepN ([], 0)).2 ≤ 1112064 := by
 rcases List.eq_nil_or_concat (P.take k) with h | ⟨A, q, h⟩
 · rw [h]; simp
 · rw [h, List.concat_eq_append, List.foldl_append]
   have hq := hp q (List.mem_of_mem_take (by rw [h]; simp : q ∈ P.take k))
   simp only [List.foldl_cons, List.foldl_nil, stepN]
   omega
theorem vlu_lt {p q : Int} : p < q ↔ vlu p < vlu q := by
 have := vlu_mono (p := q) (q := p)
 omega
end Ru
def RestPost (P : List Pc) (w : World) (e : Ending) (w' : World) : Prop :=
 ∃ u, e = .returned u ∧ w'.ownsRow w.heap.size 79 2 u (cpl 0 P).length (flatK .i32 (rngs (cpl 0 P))) ∧ Below w.heap.size w w'
theorem rest_any (P : List Pc) (v : Value) (w : World) (hr : Row w v P.length (flatK .i32 (rngs P))) (hn : P.length ≤ 100000) (hp : ∀ q ∈ P, 0 ≤ q.1 ∧ q.1 < q.2 ∧ q.2 ≤ 1112064) :
 Calls Tryz.prog 199 #[v] w (RestPost P w) := by
 obtain ⟨i0, hi, hz0, hz1, hz2⟩ := infoRange
 have HR := Lib.hid hr
 have HP := Lib.hid hp
 obtain ⟨o, cap, rfl, hcap, hmax, _⟩ := hr
 clear hp
 go_enter Tryz.func199, Tryz.ntmps199
 go_wp2_with fail
 go_loopw [3, 4, 9] (fun u f i wr => ∃ k : Nat, k ≤ P.length ∧ i = .int .i64 k ∧ f = .int .i32 (vlu ((P.take k).foldl stepN ([], 0)).2) ∧ wr.ownsRow w.heap.size 79 2 u ((P.take k).foldl stepN ([], 0)).1.length (flatK .i32 (rngs ((P.take k).foldl stepN ([], 0)).1)) ∧ Below w.heap.size w wr)
  (fun _ _ i _ => P.length - (intOf i).toNat)
 case atStart => exact ⟨0, Nat.zero_le _, rfl, rfl, World.ownsRow_nil _ _ _ _, Below.refl _ _⟩
 case round =>
  obtain ⟨k, hk, rfl, rfl, hown, hbel⟩ := hrel
  obtain ⟨wo, rfl⟩ : ∃ wo : World, wo = wr := ⟨_, rfl⟩
  have hfl := fold_len (P.take k) ([], 0)
  have hfs := fold_snd P k HP.out
  rw [List.length_take, List.length_nil, Nat.zero_add] at hfl
  have hmin := Nat.min_le_right k P.length
  by_cases hk2 : k < P.length
  · obtain ⟨b, off, cap', e, hlt⟩ := HR.out.head (by omega)
    simp only [Value.slice.injEq, true_and] at e
    obtain ⟨rfl, rfl⟩ := e
    obtain ⟨_, c1, c2⟩ := HR.out.pair (by rw [rngs_len]; exact hk2) (rngs_len P).symm
    have hg : (rngs P).getD k (0, 0) = (vlu (P.getD k (0, 0)).1, vlu ((P.getD k (0, 0)).2 - 1)) := by
     simp [rngs, List.getD, List.getElem?_eq_getElem hk2]
    have hft := fold_take P ([], 0) k hk2
    have hq := HP.out (P.getD k (0, 0)) (by simp [List.getD, List.getElem?_eq_getElem hk2])
    rw [hg, ← hbel.cell hlt] at c1 c2
    obtain ⟨S, hS⟩ : ∃ S, S = (P.take k).foldl stepN ([], 0) := ⟨_, rfl⟩
    rw [← hS] at hft hown hfl hfs ⊢
    obtain ⟨Q, f⟩ := S
    obtain ⟨p, hpp⟩ : ∃ p, p = P.getD k (0, 0) := ⟨_, rfl⟩
    rw [← hpp] at hft hq c1 c2
    obtain ⟨pa, pc⟩ := p
    simp only at hft hown hfl hfs hq c1 c2 ⊢
    have hlo := vlu_range (p := pa) (by omega) (by omega)
    have hhi := vlu_range (p := pc - 1) (by omega) (by omega)
    have hlt2 := vlu_lt (p := f) (q := pa)
    have hfb : 0 ≤ vlu f ∧ vlu f ≤ 1114112 := by unfold vlu; split <;> omega
    have hb2 : bhd (vlu (pc - 1)) = vlu pc := by rw [bhd_vlu (by omega)]; congr 1; omega
    have ha2 : f < pa → ahd (vlu pa) = vlu (pa - 1) := fun h => ahd_vlu (by omega)
    obtain ⟨lo, hlo'⟩ : ∃ lo, lo = vlu pa := ⟨_, rfl⟩
    obtain ⟨hi', hhi'⟩ : ∃ hi', hi' = vlu (pc - 1) := ⟨_, rfl⟩
    obtain ⟨fv, hfv⟩ : ∃ fv, fv = vlu f := ⟨_, rfl⟩
    rw [← hlo'] at c1 hlo hlt2 ha2
    rw [← hhi'] at c2 hhi hb2
    rw [← hfv] at hlt2 hfb ⊢
    have hcb := fun w => behind_still hi' w hhi
    have hca := fun w => ahead_still lo w hlo
    rw [hb2] at hcb
    have HCB := Lib.hid hcb
    have HS := Lib.hid (And.intro hS (And.intro hft (And.intro hlo' (And.intro hfv hbel))))
    clear hcb hb2 hS hft hpp hlo' hhi' hfv hg
    obtain ⟨ou, cu, rfl⟩ := owns_slice hown
    by_cases hlt3 : fv < lo
    · have hfa : f < pa := hlt2.2 hlt3
      rw [ha2 hfa] at hca
      have HCA := Lib.hid hca
      clear hca ha2 hlt2
      have hz := hbel.size
      go_wp2_with fail
      refine (HCA.out _).mono ?_
      rintro e w' ⟨rfl, rfl⟩
      go_wp2_with (at_builtin; refine wpList_append_row _ rfl _ _ 32 rfl w.heap.size 79 i0 (.agg #[.int .i32 0, .int .i32 0]) 2 8 Tryz.underlying32 hi hz0 hz1 hz2 rfl (by decide) (.slice ou Q.length cu) Q.length (flatK .i32 (rngs Q)) rfl ?hown _ 1 [.int .i32 fv, .int .i32 (vlu (pa - 1))] rfl ?hrow rfl ?hone ?h63 ?hby ?hbase ?_)
      case hown => exact (hown.alloc _).alloc _
      case hrow => exact rowNew2 _ _ _ _ _ (by simp)
      case hone => simp [Value.oneCell']
      case h63 => unfold maxLen; omega
      case hby => omega
      case hbase => simp <;> omega
      intro v' w2 hown2 hgrow2
      have hx0 : w2.cell? ⟨wo.heap.size, 1, none⟩ = some (.int .i32 hi') := by
       have hb := hgrow2.block wo.heap.size (by simp <;> omega) (fun e => by have := (hown.lt _ e.symm).2; omega)
       unfold World.cell?
       rw [hb, Below.heap_alloc _ _ _ (by simp), heap_alloc_new]; rfl
      have hB2 : Below w.heap.size w w2 := ((hbel.alloc hz _).alloc (by simp <;> omega) _).grown hgrow2 (by simp <;> omega) (fun j hj => (hown.lt j hj).1)
      have H2 := Lib.hid (And.intro hown2 hB2)
      obtain ⟨o2, c2', rfl⟩ := owns_slice hown2
      clear hown2 hB2 hgrow2 hown hbel c1 c2
      go_wp2_with fail
      refine (HCB.out _).mono ?_
      rintro e w' ⟨rfl, rfl⟩
      go_wp2
      go_roundw
      case rel =>
       obtain ⟨k1, k2, k3, k4, k5⟩ := HS.out
       refine ⟨k + 1, by omega, by go_num, by rw [k2]; rfl, ?_, H2.out.2⟩
       rw [k2]
       simp only [stepN, if_pos hfa]
       have h := H2.out.1
       rw [rngs_append, flatK_append, List.length_append, show (rngs [(f, pa)]) = [(fv, vlu (pa - 1))] by rw [k4]; rfl]
       exact h
      case measure => simp [intOf] <;> omega
    · have hfa : ¬ f < pa := fun h => hlt3 (hlt2.1 h)
      have HO := Lib.hid (And.intro hown hbel)
      have hz := hbel.size
      clear hca ha2 hlt2 hown hbel
      go_wp2_with fail
      refine (HCB.out _).mono ?_
      rintro e w' ⟨rfl, rfl⟩
      go_wp2
      go_roundw
      case rel =>
       obtain ⟨k1, k2, k3, k4, k5⟩ := HS.out
       refine ⟨k + 1, by omega, by go_num, by rw [k2]; rfl, ?_, bel_new HO.out.2 _⟩
       rw [k2]
       simp only [stepN, if_neg (Int.not_lt.2 hfa)]
       exact HO.out.1.alloc _
      case measure => simp [intOf] <;> omega
  · have hkn : k = P.length := by omega
    subst hkn
    clear hfl hmin
    have hcf := cpl_fold P [] 0
    rw [List.take_length] at hown hfs ⊢
    have hfl := fold_len P ([], 0)
    rw [List.length_nil, Nat.zero_add] at hfl
    obtain ⟨S, hS⟩ : ∃ S, S = P.foldl stepN ([], 0) := ⟨_, rfl⟩
    rw [← hS] at hcf hown hfl hfs ⊢
    obtain ⟨Q, f⟩ := S
    simp only [List.nil_append] at hown hfl hfs hcf ⊢
    have hlt2 := vlu_lt (p := f) (q := 1112064)
    rw [show vlu 1112064 = 1114112 from rfl] at hlt2
    have hfb : 0 ≤ vlu f ∧ vlu f ≤ 1114112 := by unfold vlu; split <;> omega
    obtain ⟨fv, hfv⟩ : ∃ fv, fv = vlu f := ⟨_, rfl⟩
    rw [← hfv] at hlt2 hfb ⊢
    have HF := Lib.hid (And.intro hcf hfv)
    clear hcf hfv hS
    obtain ⟨ou, cu, rfl⟩ := owns_slice hown
    have hz := hbel.size
    by_cases hend : fv ≤ 1114111
    · have hfa : f < 1112064 := hlt2.2 (by omega)
      clear hlt2
      go_wp2_with (at_builtin; refine wpList_append_row _ rfl _ _ 32 rfl w.heap.size 79 i0 (.agg #[.int .i32 0, .int .i32 0]) 2 8 Tryz.underlying32 hi hz0 hz1 hz2 rfl (by decide) (.slice ou Q.length cu) Q.length (flatK .i32 (rngs Q)) rfl ?hown _ 1 [.int .i32 fv, .int .i32 1114111] rfl ?hrow rfl ?hone ?h63 ?hby ?hbase ?_)
      case hown => exact hown.alloc _
      case hrow => exact rowNew2 _ _ _ _ _ (by simp)
      case hone => simp [Value.oneCell']
      case h63 => unfold maxLen; omega
      case hby => omega
      case hbase => simp <;> omega
      intro v' w2 hown2 hgrow2
      have hB2 : Below w.heap.size w w2 := (hbel.alloc hz _).grown hgrow2 (by simp <;> omega) (fun j hj => (hown.lt j hj).1)
      have H2 := Lib.hid (And.intro hown2 hB2)
      obtain ⟨o2, c2', rfl⟩ := owns_slice hown2
      clear hown2 hB2 hgrow2 hown hbel
      go_wp2
      go_ret
      refine ⟨_, rfl, ?_, H2.out.2⟩
      rw [← HF.out.1]
      simp only [endN, if_pos hfa]
      have h := H2.out.1
      rw [rngs_append, flatK_append, List.length_append, show (rngs [(f, 1112064)]) = [(fv, 1114111)] by rw [HF.out.2]; rfl]
      exact h
    · have hfa : ¬ f < 1112064 := fun h => by have := hlt2.1 h; omega
      have HO := Lib.hid (And.intro hown hbel)
      clear hlt2 hown hbel
      go_wp2
      go_ret
      refine ⟨.slice ou Q.length cu, rfl, ?_, HO.out.2⟩
      rw [← HF.out.1]
      simp only [endN, if_neg (Int.not_lt.2 hfa)]
      exact HO.out.1
end Go.Proofs.YtfkmajjgkdjncaaGreatDoor

set_option maxHeartbeats 1000000
set_option maxRecDepth 1000000
namespace Go.Proofs.YtfkmajjgkdjncaaGreatDoor
open Go.RowKit De
def CatchC (w : World) (p q r : Nat) (a b : Int) (x : Exit) (c : Act) (w' : World) : Prop :=
 x = .normal ∧ c.defers = [] ∧ w'.heap[p]? = some (.cells #[.slice none 0 0] 32 (0, 0)) ∧ w'.heap[q]? = some (.cells #[.int .i64 a] 3 (0, 0)) ∧ w'.heap[r]? = some (.cells #[.int .i64 b] 3 (0, 0)) ∧ ∀ k, k ≤ p → k ≤ q → k ≤ r → k ≤ w.heap.size → Below k w w'
theorem ccatch_panic (p q r : Nat) (a b : Int) (v x y : Value) (w : World)
 (hP : w.heap[p]? = some (.cells #[v] 32 (0, 0))) (hQ : w.heap[q]? = some (.cells #[x] 3 (0, 0))) (hR : w.heap[r]? = some (.cells #[y] 3 (0, 0))) (hpq : p ≠ q) (hqr : q ≠ r) (hpr : p ≠ r) :
 CallsD Tryz.prog 195 #[.pointer (some ⟨p, 0, none⟩), .pointer (some ⟨q, 0, none⟩), .pointer (some ⟨r, 0, none⟩)] (.panicking ({ v := .iface 103 (.agg #[.int .i64 a, .int .i64 b]), recovered := false } :: [])) w fun e u' w' =>
  e = .returned (.tuple #[]) ∧ u' = .panicking ({ v := .iface 103 (.agg #[.int .i64 a, .int .i64 b]), recovered := true } :: []) ∧
  w'.heap[p]? = some (.cells #[.slice none 0 0] 32 (0, 0)) ∧ w'.heap[q]? = some (.cells #[.int .i64 a] 3 (0, 0)) ∧ w'.heap[r]? = some (.cells #[.int .i64 b] 3 (0, 0)) ∧ ∀ k, k ≤ p → k ≤ q → k ≤ r → k ≤ w.heap.size → Below k w w' := by
 have ta : ∀ w, (Instr.typeAssert (.iface 103 (.agg #[.int .i64 a, .int .i64 b])) 20 103 true).run Tryz.prog w = .ok (.tuple #[.agg #[.int .i64 a, .int .i64 b], .bool true]) w := fun w => by kernel_rfl
 obtain ⟨cP, fP⟩ := cell1_of hP
 obtain ⟨cQ, fQ⟩ := cell1_of hQ
 obtain ⟨cR, fR⟩ := cell1_of hR
 refine callsD_of_wpS Tryz.func195 rfl fun c₀ cs hu => ?_
 simp only [Tryz.ntmps195, List.size_toArray, List.length_cons, List.length_nil, Nat.reduceAdd, Nat.reduceSub, Array.replicate_succ, Array.replicate_zero, List.push_toArray, List.append_toArray, List.nil_append, List.cons_append]
 have hrec : recov (c₀ :: cs) = (.iface 103 (.agg #[.int .i64 a, .int .i64 b]), { c₀ with mode := .panicking ({ v := .iface 103 (.agg #[.int .i64 a, .int .i64 b]), recovered := true } :: []) } :: cs) := by
  simp [recov, recoverD, hu]
 apply wpS_seq
 refine wpS_region_recover rfl rfl ?_
 rw [hrec]
 have HU := Lib.hid hu
 clear hrec hu
 have HI := Lib.hid (And.intro hP (And.intro hQ hR))
 have hlt : p < w.heap.size := by rcases Nat.lt_or_ge p w.heap.size with h | h; exact h; simp [h] at hP
 have hlo : q < w.heap.size := by rcases Nat.lt_or_ge q w.heap.size with h | h; exact h; simp [h] at hQ
 have hlf : r < w.heap.size := by rcases Nat.lt_or_ge r w.heap.size with h | h; exact h; simp [h] at hR
 clear hP hQ hR
 go_wp2
 simp only [Exit.thenS]
 refine wpS_of_wp (wp_mono (Q := CatchC w p q r a b) ?_ ?_)
 · go_wp2
   go_region
   obtain ⟨hP, hQ, hR⟩ := HI.out
   refine ⟨rfl, rfl, ?_, ?_, ?_, ?_⟩
   · rw [drew_heap, Below.heap_alloc _ _ _ (by simp [World.setCell]; omega), Below.heap_setCell _ _ _ _ (by simpa using hpr), Below.heap_setCell _ _ _ _ (by simpa using hpq)]
     exact set1 hP _
   · rw [drew_heap, Below.heap_alloc _ _ _ (by simp [World.setCell]; omega), Below.heap_setCell _ _ _ _ (by simpa using hqr)]
     refine set1 (a := x) ?_ _
     rw [Below.heap_setCell _ _ _ _ (by simpa using fun e => hpq e.symm)]
     exact hQ
   · rw [drew_heap, Below.heap_alloc _ _ _ (by simp [World.setCell]; omega)]
     refine set1 (a := y) ?_ _
     rw [Below.heap_setCell _ _ _ _ (by simpa using fun e => hqr e.symm), Below.heap_setCell _ _ _ _ (by simpa using fun e => hpr e.symm)]
     exact hR
   · intro k h1 h2 h3 h4
     exact (((((Below.refl k w).setCell h1 _).setCell h2 _).setCell h3 _).alloc (by simp [World.setCell]; exact h4) _).drew
 · rintro e a w' ⟨rfl, hdf, h1, h2, h3, h4⟩
   refine ⟨hdf, _, rfl, .tuple #[], ?_, rfl, rfl, h1, h2, h3, h4⟩
   exact results_none rfl _ _ _
theorem ccatch_idle (p q r : Nat) (w : World) :
 CallsD Tryz.prog 195 #[.pointer (some ⟨p, 0, none⟩), .pointer (some ⟨q, 0, none⟩), .pointer (some ⟨r, 0, none⟩)] .returning w fun e u' w' =>
  e = .returned (.tuple #[]) ∧ u' = .returning ∧ w' = w.alloc (.cells #[.int .i64 0, .int .i64 0] 103) := by
 have ta : ∀ w, (Instr.typeAssert .nilIface 20 103 true).run Tryz.prog w = .ok (.tuple #[.agg #[.int .i64 0, .int .i64 0], .bool false]) w := fun w => by kernel_rfl
 refine callsD_of_wpS Tryz.func195 rfl fun c₀ cs hu => ?_
 simp only [Tryz.ntmps195, List.size_toArray, List.length_cons, List.length_nil, Nat.reduceAdd, Nat.reduceSub, Array.replicate_succ, Array.replicate_zero, List.push_toArray, List.append_toArray, List.nil_append, List.cons_append]
 have hrec : recov (c₀ :: cs) = (.nilIface, c₀ :: cs) := by
  simp [recov, recoverD, hu]
 apply wpS_seq
 refine wpS_region_recover rfl rfl ?_
 rw [hrec]
 have HU := Lib.hid hu
 clear hrec hu
 go_wp2
 simp only [Exit.thenS]
 refine wpS_of_wp (wp_mono (Q := fun x a w' => x = .normal ∧ a.defers = [] ∧ w' = w.alloc (.cells #[.int .i64 0, .int .i64 0] 103)) ?_ ?_)
 · go_wp2
 · rintro e a w' ⟨rfl, hdf, rfl⟩
   exact ⟨hdf, .returning, by have := HU.out; cases c₀; simp_all, .tuple #[], results_none rfl _ _ _, rfl, rfl, rfl⟩
structure HoldC (w w' : World) (u : Value) : Prop where
 h0 : w'.heap[w.heap.size]? = some (.cells #[u] 32 (0, 0))
 h1 : w'.heap[w.heap.size + 1]? = some (.cells #[.int .i64 0] 3 (0, 0))
 h2 : w'.heap[w.heap.size + 1 + 1]? = some (.cells #[.int .i64 0] 3 (0, 0))
 bel : Below w.heap.size w w'
theorem HoldC.below {w a b : World} {u : Value} (h : HoldC w a u) (hs : w.heap.size + 1 + 1 < a.heap.size) (hb : Below a.heap.size a b) : HoldC w b u :=
 ⟨by rw [hb.block _ (by omega)]; exact h.h0, by rw [hb.block _ (by omega)]; exact h.h1, by rw [hb.block _ (by omega)]; exact h.h2, h.bel.trans (hb.mono h.bel.size)⟩
theorem HoldC.grown {w a b : World} {u : Value} {row : Option Nat} (h : HoldC w a u) (hs : w.heap.size + 1 + 1 < a.heap.size) (hg : a.grownBy b row) (hr : ∀ j, row = some j → w.heap.size + 1 + 1 < j) : HoldC w b u :=
 ⟨by rw [hg.block _ (by omega) (fun e => by have := hr _ e.symm; omega)]; exact h.h0, by rw [hg.block _ (by omega) (fun e => by have := hr _ e.symm; omega)]; exact h.h1, by rw [hg.block _ (by omega) (fun e => by have := hr _ e.symm; omega)]; exact h.h2,
  h.bel.grown hg h.bel.size (fun j hj => by have := hr j hj; omega)⟩
theorem HoldC.set {w a : World} {u : Value} (h : HoldC w a u) (v : Value) : HoldC w (a.setCell ⟨w.heap.size, 0, none⟩ v) v :=
 ⟨set1 h.h0 v, by rw [Below.heap_setCell _ _ _ _ (by simp)]; exact h.h1, by rw [Below.heap_setCell _ _ _ _ (by simp; omega)]; exact h.h2, h.bel.setCell (Nat.le_refl _) _⟩
theorem HoldC.ch {w a b : World} {u : Value} {p : Nat} (h : HoldC w a u) (hs : w.heap.size + 1 + 1 < a.heap.size) (hp : w.heap.size + 1 + 1 < p) (hb : Ch a b p) : HoldC w b u :=
 ⟨by rw [hb.block _ (by omega) (by omega)]; exact h.h0, by rw [hb.block _ (by omega) (by omega)]; exact h.h1, by rw [hb.block _ (by omega) (by omega)]; exact h.h2, h.bel.trans ⟨hb.os, hb.tape, hb.output, hb.size, fun k hk => hb.block k (by have := h.bel.size; omega) (by omega)⟩⟩
end Go.Proofs.YtfkmajjgkdjncaaGreatDoor

namespace Go.Proofs.YtfkmajjgkdjncaaGreatDoor
open Go.RowKit De Wd
namespace Wd
def els (L : Its) : Nat → List Ru.Pc → Nat → Except Nat (List Ru.Pc)
 | 0, _, _ => .error 0
 | f + 1, acc, k => if acc ≠ [] ∧ L.length ≤ k then .ok acc else match el L k with
  | .error j => .error j
  | .ok (q, k') => els L f (acc ++ [q]) k'
inductive Cr where
 | bad (j : Nat)
 | ok (S : List Ru.Pc)
def cls (L : Its) (n : Nat) : Cr :=
 match els L (L.length + 2) [] (if pk L 0 = 94 then 1 else 0) with
 | .error j => .bad (plc L n j)
 | .ok acc => if (if pk L 0 = 94 then Ru.nt acc else Ru.nrm acc) = [] then .bad n else .ok (if pk L 0 = 94 then Ru.nt acc else Ru.nrm acc)
end Wd
def lenOf (v : Value) : Nat := match v with | .slice _ n _ => n | _ => 0
theorem CI.low {a b : World} {p k n : Nat} {L : Its} {ou : Option Addr} {cu : Nat} (h : CI a p L k n (.slice ou L.length cu)) (hb : ∀ j, j < p + 1 → b.heap[j]? = a.heap[j]?) (hs : a.heap.size ≤ b.heap.size) (hlow : ∀ b off, ou = some ⟨b, off, none⟩ → b < p + 1) : CI b p L k n (.slice ou L.length cu) := by
 refine ⟨by rw [hb p (by omega)]; exact h.hh, ?_, h.far, h.le, h.small⟩
 obtain ⟨o, cap, e, l1, l2, h3⟩ := h.row
 simp only [Value.slice.injEq, true_and] at e
 obtain ⟨rfl, rfl⟩ := e
 refine ⟨_, _, rfl, l1, l2, ?_⟩
 rcases h3 with h3 | ⟨b', off, eb, hb', hc⟩
 · exact .inl h3
 · refine .inr ⟨b', off, eb, by omega, fun j u hu => ?_⟩
   rw [← hc j u hu]
   unfold World.cell?
   rw [hb b' (hlow b' off eb)]
theorem CI.setBlk {a : World} {p k n E i : Nat} {x : Value} {L : Its} {ou : Option Addr} {cu : Nat} (h : CI a p L k n (.slice ou L.length cu)) (hE : E ≠ p) (hlow : ∀ b off, ou = some ⟨b, off, none⟩ → b ≠ E) : CI (a.setCell ⟨E, i, none⟩ x) p L k n (.slice ou L.length cu) := by
 refine ⟨by rw [Below.heap_setCell _ _ _ _ (by simpa using fun e => hE e.symm)]; exact h.hh, ?_, h.far, h.le, h.small⟩
 obtain ⟨o, cap, e, l1, l2, h3⟩ := h.row
 simp only [Value.slice.injEq, true_and] at e
 obtain ⟨rfl, rfl⟩ := e
 refine ⟨_, _, rfl, l1, l2, ?_⟩
 rcases h3 with h3 | ⟨b', off, eb, hb', hc⟩
 · exact .inl h3
 · refine .inr ⟨b', off, eb, by simpa [World.setCell] using hb', fun j u hu => ?_⟩
   rw [← hc j u hu]
   unfold World.cell?
   rw [Below.heap_setCell _ _ _ _ (by simpa using hlow b' off eb)]
theorem HoldC.again {w X : World} {u : Value} (h : HoldC w X u) : HoldC w (((X.setCell ⟨w.heap.size, 0, none⟩ u).setCell ⟨w.heap.size + 1, 0, none⟩ (.int .i64 0)).setCell ⟨w.heap.size + 1 + 1, 0, none⟩ (.int .i64 0)) u := by
 refine ⟨?_, ?_, ?_, ((h.bel.setCell (Nat.le_refl _) _).setCell (by simp) _).setCell (by simp; omega) _⟩
 · rw [Below.heap_setCell _ _ _ _ (by simp; omega), Below.heap_setCell _ _ _ _ (by simp)]; exact set1 h.h0 _
 · rw [Below.heap_setCell _ _ _ _ (by simp)]; refine set1 (a := .int .i64 0) ?_ _; rw [Below.heap_setCell _ _ _ _ (by simp)]; exact h.h1
 · refine set1 (a := .int .i64 0) ?_ _; rw [Below.heap_setCell _ _ _ _ (by simp), Below.heap_setCell _ _ _ _ (by simp; omega)]; exact h.h2
theorem HoldC.low {w a b : World} {u : Value} {q : Nat} (h : HoldC w a u) (hs : w.heap.size + 1 + 1 < q) (hb : Below q a b) : HoldC w b u :=
 ⟨by rw [hb.block _ (by omega)]; exact h.h0, by rw [hb.block _ (by omega)]; exact h.h1, by rw [hb.block _ (by omega)]; exact h.h2, h.bel.trans (hb.mono (by omega))⟩
theorem Ru.nrm_len (l : List Ru.Pc) : (Ru.nrm l).length = (Ru.pcs l).length := by unfold Ru.nrm; rw [Ru.rngs_len]
theorem Ru.nt_len (l : List Ru.Pc) : (Ru.nt l).length = (Ru.cpl 0 (Ru.pcs l)).length := by unfold Ru.nt; rw [Ru.rngs_len]
theorem Ru.pcs_le (l : List Ru.Pc) : (Ru.pcs l).length ≤ l.length := by
 unfold Ru.pcs
 have h1 := Ru.merge_len (Ru.srt (Ru.raw l))
 have h2 : ∀ l : List Ru.Pc, (Ru.srt l).length = l.length := by
  have hi : ∀ (p : Ru.Pc) (l : List Ru.Pc), (Ru.ins p l).length = l.length + 1 := by
   intro p l
   induction l with
   | nil => rfl
   | cons q l ih => simp only [Ru.ins]; split <;> simp [ih]
  intro l
  induction l with
  | nil => rfl
  | cons q l ih => simp only [Ru.srt]; rw [hi, ih]; rfl
 have h3 : (Ru.raw l).length ≤ l.length := by
  unfold Ru.raw
  have := List.length_filter_le (fun p : Ru.Pc => decide (p.1 < p.2)) (l.map Ru.pcOf)
  simpa using this
 rw [h2] at h1; omega
theorem Ru.pcs_pos (l : List Ru.Pc) : ∀ q ∈ Ru.pcs l, 0 ≤ q.1 ∧ q.1 < q.2 ∧ q.2 ≤ 1112064 := fun q hq => by
 have h1 := (Ru.pcs_nf l).pos q hq
 have h2 := Ru.pcs_bd l q hq
 omega
end Go.Proofs.YtfkmajjgkdjncaaGreatDoor
