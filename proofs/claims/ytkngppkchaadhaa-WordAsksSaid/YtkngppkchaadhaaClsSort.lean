/- word: the sort of a class's ranges. -/
import Derived.Test.YtkngppkchaadhaaRngSort
import Derived.Test.YtkngppkchaadhaaWordRun
import Derived.Shelf.SlSortCmp.NoneTotal
import Derived.Sort.Grow
set_option linter.unusedVariables false
set_option linter.unusedSimpArgs false
namespace Go.Proofs.Ytkngppkchaadhaa
open Go.RowKit Ru Go.Sort

def cmpI (x y : Int) : Int := if x < y then -1 else if y < x then 1 else 0
theorem ret_int' {k : IntKind} {a b : Int} (h : a = b) : Ending.returned (.int k a) = .returned (.int k b) := by rw [h]
theorem isNaN_any (x : Int) (w : World) : Calls Try.prog 68 #[.int .i32 x] w fun e w' => e = .returned (.bool false) ∧ w = w' := by
  go_enter Try.func68, Try.ntmps68
  go_wp2
  go_ret
  exact ⟨ret_bool (by simp), rfl⟩
theorem compare_any (x y : Int) (w : World) : Calls Try.prog 47 #[.int .i32 x, .int .i32 y] w fun e w' => e = .returned (.int .i64 (cmpI x y)) ∧ w = w' := by
  go_enter Try.func47, Try.ntmps47
  by_cases h1 : x < y
  · go_wp2_with (go_at_call 68; refine (isNaN_any _ _).mono ?_; rintro e w' ⟨rfl, rfl⟩)
    go_ret
    exact ⟨ret_int' (by unfold cmpI; (repeat' split) <;> omega), rfl⟩
  · by_cases h2 : y < x
    · go_wp2_with (go_at_call 68; refine (isNaN_any _ _).mono ?_; rintro e w' ⟨rfl, rfl⟩)
      go_ret
      exact ⟨ret_int' (by unfold cmpI; (repeat' split) <;> omega), rfl⟩
    · go_wp2_with (go_at_call 68; refine (isNaN_any _ _).mono ?_; rintro e w' ⟨rfl, rfl⟩)
      go_ret
      exact ⟨ret_int' (by unfold cmpI; (repeat' split) <;> omega), rfl⟩
theorem joined1_any (x y : Int × Int) (w : World) : Calls Try.prog 46 #[.agg #[.int .i32 x.1, .int .i32 x.2], .agg #[.int .i32 y.1, .int .i32 y.2]] w fun e w' => e = .returned (.int .i64 (cmpI x.1 y.1)) ∧ ∃ q os, w' = grow (w.drewN q) os := by
  go_enter Try.func46, Try.ntmps46
  go_wp2_with (go_at_call 47; refine (compare_any _ _ _).mono ?_; rintro e w' ⟨rfl, rfl⟩)
  go_ret
  exact ⟨rfl, 0, _, by rw [alloc_eq_grow, alloc_eq_grow, grow_grow]; rfl⟩
theorem lt_cmp (x y : Int × Int) : ltOf (fun x y : Int × Int => cmpI x.1 y.1) x y = decide (x.1 < y.1) := by
  unfold ltOf cmpI
  by_cases h1 : x.1 < y.1
  · simp [h1]
  · by_cases h2 : y.1 < x.1 <;> simp [h1, h2]
theorem swo_cmp : Sort.SWO (ltOf fun x y : Int × Int => cmpI x.1 y.1) where
  irrefl x := by rw [lt_cmp]; simp
  trans x y z h1 h2 := by rw [lt_cmp] at *; simp at *; omega
  ntrans x y z h1 h2 := by rw [lt_cmp] at *; simp at *; omega
theorem sorted_of {d : Array (Int × Int)} {n : Nat} (hn : d.size = n) (h : Sort.SortedIn (ltOf fun x y : Int × Int => cmpI x.1 y.1) 0 n d) : Sorted d.toList := by
  intro i j hij hj
  have hj' : j < d.size := by simpa using hj
  have h1 := h i j (Nat.zero_le _) hij (by omega)
  rw [lt_cmp] at h1
  have e1 : d.toList.getD i (0, 0) = d[i]! := by rw [getElem!_pos d i (by omega)]; simp [List.getD, show i < d.size by omega]
  have e2 : d.toList.getD j (0, 0) = d[j]! := by rw [getElem!_pos d j hj']; simp [List.getD, hj']
  rw [e1, e2]
  simp at h1; omega
set_option maxHeartbeats 1000000 in
theorem sortRanges (l : List Pc) (v : Value) (base : Nat) (w : World) (hown : w.ownsRow base 43 2 v l.length (flatK .i32 l)) (hn : l.length ≤ 100000) :
    Calls Try.prog 45 #[v, .func (.func 46) #[] #[]] w fun e w' => e = .returned (.tuple #[]) ∧ ∃ d : List Pc, d.Perm l ∧ Sorted d ∧ w'.ownsRow base 43 2 v l.length (flatK .i32 d) ∧ w.grownBy w' v.ownBlock := by
  rcases hown.2 with ⟨rfl, h0⟩ | ⟨g, cap, cur, rfl, hbase, hb, h1, h2, h3, h4⟩
  · have hcon := AnyF.slices_SortFunc_none (P := Try.prog) Try.sortR none 0 (.func (.func 46) #[] #[]) w
    change Calls Try.prog 45 _ _ _ at hcon
    refine hcon.mono fun e w' ⟨he, hw⟩ => ?_
    subst hw
    have hl : l = [] := List.eq_nil_of_length_eq_zero h0
    subst hl
    exact ⟨he, [], List.Perm.refl _, fun i j _ hj => by simp at hj, hown, World.grownBy.refl _ _⟩
  · have eg : ∀ args w, (callFunc 46 args).run Try.prog w = .ok (.enter 46 args) w := enters_of Try.func46 (by kernel_rfl) rfl
    have hcon := AnyQ.slices_SortFunc Try.sortR 2 Try.isAgg43 Try.sizeOf43 encP (fun _ => rfl) (fun x v hv => by simp [encP] at hv; rcases hv with rfl | rfl <;> rfl) (fun x y => cmpI x.1 y.1) swo_cmp 46 #[] g 0 cap l.toArray w eg (fun _ _ _ _ x y => joined1_any x y _) (holdsP hb h4) (Array.getElem?_eq_some_iff.1 hb).1 (by simp; omega)
    change Calls Try.prog 45 _ _ _ at hcon
    have e : l.toArray.size = l.length := by simp
    rw [e] at hcon
    refine hcon.mono fun e w' ⟨he, d', n, os, hp, hs, hw⟩ => ?_
    subst hw
    obtain ⟨p1, p2⟩ := perm_of (by simpa using hp)
    exact ⟨he, d'.toList, p2, sorted_of p1 hs, ownsRow_sortedP p1 hbase hb h1 h2 h3, grownBy_sortedP d'⟩
end Go.Proofs.Ytkngppkchaadhaa
