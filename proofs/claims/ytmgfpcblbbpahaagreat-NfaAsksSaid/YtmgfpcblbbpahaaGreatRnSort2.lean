/- runes: the sort of pieces. -/
import Derived.Test.YtmgfpcblbbpahaaGreatRnSort
import Derived.Test.YtmgfpcblbbpahaaGreatRnWalks2
import Derived.Test.YtmgfpcblbbpahaaGreatRnSorts
import Derived.Shelf.SlSortCmp.NoneTotal
namespace Go.Proofs.YtmgfpcblbbpahaaGreat.Rn
open Go.RowKit Ru
set_option linter.unusedVariables false
set_option linter.unusedSimpArgs false

theorem lt_cmp (x y : Int × Int) : ltOf (fun x y : Int × Int => cmpI x.1 y.1) x y = decide (x.1 < y.1) := by
  unfold ltOf cmpI
  by_cases h1 : x.1 < y.1
  · simp [h1]
  · by_cases h2 : y.1 < x.1 <;> simp [h1, h2]
theorem swo_cmp : Sort.SWO (ltOf fun x y : Int × Int => cmpI x.1 y.1) where
  irrefl x := by rw [lt_cmp]; simp
  trans x y z h1 h2 := by rw [lt_cmp] at *; simp at *; omega
  ntrans x y z h1 h2 := by rw [lt_cmp] at *; simp at *; omega
theorem sorted_of {d : Array (Int × Int)} {n : Nat} (hn : d.size = n) (h : Sort.SortedIn (ltOf fun x y : Int × Int => cmpI x.1 y.1) 0 n d) : Sorted d.toList := by
  intro i j hij hj
  have hj' : j < d.size := by simpa using hj
  have h1 := h i j (Nat.zero_le _) hij (by omega)
  rw [lt_cmp] at h1
  have e1 : d.toList.getD i (0, 0) = d[i]! := by rw [getElem!_pos d i (by omega)]; simp [List.getD, show i < d.size by omega]
  have e2 : d.toList.getD j (0, 0) = d[j]! := by rw [getElem!_pos d j hj']; simp [List.getD, hj']
  rw [e1, e2]
  simp at h1; omega
set_option maxHeartbeats 1000000 in
theorem sortPieces (l : List Pc) (v : Value) (base : Nat) (w : World) (hown : w.ownsRow base 98 2 v l.length (flatK .i64 l)) (hn : l.length ≤ 100000) :
    Calls Tryz.prog 86 #[v, .func (.func 87) #[] #[]] w fun e w' => e = .returned (.tuple #[]) ∧ ∃ d : List Pc, d.Perm l ∧ Sorted d ∧ w'.ownsRow base 98 2 v l.length (flatK .i64 d) ∧ w.grownBy w' v.ownBlock := by
  rcases hown.2 with ⟨rfl, h0⟩ | ⟨g, cap, cur, rfl, hbase, hb, h1, h2, h3, h4⟩
  · have hcon := AnyF.slices_SortFunc_none (P := Tryz.prog) Tryz.sortRn none 0 (.func (.func 87) #[] #[]) w
    change Calls Tryz.prog 86 _ _ _ at hcon
    refine hcon.mono fun e w' ⟨he, hw⟩ => ?_
    subst hw
    have hl : l = [] := List.eq_nil_of_length_eq_zero h0
    subst hl
    exact ⟨he, [], List.Perm.refl _, fun i j _ hj => by simp at hj, hown, World.grownBy.refl _ _⟩
  · have eg : ∀ args w, (callFunc 87 args).run Tryz.prog w = .ok (.enter 87 args) w := enters_of Tryz.func87 (by kernel_rfl) rfl
    have hcon := AnyQ.slices_SortFunc Tryz.sortRn 2 Tryz.isAgg98 Tryz.sizeOf98 encP (fun _ => rfl) (fun x v hv => by simp [encP] at hv; rcases hv with rfl | rfl <;> rfl) (fun x y => cmpI x.1 y.1) swo_cmp 87 #[] g 0 cap l.toArray w eg (fun _ _ _ _ x y => pieces1_any x y _) (holdsP hb h4) (Array.getElem?_eq_some_iff.1 hb).1 (by simp; omega)
    change Calls Tryz.prog 86 _ _ _ at hcon
    have e : l.toArray.size = l.length := by simp
    rw [e] at hcon
    refine hcon.mono fun e w' ⟨he, d', n, os, hp, hs, hw⟩ => ?_
    subst hw
    obtain ⟨p1, p2⟩ := perm_of (by simpa using hp)
    exact ⟨he, d'.toList, p2, sorted_of p1 hs, ownsRow_sortedP p1 hbase hb h1 h2 h3, grownBy_sortedP d'⟩
end Go.Proofs.YtmgfpcblbbpahaaGreat.Rn
