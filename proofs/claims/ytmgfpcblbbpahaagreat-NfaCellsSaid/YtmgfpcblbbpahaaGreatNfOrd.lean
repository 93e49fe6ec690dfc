/- slices.Collect, slices.Sorted over slices.Values; nfa.ordered: sorted, each number once. -/
import Derived.Test.YtmgfpcblbbpahaaGreatNfVal
import Derived.Test.YtmgfpcblbbpahaaGreatNfMath
import Derived.Test.YtmgfpcblbbpahaaGreatNfSh
import Derived.Sort.OwnSortedInts
import Derived.Deep.QuietTactic
import Derived.WalkLawsBesides
import Derived.Lib.Hide
import Derived.Lib.SmallJoins
import Derived.Lib.RowBridge
set_option linter.unusedVariables false
set_option linter.unusedSimpArgs false
namespace Go.Proofs.YtmgfpcblbbpahaaGreat
open Go.RowKit

theorem owns_cut {w : World} {base g n m cap : Nat} {e : TypeId} {xs : List Value} (h : w.ownsRow base e 1 (.slice (some ⟨g, 0, none⟩) n cap) n xs) (hm : m ≤ n) :
    w.ownsRow base e 1 (.slice (some ⟨g, 0, none⟩) m cap) m (xs.take m) := by
  obtain ⟨h1, ⟨h2, _⟩ | ⟨g', cap', cur, hv, hg, hb, hn, hc, hs, ht⟩⟩ := h
  · cases h2
  · simp only [Value.slice.injEq, Option.some.injEq, Addr.mk.injEq, true_and, and_true] at hv
    obtain ⟨rfl, rfl⟩ := hv
    refine ⟨by simp [h1]; omega, .inr ⟨g, cap, cur, rfl, hg, hb, by omega, hc, hs, ?_⟩⟩
    rw [← ht, List.take_take]; congr 1; omega

theorem collect_any (zs : List Int) (hz : zs.length ≤ 4000000) (Bs : Nat) (sv : Value) (w0 w : World) (hBs : Bs < w.heap.size) (h0 : Below w0.heap.size w0 w) (hc : w.cell? ⟨Bs, 0, none⟩ = some sv) (hr : Row w0 sv zs.length (ints1 zs)) :
    Calls Tryz.prog 82 #[.func (.func 84) #[] #[.pointer (some ⟨Bs, 0, none⟩)]] w fun e w' =>
      ∃ v, e = .returned v ∧ w'.ownsRow w.heap.size 3 1 v zs.length (ints1 zs) ∧ Below w.heap.size w w' := by
  have hcon := callsIn_wide.1 (apSeq_in 3 Bs (by omega) zs hz w0.heap.size w h0.size (vals_stops 2 (by omega) Bs sv zs hz w0 w hBs h0 hc hr))
  go_enter Tryz.func82, Tryz.ntmps82
  go_wp2_with (go_at_call 102; refine hcon.mono ?_; rintro e w1 ⟨v, rfl, hv⟩)
  go_ret
  exact ⟨v, rfl, hv⟩

theorem sorted_any (zs : List Int) (hz : zs.length ≤ 4000000) (Bs : Nat) (sv : Value) (w0 w : World) (hBs : Bs < w.heap.size) (h0 : Below w0.heap.size w0 w) (hc : w.cell? ⟨Bs, 0, none⟩ = some sv) (hr : Row w0 sv zs.length (ints1 zs)) :
    Calls Tryz.prog 59 #[.func (.func 84) #[] #[.pointer (some ⟨Bs, 0, none⟩)]] w fun e w' =>
      ∃ v, e = .returned v ∧ w'.ownsRow w.heap.size 3 1 v zs.length (ints1 (zs.mergeSort fun x y => decide (x ≤ y))) ∧ Below w.heap.size w w' := by
  have hcon := collect_any zs hz Bs sv w0 w hBs h0 hc hr
  go_enter Tryz.func59, Tryz.ntmps59
  go_wp2_with (go_at_call 82; refine hcon.mono ?_; rintro e w1 ⟨v, rfl, hv, hb⟩)
  have hv0 := hv
  rcases hv.2 with ⟨rfl, hz0⟩ | ⟨gb, cap, cur, rfl, hbase, hgb, r1, r2, r3, r4⟩
  · obtain rfl : zs = [] := List.eq_nil_of_length_eq_zero hz0
    have hsort : Calls Tryz.prog 83 #[.slice none 0 0] w1 fun e w' => e = .returned (.tuple #[]) ∧ w' = w1 := AnyM.slices_Sort_int_none Tryz.sortI none 0 w1
    go_wp2_with (go_at_call 83; refine hsort.mono ?_; rintro e w2 ⟨rfl, rfl⟩)
    go_ret
    exact ⟨_, rfl, by simpa using hv0, hb⟩
  · have hH := holds_of_blockI hgb (by simpa using r4)
    have hgl : gb < w1.heap.size := (Array.getElem?_eq_some_iff.1 hgb).1
    have hsort : Calls Tryz.prog 83 #[.slice (some ⟨gb, 0, none⟩) zs.length cap] w1 _ := AnyM.slices_Sort_int Tryz.sortI gb 0 cap zs w1 hH hgl (by omega)
    go_wp2_with (go_at_call 83; refine hsort.mono ?_; rintro e w2 ⟨rfl, nn, os, rfl⟩)
    go_ret
    exact ⟨_, rfl, ownsRow_sortedI (by simp) hbase hgb r1 r2 r3, hb.grown (grownBy_sortedI _) hb.size (fun j hj => by cases hj; exact hbase)⟩

theorem ordL_nil : ordL [] = [] := by simp [ordL, Lib.compact, Lib.compactUpTo]
theorem grow_none (w : World) : Sort.grow w #[] = w := by simp [Sort.grow]

theorem ordered_any (zs : List Int) (hz : zs.length ≤ 4000000) (v : Value) (w : World) (hr : Row w v zs.length (ints1 zs)) :
    Calls Tryz.prog 31 #[v] w fun e w' => ∃ u, e = .returned u ∧ w'.ownsRow w.heap.size 3 1 u (ordL zs).length (ints1 (ordL zs)) ∧ Below w.heap.size w w' := by
  obtain ⟨o, c, rfl⟩ := (show ∃ o c, v = .slice o zs.length c by obtain ⟨o, c, e, _⟩ := hr; exact ⟨o, c, e⟩)
  have hval : ∀ W, Calls Tryz.prog 60 #[.slice o zs.length c] W fun e w' => e = .returned (.func (.func 84) #[] #[.pointer (some ⟨W.heap.size, 0, none⟩)]) ∧ w' = W.alloc (.cells #[.slice o zs.length c] 23) := by
    intro W
    go_enter Tryz.func60, Tryz.ntmps60
    go_wp2_with fail
    go_ret
    exact ⟨rfl, rfl⟩
  have hcon := sorted_any zs hz w.heap.size (.slice o zs.length c) w (w.alloc (.cells #[.slice o zs.length c] 23)) (by simp) ((Below.refl _ w).alloc (Nat.le_refl _) _) (by rw [World.cell?_alloc_mark]; rfl) hr
  go_enter Tryz.func31, Tryz.ntmps31
  go_wp2_with (first
    | (go_at_call 60; refine (hval _).mono ?_; rintro e w1 ⟨rfl, rfl⟩)
    | (go_at_call 59; refine hcon.mono ?_; rintro e w1 ⟨v, rfl, hv, hb⟩))
  have hb' : Below w.heap.size w w1 := ((Below.refl _ w).alloc (Nat.le_refl _) _).trans (hb.mono (by simp))
  rcases hv.2 with ⟨rfl, hz0⟩ | ⟨gb, cap, cur, rfl, hbase, hgb, r1, r2, r3, r4⟩
  · obtain rfl : zs = [] := List.eq_nil_of_length_eq_zero hz0
    have hcomp : Calls Tryz.prog 58 #[.slice none 0 0] w1 fun e w' => e = .returned (.slice none 0 0) ∧ w' = w1 := AnyG.slices_Compact_int_empty Tryz.compI none 0 w1
    go_wp2_with (go_at_call 58; refine hcomp.mono ?_; rintro e w2 ⟨rfl, rfl⟩)
    go_ret
    exact ⟨_, rfl, by rw [ordL_nil]; exact World.ownsRow_nil _ _ _ _, hb'⟩
  · obtain ⟨ss, hss⟩ : ∃ ss, ss = zs.mergeSort fun x y => decide (x ≤ y) := ⟨_, rfl⟩
    have hsl : ss.length = zs.length := by rw [hss]; simp
    rw [← hss, ← hsl] at r4
    have hH := holds_of_blockI hgb (by simpa using r4)
    have hgl : gb < w1.heap.size := (Array.getElem?_eq_some_iff.1 hgb).1
    have hcomp : Calls Tryz.prog 58 #[.slice (some ⟨gb, 0, none⟩) ss.length cap] w1 _ := AnyG.slices_Compact_int Tryz.compI gb 0 cap ss w1 hH (by omega) (by omega)
    rw [hsl] at hcomp
    have HS := Lib.hid hss
    clear hss
    go_wp2_with (go_at_call 58; refine hcomp.mono ?_; rintro e w2 ⟨rfl, q, rfl⟩)
    go_ret
    have hle : (Lib.compact ss).length ≤ ss.length := Lib.compact_length_le ss
    have ho : ordL zs = Lib.compact ss := by rw [ordL, HS.out]
    have hw := ownsRow_sortedI (w := w1) (n := q) (os := #[]) (ss := ss) (ts := Lib.compact ss ++ List.replicate (ss.length - (Lib.compact ss).length) 0) (by simp; omega) hbase hgb (by omega) r2 r3
    have hcut := owns_cut hw hle
    rw [grow_none] at hcut
    rw [ho]
    refine ⟨_, rfl, ?_, ?_⟩
    · rw [← hsl]
      have e1 : (ints1 (Lib.compact ss ++ List.replicate (ss.length - (Lib.compact ss).length) 0)).take (Lib.compact ss).length = ints1 (Lib.compact ss) := by simp
      rw [e1] at hcut
      exact Joins.ownsRow_le hcut (by simp)
    · rw [← grow_none (Sort.putRow _ _ _ _ _)]
      exact hb'.grown (grownBy_sortedI _) hb'.size (fun j hj => by cases hj; simp at hbase; omega)
end Go.Proofs.YtmgfpcblbbpahaaGreat
