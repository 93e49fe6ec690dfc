/- runes: the sort of edges. -/
import Derived.Test.YtmgfpcblbbpahaaGreatRnSort2
import Derived.Test.YtmgfpcblbbpahaaGreatRnSortsE
import Derived.Shelf.SlSortFuncK.WholeK
import Derived.Shelf.GgSortFunc.Tiny
namespace Go.Proofs.YtmgfpcblbbpahaaGreat.Rn
open Go.RowKit Ru
set_option linter.unusedVariables false
set_option linter.unusedSimpArgs false

noncomputable def infT : TypeInfo := (Tryz.prog.info? 94).get (by kernel_rfl)
noncomputable def infE : TypeInfo := (Tryz.prog.info? 100).get (by kernel_rfl)
theorem swK (n : Nat) (h2 : 2 ≤ n) : Lib.swapperK n infE 25 = 9 := by
  have a : infE.hasPointers = false := by kernel_rfl
  have b : infE.bytes = 16 := by kernel_rfl
  have c : (n == 0) = false := by simp; omega
  have d : (n == 1) = false := by simp; omega
  simp [Lib.swapperK, a, b, c, d]
def ltP (x y : Int × Int) : Bool := decide (x.1 < y.1)
theorem swo_ltP : Sort.SWO ltP where
  irrefl x := by simp [ltP]
  trans x y z h1 h2 := by simp [ltP] at *; omega
  ntrans x y z h1 h2 := by simp [ltP] at *; omega
theorem sorted_ofP {d : Array (Int × Int)} {n : Nat} (hn : d.size = n) (h : Sort.SortedIn ltP 0 n d) : Sorted d.toList := by
  intro i j hij hj
  have hj' : j < d.size := by simpa using hj
  have h1 := h i j (Nat.zero_le _) hij (by omega)
  have e1 : d.toList.getD i (0, 0) = d[i]! := by rw [getElem!_pos d i (by omega)]; simp [List.getD, show i < d.size by omega]
  have e2 : d.toList.getD j (0, 0) = d[j]! := by rw [getElem!_pos d j hj']; simp [List.getD, hj']
  rw [e1, e2]
  simp [ltP] at h1; omega
set_option maxHeartbeats 2000000 in
theorem cuts1_any (blk c Bs size : Nat) (W : World) (G : Nat → Int) (hs : W.cell? ⟨Bs, 0, none⟩ = some (.slice (some ⟨blk, 0, none⟩) size c))
    (hc : ∀ t, t < size → W.cell? ⟨blk, t * 2, none⟩ = some (.int .i64 (G t))) (i j : Nat) (hi : i < size) (hj : j < size) (_hsz : size < 4611686018427387904) :
    Calls Tryz.prog 63 #[.int .i64 i, .int .i64 j, .pointer (some ⟨Bs, 0, none⟩)] W fun e w' => e = .returned (.bool (decide (G i < G j))) ∧ ∃ q, w' = W.drewN q := by
  have ci := hc i hi
  have cj := hc j hj
  clear hc
  go_enter Tryz.func63, Tryz.ntmps63
  go_wp2
  go_quiet (fail)
  go_wp2
  go_ret
  exact ⟨rfl, nq, rfl⟩
set_option maxHeartbeats 2000000 in
theorem sortEdges (l : List Pc) (v : Value) (base qe : Nat) (w : World) (hown : w.ownsRow base 100 2 v l.length (flatK .i64 l)) (hn : l.length ≤ 10000000) (h1 : l.length ≠ 1) (hq : w.cell? ⟨qe, 0, none⟩ = some v) (hqb : qe < base) :
    Calls Tryz.prog 62 #[.iface 94 v, .func (.func 63) #[] #[.pointer (some ⟨qe, 0, none⟩)]] w fun e w' => e = .returned (.tuple #[]) ∧ ∃ d : List Pc, d.Perm l ∧ Sorted d ∧ w'.ownsRow base 100 2 v l.length (flatK .i64 d) ∧ w.grownBy w' v.ownBlock := by
  by_cases h0 : l.length = 0
  · obtain rfl : l = [] := List.eq_nil_of_length_eq_zero h0
    obtain ⟨o, c, rfl⟩ : ∃ o c, v = .slice o 0 c := by
      obtain ⟨_, ⟨rfl, _⟩ | ⟨g, cap, cur, rfl, _⟩⟩ := hown
      · exact ⟨_, _, rfl⟩
      · exact ⟨_, _, rfl⟩
    have hcon := Any.sort_Slice_tiny (P := Tryz.prog) Tryz.sortE 94 100 infT infE (by kernel_rfl) (by kernel_rfl) (by kernel_rfl) (by kernel_rfl) 25 (fun _ => by kernel_rfl) o 0 c (by omega) 106 (by kernel_rfl) (.func 63) #[] #[.pointer (some ⟨qe, 0, none⟩)] w
    change Calls Tryz.prog 62 _ _ _ at hcon
    refine hcon.mono fun e w' ⟨he, os, hw⟩ => ?_
    subst hw
    have hg : w.grownBy (Sort.grow w os) (Value.slice o 0 c).ownBlock := ⟨rfl, rfl, rfl, by simp [Sort.grow], fun k hk _ => by rw [Sort.heap_grow_old w os hk]⟩
    have hB : Below w.heap.size w (Sort.grow w os) := ⟨rfl, rfl, rfl, by simp [Sort.grow], fun k hk => by rw [Sort.heap_grow_old w os hk]⟩
    exact ⟨he, [], List.Perm.refl _, fun i j _ hj => by simp at hj, owns_below hown hB, hg⟩
  · rcases hown.2 with ⟨rfl, h0'⟩ | ⟨g, cap, cur, rfl, hbase, hb, h2, h3, h4, h5⟩
    · exact absurd h0' h0
    · have hH := holdsP hb h5
      have hblk : g < w.heap.size := (Array.getElem?_eq_some_iff.1 hb).1
      have hB1 : qe < w.heap.size := World.block_lt_of_cell? w _ hq
      have hB2 : qe ≠ g := by omega
      have e : l.toArray.size = l.length := by simp
      have hless : LessReadsK Tryz.prog 63 #[.pointer (some ⟨qe, 0, none⟩)] encP 2 ltP g 0 l.toArray.size w := by
        intro m os dk hs i j hi hj
        have e1 : sortWorldK encP 2 w g 0 m dk os = Sort.putRowK encP 2 (Sort.grow (Sort.ahead w m) os) g 0 dk := by
          unfold sortWorldK; rw [Sort.putRowK_grow _ _ (Sort.ahead w m) _ g 0 _ hblk]
        have hHg : Sort.HoldsK encP 2 (Sort.grow (Sort.ahead w m) os) g 0 l.toArray := Sort.holdsK_grow _ _ _ _ g 0 l.toArray hblk (Sort.holdsK_ahead _ _ _ _ _ _ _ hH)
        refine cuts1_any g cap qe l.toArray.size _ (fun t => dk[t]!.1) ?_ (fun t ht => ?_) i j hi hj (by simp; omega)
        · rw [e1, Sort.cell?_putRowK_other _ _ _ g 0 dk _ (by exact hB2), Sort.cell?_grow _ _ _ (by exact hB1)]; simpa using hq
        · have := ((Sort.holdsK_putRowK _ _ _ g 0 l.toArray dk hHg hs).cell (i := t) (c := 0) (by omega) (by omega)).1
          rw [Nat.zero_add, Nat.add_zero] at this
          rw [e1]; exact this
      have hcon := Any.sort_Slice_cells_sorted (P := Tryz.prog) Tryz.sortE 94 100 infT infE (by kernel_rfl) (by kernel_rfl) (by kernel_rfl) (by kernel_rfl) 25 (fun _ => by kernel_rfl) encP 2 (fun _ => rfl) (by kernel_rfl) (fun _ => by kernel_rfl)
        (fun x v hv => by simp [encP] at hv; rcases hv with rfl | rfl <;> rfl) ltP swo_ltP 63 _
        (enters_of Tryz.func63 (by kernel_rfl) rfl) g 0 cap l.toArray (by simp; omega) (by simp; omega) 114 (by rw [swK _ (by simp; omega)]; kernel_rfl) false
        (fun args W => run_callFunc_extern Tryz.func114 (by kernel_rfl) (by kernel_rfl) (by kernel_rfl) (e := Extern.ReflectliteSwapper.swap false) (by kernel_rfl) args W) w hless hH hblk
      change Calls Tryz.prog 62 _ _ _ at hcon
      rw [e] at hcon
      refine hcon.mono fun e w' ⟨he, d', n, os, hp, hs, hw⟩ => ?_
      have hw' : w' = sortWorldK encP 2 w g 0 n d' os := hw
      subst hw'
      obtain ⟨p1, p2⟩ := perm_of (by simpa using hp)
      exact ⟨he, d'.toList, p2, sorted_ofP p1 hs, ownsRow_sortedP p1 hbase hb h2 h3 h4, grownBy_sortedP d'⟩
end Go.Proofs.YtmgfpcblbbpahaaGreat.Rn
