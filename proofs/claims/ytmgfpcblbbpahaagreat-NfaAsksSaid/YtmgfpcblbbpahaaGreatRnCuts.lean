/- runes: Cuts. -/
import Derived.Test.YtmgfpcblbbpahaaGreatRnSort3
import Derived.Test.YtmgfpcblbbpahaaGreatRnSame
set_option linter.unusedVariables false
set_option linter.unusedSimpArgs false
namespace Go.Proofs.YtmgfpcblbbpahaaGreat.Rn
open Go.RowKit _root_.Go.Proofs.YtmgfpcblbbpahaaGreat.Ru Go.Proofs.YtmgfpcblbbpahaaGreat.Rn.Ru

theorem infoEdge : ∃ i, Tryz.prog.info? 100 = some i ∧ i.zero = some (.agg #[.int .i64 0, .int .i64 0]) ∧ i.size = 2 ∧ i.bytes = 16 := info_parts (by kernel_rfl)
/-- a slice of slices of ranges -/
def RowsR (w : World) (v : Value) (vs : List Value) (ls : List (List Pc)) : Prop :=
  vs.length = ls.length ∧ Row w v ls.length vs ∧ ∀ i, i < ls.length → Row w (vs.getD i undef) (ls.getD i []).length (flatK .i32 (ls.getD i []))
/-- a place of one-cell elements -/
theorem rowOneRn {w : World} {b off n cap : Nat} {cs : List Value} (h : Row w (.slice (some ⟨b, off, none⟩) n cap) n cs) {i : Nat} (hi : i < cs.length) (hn : 0 < n) :
    b < w.heap.size ∧ w.cell? ⟨b, off + i, none⟩ = some (cs.getD i undef) := by
  obtain ⟨o, c, e, h1, h2, h3⟩ := h
  simp only [Value.slice.injEq, true_and] at e
  obtain ⟨rfl, rfl⟩ := e
  rcases h3 with ⟨h0, _⟩ | ⟨b', off', e', hlt, hc⟩
  · omega
  · simp only [Option.some.injEq, Addr.mk.injEq, and_true] at e'
    obtain ⟨rfl, rfl⟩ := e'
    exact ⟨hlt, hc _ _ (by simp [List.getD, List.getElem?_eq_getElem hi])⟩

namespace Ru
theorem flat_take_succ (ls : List (List Pc)) (k : Nat) (h : k < ls.length) : (ls.take (k + 1)).flatMap pcs = (ls.take k).flatMap pcs ++ pcs (ls.getD k []) := by
  rw [take_one ls [] k h, List.flatMap_append]; simp
theorem flat_len (ls : List (List Pc)) (hm : ∀ l ∈ ls, l.length ≤ 1000) : (ls.flatMap pcs).length ≤ 1000 * ls.length := by
  induction ls with
  | nil => simp
  | cons l ls ih =>
    have h1 := hm l (by simp)
    have h2 := ih (fun l hl => hm l (by simp [hl]))
    have h3 := pcs_le l
    rw [List.flatMap_cons, List.length_append, List.length_cons]; omega
theorem flat_ok (ls : List (List Pc)) : ∀ q ∈ ls.flatMap pcs, 0 ≤ q.1 ∧ q.1 < q.2 ∧ q.2 ≤ 1112064 := by
  intro q hq
  obtain ⟨l, _, h⟩ := List.mem_flatMap.1 hq
  exact ok_pcs l q h
theorem edges_take_succ (Q : List Pc) (j : Nat) (h : j < Q.length) : edges (Q.take (j + 1)) = edges (Q.take j) ++ [((Q.getD j (0, 0)).1, 1), ((Q.getD j (0, 0)).2, -1)] := by
  rw [take_one Q (0, 0) j h, edges_append]; rfl
theorem gaps_mem (P : List Pc) : ∀ (l : List Int), ∀ q ∈ gaps P l, q.1 ∈ l ∧ q.2 ∈ l ∧ q.1 < q.2
  | [], q, h => by simp [gaps] at h
  | [x], q, h => by simp [gaps] at h
  | x :: y :: l, q, h => by
    unfold gaps at h
    split at h
    · rename_i hc
      rcases List.mem_cons.1 h with rfl | h
      · exact ⟨by simp, by simp, hc.1⟩
      · have := gaps_mem P (y :: l) q h
        exact ⟨List.mem_cons_of_mem _ this.1, List.mem_cons_of_mem _ this.2.1, this.2.2⟩
    · have := gaps_mem P (y :: l) q h
      exact ⟨List.mem_cons_of_mem _ this.1, List.mem_cons_of_mem _ this.2.1, this.2.2⟩
theorem gaps_len (P : List Pc) : ∀ (l : List Int), (gaps P l).length ≤ l.length
  | [] => by simp [gaps]
  | [x] => by simp [gaps]
  | x :: y :: l => by
    have := gaps_len P (y :: l)
    simp only [List.length_cons] at this ⊢
    unfold gaps
    split
    · simp only [List.length_cons]; omega
    · omega
/-- what the loop over sorted edges has made -/
theorem fst_getD (d : List Pc) (i : Nat) : (d.map Prod.fst).getD i 0 = (d.getD i (0, 0)).1 := by
  simp [List.getD]
  cases d[i]? <;> rfl
/-- the loop's test, at a place that is not the first one -/
theorem edge_test {P d : List Pc} (hok : ∀ q ∈ P, 0 ≤ q.1 ∧ q.1 < q.2 ∧ q.2 ≤ 1112064) (hp : d.Perm (edges P)) (hs : Sorted d) (j : Nat) (hj : j + 1 < d.length) (hlt : (d.getD j (0, 0)).1 < (d.getD (j + 1) (0, 0)).1) :
    0 < sumB (d.take (j + 1)) ↔ inB P (d.getD j (0, 0)).1 = true := by
  rw [sorted_sum d hs j hj hlt, bal_perm hp]
  exact (bal_edges P _ (fun q hq => (hok q hq).2.1)).2
theorem gaps_next {P d : List Pc} (j : Nat) (hj : j + 1 < d.length) : gaps P ((d.map Prod.fst).take (j + 2)) = gaps P ((d.map Prod.fst).take (j + 1)) ++ if (d.getD j (0, 0)).1 < (d.getD (j + 1) (0, 0)).1 ∧ inB P (d.getD j (0, 0)).1 = true then [((d.getD j (0, 0)).1, (d.getD (j + 1) (0, 0)).1)] else [] := by
  rw [gaps_take P _ j (by simpa using hj), fst_getD, fst_getD]
theorem cuts_end {P d : List Pc} (hok : ∀ q ∈ P, 0 ≤ q.1 ∧ q.1 < q.2 ∧ q.2 ≤ 1112064) (hp : d.Perm (edges P)) (hs : Sorted d) : gaps P ((d.map Prod.fst).take d.length) = cutF P := by
  rw [show (d.map Prod.fst).take d.length = d.map Prod.fst by rw [List.take_of_length_le]; simp]
  have hm : ∀ z, z ∈ d.map Prod.fst ↔ z ∈ ends P := fun z => by rw [← edges_fst]; exact (hp.map Prod.fst).mem_iff
  exact gaps_eq P _ (-1) hs.ascI (fun x hx => ends_pos hok x ((hm x).1 hx)) hm
theorem cutF_ok {P : List Pc} (hok : ∀ q ∈ P, 0 ≤ q.1 ∧ q.1 < q.2 ∧ q.2 ≤ 1112064) : ∀ q ∈ cutF P, 0 ≤ q.1 ∧ q.1 < q.2 ∧ q.2 ≤ 1112064 := by
  intro q hq
  obtain ⟨h1, h2, h3⟩ := gaps_mem P _ q hq
  have hpos := ends_pos hok
  have m1 := (mem_srtD hpos q.1).1 h1
  have m2 := (mem_srtD hpos q.2).1 h2
  obtain ⟨r, hr, e⟩ := (mem_ends P q.2).1 m2
  have := hpos _ m1
  have := hok r hr
  omega
end Ru

/-- Cuts' captured variable: block qe holds the slice that owns the edges E -/
def EdgeS (w : World) (b qe : Nat) (E : List Pc) : Prop :=
  qe < b ∧ b ≤ w.heap.size ∧ ∃ v, w.heap[qe]? = some (.cells #[v] 94 (0, 0)) ∧ w.ownsRow b 100 2 v E.length (flatK .i64 E)
theorem EdgeS.below {w w' : World} {b qe : Nat} {E : List Pc} (h : EdgeS w b qe E) (hb : Below w.heap.size w w') : EdgeS w' b qe E := by
  obtain ⟨h1, h2, v, h3, h4⟩ := h
  exact ⟨h1, Nat.le_trans h2 hb.size, v, by rw [hb.block qe (by omega)]; exact h3, owns_below h4 hb⟩

set_option maxHeartbeats 4000000 in
set_option maxRecDepth 1000000 in
theorem cutsR_any (ls : List (List Pc)) (vs : List Value) (v : Value) (w : World) (hr : RowsR w v vs ls) (hz : ∀ l ∈ ls, i32s l) (hn : ls.length ≤ 1000) (hm : ∀ l ∈ ls, l.length ≤ 1000) :
    Calls Tryz.prog 32 #[v] w fun e w' => ∃ u, e = .returned u ∧ w'.ownsRow w.heap.size 54 2 u (cutsF ls).length (flatK .i32 (cutsF ls)) ∧ Below w.heap.size w w' := by
  obtain ⟨i0, hi, hz0, hz1, hz2⟩ := infoPiece
  obtain ⟨i1, hi1, hy0, hy1, hy2⟩ := infoEdge
  have hmf : ∀ (fn : Fn) (first cap : Array Value) (w : World), (Instr.makeFunc fn first cap).run Tryz.prog w = .ok (.func fn first cap) w := fun _ _ _ _ => rfl
  obtain ⟨hvl, hrow, hrows⟩ := hr
  have Hr := Lib.hid (And.intro hrow (And.intro hvl hrows))
  have Hz := Lib.hid (And.intro hz hm)
  obtain ⟨o, cap, rfl⟩ := hrow.form
  clear hrow hrows hz hm hvl
  go_enter Tryz.func32, Tryz.ntmps32
  go_wp2_with fail
  obtain ⟨qe, hqe⟩ : ∃ qe, qe = w.heap.size := ⟨_, rfl⟩
  obtain ⟨b, hb⟩ : ∃ b, b = w.heap.size + 1 := ⟨_, rfl⟩
  have hS0 : EdgeS (w.alloc (.cells #[.slice none 0 0] 94)) b qe (edges ((ls.take 0).flatMap pcs)) :=
    ⟨by omega, by simp; omega, _, by rw [hqe]; exact heap_alloc_new w _, World.ownsRow_nil _ _ _ _⟩
  rw [← hqe]
  have HQ := Lib.hid (And.intro hqe hb)
  clear hqe hb
  go_loopw [14] (fun i wr => ∃ k : Nat, k ≤ ls.length ∧ i = .int .i64 k ∧ EdgeS wr b qe (edges ((ls.take k).flatMap pcs)) ∧ But (w.alloc (.cells #[.slice none 0 0] 94)) wr b qe qe)
    (fun i _ => ls.length - (intOf i).toNat)
  case atStart => exact ⟨0, Nat.zero_le _, rfl, hS0, But.of (Below.refl _ _)⟩
  case round =>
    clear hS0
    obtain ⟨k, hk, rfl, hS, hbut⟩ := hrel
    have hlow : Below w.heap.size w wr := (bel_new (Below.refl _ _) _).trans (butLowRn hbut (by rw [HQ.out.2]; omega) (by rw [HQ.out.1]; exact Nat.le_refl _) (by rw [HQ.out.1]; exact Nat.le_refl _))
    by_cases hk2 : k < ls.length
    · have hvk := Hr.out.2.2 k hk2
      obtain ⟨g0, off0, cap', e, hlt0⟩ := Hr.out.1.head (by omega)
      simp only [Value.slice.injEq, true_and] at e
      obtain ⟨rfl, rfl⟩ := e
      obtain ⟨_, c0⟩ := rowOneRn Hr.out.1 (i := k) (by rw [Hr.out.2.1]; exact hk2) (by omega)
      rw [← hlow.cell hlt0] at c0
      obtain ⟨u, hu⟩ : ∃ u, u = vs.getD k undef := ⟨_, rfl⟩
      obtain ⟨l, hl⟩ : ∃ l, l = ls.getD k [] := ⟨_, rfl⟩
      have hlz : i32s l ∧ l.length ≤ 1000 := by
        have : l ∈ ls := by rw [hl]; simp [List.getD, List.getElem?_eq_getElem hk2]
        exact ⟨Hz.out.1 l this, Hz.out.2 l this⟩
      rw [← hu] at c0
      rw [← hu, ← hl] at hvk
      have hfs := flat_take_succ ls k hk2
      rw [← hl] at hfs
      have hfl := flat_len (ls.take k) (fun l hl => Hz.out.2 l (List.mem_of_mem_take hl))
      rw [List.length_take] at hfl
      have hvk2 := hvk.below hlow
      obtain ⟨ou, cu, rfl⟩ := hvk.form
      have hll := hlz.2
      have hpl := pcs_le l
      have hel := edges_len ((ls.take k).flatMap pcs)
      obtain ⟨E, hE⟩ : ∃ E, E = edges ((ls.take k).flatMap pcs) := ⟨_, rfl⟩
      rw [← hE] at hS hel
      have hEl : E.length ≤ 2000000 := by omega
      have hnew : edges ((ls.take (k + 1)).flatMap pcs) = E ++ edges (pcs l) := by rw [hfs, edges_append, hE]
      have HF := Lib.hid (And.intro hnew (And.intro hE (And.intro hl hu)))
      have HL := Lib.hid (And.intro hlow (And.intro hvk2 hlz))
      have HS := Lib.hid (And.intro hS hbut)
      clear hnew hE hl hu hlow hvk hvk2 hlz hfs hfl hel hS hbut
      go_wp2_with fail
      refine (pieces_any l _ _ HL.out.2.1 HL.out.2.2.1 (by omega)).mono ?_
      rintro e w2 ⟨u2, rfl, hown2, hb2⟩
      obtain ⟨ou2, cu2, rfl⟩ := owns_slice hown2
      have hbs : b ≤ wr.heap.size := HS.out.1.2.1
      have hS2 := HS.out.1.below hb2
      have hbut2 : But (w.alloc (.cells #[.slice none 0 0] 94)) w2 b qe qe := HS.out.2.trans (But.of (hb2.mono hbs))
      obtain ⟨Q, hQ⟩ : ∃ Q, Q = pcs l := ⟨_, rfl⟩
      rw [← hQ] at hown2 hpl
      rw [← hQ]
      have HR := Lib.hid (And.intro (Row.owned hown2) hQ)
      have hgg : ∀ g, (Value.slice ou2 Q.length cu2).ownBlock = some g → wr.heap.size ≤ g ∧ g < w2.heap.size := fun g h => hown2.lt g h
      have hv0 : ∃ ve, w2.heap[qe]? = some (.cells #[ve] 94 (0, 0)) ∧ w2.ownsRow b 100 2 ve (E ++ edges (Q.take 0)).length (flatK .i64 (E ++ edges (Q.take 0))) ∧ ∀ g, (Value.slice ou2 Q.length cu2).ownBlock = some g → ve.ownBlock ≠ some g ∧ w2.heap[g]? = w2.heap[g]? := by
        obtain ⟨_, _, ve, hve, hoe⟩ := HS.out.1
        refine ⟨ve, by rw [hb2.block qe (by have := HS.out.1.1; omega)]; exact hve, by simpa [edges] using owns_below hoe hb2, fun g hg => ⟨fun e => ?_, rfl⟩⟩
        have := (hoe.lt g e).2; have := (hgg g hg).1; omega
      have hQl : Q.length ≤ 1000 := by omega
      have hqb : qe < b := HS.out.1.1
      have HG := Lib.hid (And.intro hgg hb2)
      have HV := Lib.hid hv0
      clear hown2 hQ hb2 hS2 hgg hv0
      go_wp2_with fail
      obtain ⟨wo, rfl⟩ : ∃ wo : World, wo = wr := ⟨_, rfl⟩
      go_loopw [21] (fun i wi => ∃ j : Nat, j ≤ Q.length ∧ i = .int .i64 j ∧ But (w.alloc (.cells #[.slice none 0 0] 94)) wi b qe qe ∧ b ≤ wi.heap.size ∧
          ∃ ve, wi.heap[qe]? = some (.cells #[ve] 94 (0, 0)) ∧ wi.ownsRow b 100 2 ve (E ++ edges (Q.take j)).length (flatK .i64 (E ++ edges (Q.take j))) ∧ ∀ g, (Value.slice ou2 Q.length cu2).ownBlock = some g → ve.ownBlock ≠ some g ∧ wi.heap[g]? = w2.heap[g]?)
        (fun i _ => Q.length - (intOf i).toNat)
      case atStart => exact ⟨0, Nat.zero_le _, rfl, hbut2, by have := HG.out.2.size; omega, by obtain ⟨ve, h1, h2, h3⟩ := HV.out; exact ⟨ve, h1, h2, fun g hg => ⟨(h3 g hg).1, rfl⟩⟩⟩
      case round =>
        clear hbut2
        obtain ⟨j, hj, rfl, hbi, hbsz, ve, hve, hoe, hfar⟩ := hrel
        obtain ⟨oe, ce, rfl⟩ := owns_slice hoe
        by_cases hj2 : j < Q.length
        · obtain ⟨g, off, cq, e, hltg⟩ := HR.out.1.head (by omega)
          simp only [Value.slice.injEq, true_and] at e
          obtain ⟨rfl, rfl⟩ := e
          obtain ⟨_, c1, c2⟩ := HR.out.1.pair hj2 rfl
          have hf := hfar g rfl
          rw [← World.cell?_of_block (a := ⟨g, off + j * 2, none⟩) hf.2] at c1
          rw [← World.cell?_of_block (a := ⟨g, off + j * 2 + 1, none⟩) hf.2] at c2
          have hs := edges_take_succ Q j hj2
          obtain ⟨q, hq⟩ : ∃ q, q = Q.getD j (0, 0) := ⟨_, rfl⟩
          rw [← hq] at c1 c2 hs
          obtain ⟨lo, hi'⟩ := q
          have hX : E ++ edges (Q.take (j + 1)) = (E ++ edges (Q.take j)) ++ [(lo, 1), (hi', -1)] := by rw [hs, List.append_assoc]
          have hXl : (E ++ edges (Q.take j)).length ≤ 2000000 + 2 * 1000 := by rw [List.length_append, edges_len, List.length_take]; omega
          obtain ⟨X, hX0⟩ : ∃ X, X = E ++ edges (Q.take j) := ⟨_, rfl⟩
          rw [← hX0] at hX hXl hve hoe hf
          simp only at c1 c2
          obtain ⟨cQ, fQ⟩ := cell1_of hve
          have hqs : qe < wr.heap.size := by omega
          have hgs : g < wr.heap.size := by have := (Array.getElem?_eq_some_iff.1 (hf.2.trans (Array.getElem?_eq_getElem hltg))).1; exact this
          have hnb : ((wr.alloc (.cells #[.int .i64 lo, .int .i64 hi'] 98)).alloc (.cells #[.int .i64 lo, .int .i64 1, .int .i64 hi', .int .i64 (-1)] 100)).heap[wr.heap.size + 1]? = some (.cells #[.int .i64 lo, .int .i64 1, .int .i64 hi', .int .i64 (-1)] 100 (0, 0)) := by
            have := heap_alloc_new (wr.alloc (.cells #[.int .i64 lo, .int .i64 hi'] 98)) (.cells #[.int .i64 lo, .int .i64 1, .int .i64 hi', .int .i64 (-1)] 100)
            simpa using this
          have Hnb := Lib.hid hnb
          have Hi := Lib.hid (And.intro hve (And.intro hoe (And.intro hbi hf)))
          have HX := Lib.hid (And.intro hX (And.intro hX0 hq))
          clear hnb hve hbi hf hX hX0 hq hs hfar
          go_wp2_with (at_builtin; refine wpList_append_lies _ rfl _ _ 94 rfl b 100 i1 (.agg #[.int .i64 0, .int .i64 0]) 2 16 Tryz.underlying94 hi1 hy0 hy1 hy2 rfl (by decide) _ _ _ rfl ((hoe.alloc _).alloc _) ⟨wr.heap.size + 1, 0, none⟩ 2 2 [.int .i64 lo, .int .i64 1, .int .i64 hi', .int .i64 (-1)] rfl rfl (World.news_of_block Hnb.out) (by simp [Value.oneCell']) (by decide) (by unfold maxLen; omega) (by omega) (by simp; omega) (wr.heap.size + 2) (by simp) ?_; intro ge ce' w4 hown4 hg4 hat hlt4; have gO : w4.heap[qe]? = some (.cells #[.slice oe X.length ce] 94 (0, 0)) := (by rw [hg4.block qe (by simp; omega) (fun e => by have := (hoe.lt qe e.symm).1; omega), Below.heap_alloc _ _ _ (by simp; omega), Below.heap_alloc _ _ _ hqs]; exact Hi.out.1); have cO' := (cell1_of gO).1; have fO' := (cell1_of gO).2; have H4 := Lib.hid (And.intro gO (And.intro hg4 (And.intro hown4 (And.intro hat hlt4)))); clear gO hg4 hown4 hat hlt4)
          obtain ⟨gO, hg4, hown4, hat, hlt4⟩ := H4.out
          have hb4 : But (w.alloc (.cells #[.slice none 0 0] 94)) (w4.setCell ⟨qe, 0, none⟩ (.slice (some ⟨ge, 0, none⟩) (X.length + 2) ce')) b qe qe :=
            (((Hi.out.2.2.1.alloc hbsz _).alloc (by simp; omega) _).grown hg4 (by simp; omega) (fun j hj => (hoe.lt j hj).1)).setA _
          have hs4 := hg4.size
          simp at hs4
          have hv4 : (w4.setCell ⟨qe, 0, none⟩ (.slice (some ⟨ge, 0, none⟩) (X.length + 2) ce')).heap[qe]? = some (.cells #[.slice (some ⟨ge, 0, none⟩) (X.length + 2) ce'] 94 (0, 0)) := setc gO _
          have ho4 := ownsRow_setCell_below hown4 (a := ⟨qe, 0, none⟩) (by simpa using hqb) (.slice (some ⟨ge, 0, none⟩) (X.length + 2) ce')
          have hgne : ge ≠ g := by
            rcases hat with h | h
            · intro e; subst e; exact Hi.out.2.2.2.1 h
            · omega
          have hqg : g ≠ qe := by have := (HG.out.1 g rfl).1; have := HS.out.1.2.1; omega
          have hf4 : (w4.setCell ⟨qe, 0, none⟩ (.slice (some ⟨ge, 0, none⟩) (X.length + 2) ce')).heap[g]? = w2.heap[g]? := by
            rw [Below.heap_setCell _ _ _ _ hqg, hg4.block g (by simp; omega) (fun e => Hi.out.2.2.2.1 e.symm), Below.heap_alloc _ _ _ (by simp; omega), Below.heap_alloc _ _ _ hgs]
            exact Hi.out.2.2.2.2
          have H5 := Lib.hid (And.intro hb4 (And.intro hv4 (And.intro ho4 (And.intro hgne hf4))))
          clear gO hg4 hown4 hat hlt4 hb4 hs4 hv4 ho4 hgne hf4 hoe
          go_wp2
          go_roundw
          case rel =>
            refine ⟨j + 1, by omega, by go_num, H5.out.1, ?_, _, H5.out.2.1, ?_, ?_⟩
            · have := H4.out.2.1.size
              simp at this ⊢; omega
            · rw [HX.out.1, List.length_append, flatK_append]
              exact H5.out.2.2.1
            · intro g' hg'
              simp only [Value.ownBlock, Option.some.injEq] at hg'
              subst hg'
              exact ⟨fun e => H5.out.2.2.2.1 (by simpa [Value.ownBlock] using e), H5.out.2.2.2.2⟩
          case measure => simp [intOf] <;> omega
        · have hjn : j = Q.length := by omega
          subst hjn
          rw [List.take_length] at hve hoe
          have HE := Lib.hid (And.intro hve (And.intro hoe hbi))
          clear hve hoe hbi hfar
          go_wp2
          go_roundw
          case rel =>
            refine ⟨k + 1, by omega, by go_num, ⟨hqb, hbsz, _, HE.out.1, ?_⟩, HE.out.2.2⟩
            rw [HF.out.1, ← HR.out.2]
            exact HE.out.2.1
          case measure => simp [intOf] <;> omega
    · have hkn : k = ls.length := by omega
      subst hkn
      rw [List.take_length] at hS
      have hPl := flat_len ls Hz.out.2
      have hPok := flat_ok ls
      obtain ⟨P, hP⟩ : ∃ P, P = ls.flatMap pcs := ⟨_, rfl⟩
      rw [← hP] at hS hPl hPok
      have hEl := edges_len P
      obtain ⟨hqb, hbs, ve, hve, hoe⟩ := hS
      obtain ⟨E, hE⟩ : ∃ E, E = edges P := ⟨_, rfl⟩
      rw [← hE] at hoe hEl
      obtain ⟨oe, ce, rfl⟩ := owns_slice hoe
      obtain ⟨cQ, fQ⟩ := cell1_of hve
      have hEn : E.length ≤ 2000000 := by omega
      have hE1 : E.length ≠ 1 := by omega
      have HP := Lib.hid (And.intro hP (And.intro hE hPok))
      have HL := Lib.hid hlow
      clear hbut hlow hP hE hPok hPl hEl
      go_wp2_with fail
      have hq0 : qe < wr.heap.size := by omega
      have Hve := Lib.hid hve
      clear hve
      refine (sortEdges E _ b qe _ hoe (by omega) hE1 cQ hqb).mono ?_
      rintro e w3 ⟨rfl, d, hperm, hsort, hod, hg3⟩
      have hqd : w3.heap[qe]? = some (.cells #[.slice oe E.length ce] 94 (0, 0)) := by
        rw [hg3.block qe hq0 (fun e => by have := (hoe.lt qe e.symm).1; omega)]; exact Hve.out
      obtain ⟨cQ3, fQ3⟩ := cell1_of hqd
      have hdl := hperm.length_eq
      have hby : ∀ e ∈ d, e.2 = 1 ∨ e.2 = -1 := fun e he => by
        have := hperm.mem_iff.1 he
        rw [HP.out.2.1] at this
        exact edges_by P e this
      have hB3 : Below w.heap.size w w3 := bel_grown HL.out hg3 (fun j hj => by have := (hoe.lt j hj).1; have := HQ.out.2; omega)
      rw [← hdl] at hod cQ3 hE1 hEn
      have hpe : d.Perm (edges P) := HP.out.2.1 ▸ hperm
      have HD := Lib.hid (And.intro (Row.owned hod) (And.intro hpe (And.intro hsort (And.intro hby hB3))))
      rw [← hdl]
      clear cQ fQ hoe hg3 hqd hperm hsort hod hby hB3 hpe hdl Hve
      go_wp2_with fail
      obtain ⟨B, hB⟩ : ∃ B, B = w3.heap.size := ⟨_, rfl⟩
      have hqB : qe < B := by have := World.block_lt_of_cell? w3 _ cQ3; simp only at this; omega
      go_loopw [8, 9, 42] (fun u n i wr => ∃ k : Nat, k ≤ d.length ∧ i = .int .i64 k ∧ n = .int .i64 (sumB (d.take k)) ∧ wr.ownsRow B 98 2 u (gaps P ((d.map Prod.fst).take k)).length (flatK .i64 (gaps P ((d.map Prod.fst).take k))) ∧ Below B w3 wr)
        (fun _ _ i _ => d.length - (intOf i).toNat)
      case atStart => exact ⟨0, Nat.zero_le _, rfl, rfl, World.ownsRow_nil _ _ _ _, Below.refl _ _⟩
      case round =>
        obtain ⟨k, hk, rfl, rfl, hown, hbel⟩ := hrel
        have hBs : B ≤ wr.heap.size := by rw [hB]; exact hbel.size
        have hsl := sumB_le (d.take k) (fun e he => HD.out.2.2.2.1 e (List.mem_of_mem_take he))
        have hgl := gaps_len P ((d.map Prod.fst).take k)
        simp only [List.length_take, List.length_map] at hsl hgl
        by_cases hk2 : k < d.length
        · obtain ⟨g, off, cap', e, hlt⟩ := HD.out.1.head (by omega)
          simp only [Value.slice.injEq, true_and] at e
          obtain ⟨rfl, rfl⟩ := e
          obtain ⟨_, c1, c2⟩ := HD.out.1.pair hk2 rfl
          have hltB : g < B := by rw [hB]; exact hlt
          rw [← hbel.cell hltB] at c1 c2
          have c3 := cQ3
          rw [← hbel.cell (p := ⟨qe, 0, none⟩) hqB] at c3
          have hs : sumB (d.take (k + 1)) = sumB (d.take k) + (d.getD k (0, 0)).2 := by rw [take_one d (0, 0) k hk2, sumB_snoc]
          obtain ⟨q, hq⟩ : ∃ q, q = d.getD k (0, 0) := ⟨_, rfl⟩
          have hqby := HD.out.2.2.2.1 q (by rw [hq]; simp [List.getD, List.getElem?_eq_getElem hk2])
          rw [← hq] at c1 c2 hs
          obtain ⟨x, y⟩ := q
          obtain ⟨n, hn0⟩ : ∃ n, n = sumB (d.take k) := ⟨_, rfl⟩
          rw [← hn0] at hs hsl ⊢
          simp only at c1 c2 hs hqby
          have hnb : -2000000 ≤ n ∧ n ≤ 2000000 := by omega
          have Hn := Lib.hid (And.intro hn0 (And.intro hq hs))
          clear hn0 hq hs hsl
          obtain ⟨u, hu⟩ : ∃ u, u = gaps P ((d.map Prod.fst).take k) := ⟨_, rfl⟩
          rw [← hu] at hown hgl
          have Hu := Lib.hid hu
          clear hu
          by_cases hn : 0 < n
          · obtain ⟨j, rfl⟩ : ∃ j, k = j + 1 := by
              cases k with
              | zero => rw [Hn.out.1] at hn; simp [sumB] at hn
              | succ j => exact ⟨j, rfl⟩
            have ht := edge_test HP.out.2.2 HD.out.2.1 HD.out.2.2.1 j hk2
            have hgn := gaps_next (P := P) (d := d) j hk2
            obtain ⟨_, d1, _⟩ := HD.out.1.pair (i := j) (by omega) rfl
            have d0 := d1
            rw [← hbel.cell hltB] at d1
            rw [← Hn.out.1, ← Hn.out.2.1] at ht
            rw [← Hu.out, ← Hn.out.2.1] at hgn
            obtain ⟨z, hz⟩ : ∃ z, z = (d.getD j (0, 0)).1 := ⟨_, rfl⟩
            rw [← hz] at ht hgn d1 d0
            have D0 := Lib.hid d0
            clear d0
            have hj0 : (0 : Int) ≤ (j : Int) := by omega
            have hj1 : (j : Int) < (d.length : Int) := by omega
            have hw1 : IntKind.i64.wrap (j : Int) = (j : Int) := iwrap (by omega)
            have hgw : g < wr.heap.size := by omega
            have hqw : qe < wr.heap.size := by omega
            have f1 : ∀ q, ((wr.alloc (.cells #[.int .i64 x, .int .i64 y] 100)).drewN q).ownsRow B 98 2 u8 u.length (flatK .i64 u) := fun q => owns_drewN (hown.alloc _) q
            have f2 : ∀ q, Below B w3 ((wr.alloc (.cells #[.int .i64 x, .int .i64 y] 100)).drewN q) := fun q => below_drewN (hbel.alloc hBs _) q
            have HF := Lib.hid (And.intro f1 f2)
            have hub : ∀ g, u8.ownBlock = some g → B ≤ g ∧ g < wr.heap.size := fun g h => hown.lt g h
            have HU := Lib.hid hub
            clear hz f1 f2 hown hbel hub hk
            by_cases hlt2 : z < x
            · have hin := (ht hlt2).1 hn
              simp only at hgn
              rw [if_pos ⟨hlt2, hin⟩] at hgn
              have Hg := Lib.hid hgn
              clear ht hin hgn
              go_wp2_with fail
              go_quiet (fail)
              have f1 := HF.out.1 nq
              have f2 := HF.out.2 nq
              have f3 : ((wr.alloc (.cells #[.int .i64 x, .int .i64 y] 100)).drewN nq).cell? ⟨wr.heap.size, 0, none⟩ = some (.int .i64 x) := by simp
              have f4 : ((wr.alloc (.cells #[.int .i64 x, .int .i64 y] 100)).drewN nq).cell? ⟨wr.heap.size, 1, none⟩ = some (.int .i64 y) := by simp
              have f5 : ((wr.alloc (.cells #[.int .i64 x, .int .i64 y] 100)).drewN nq).cell? ⟨qe, 0, none⟩ = some (.slice (some ⟨g, off, none⟩) d.length ce) := by rw [f2.cell (p := ⟨qe, 0, none⟩) hqB]; exact cQ3
              have f6 : ((wr.alloc (.cells #[.int .i64 x, .int .i64 y] 100)).drewN nq).cell? ⟨g, off + j * 2, none⟩ = some (.int .i64 z) := by rw [f2.cell (p := ⟨g, off + j * 2, none⟩) hltB]; exact D0.out
              have f7 : ((wr.alloc (.cells #[.int .i64 x, .int .i64 y] 100)).drewN nq).heap.size = wr.heap.size + 1 := by simp
              generalize hwq : (wr.alloc (.cells #[.int .i64 x, .int .i64 y] 100)).drewN nq = wq at f1 f2 f3 f4 f5 f6 f7 ⊢
              have Hwq := Lib.hid (And.intro f2 f7)
              have hB5 : B ≤ wq.heap.size := by omega
              have n1 : some qe ≠ u8.ownBlock := fun e => by have := (HU.out qe e.symm).1; omega
              have n2 : some g ≠ u8.ownBlock := fun e => by have := (HU.out g e.symm).1; omega
              have n3 : some wr.heap.size ≠ u8.ownBlock := fun e => by have := (HU.out _ e.symm).2; omega
              have s1 : qe < wq.heap.size := by omega
              have s2 : g < wq.heap.size := by omega
              have s3 : wr.heap.size < wq.heap.size := by omega
              clear hwq f2 f7 c1 c2 c3 d1
              go_wp2_with fail
              go_region_held3 (fun w' => w'.cell? ⟨wr.heap.size, 0, none⟩ = some (.int .i64 x) ∧ w'.cell? ⟨wr.heap.size, 1, none⟩ = some (.int .i64 y) ∧ w'.cell? ⟨qe, 0, none⟩ = some (.slice (some ⟨g, off, none⟩) d.length ce) ∧ w'.cell? ⟨g, off + j * 2, none⟩ = some (.int .i64 z))
                (first | (simp [go_sem, *]; done) | go_keep | (refine ⟨?_, ?_, ?_, ?_⟩ <;> (first | (rw [hgrow1.cell_far _ (by simp; omega) n3]; simp [go_sem, *]; done) | (rw [hgrow1.cell_far _ (by simp; omega) n1]; simp [go_sem, *]; done) | (rw [hgrow1.cell_far _ (by simp; omega) n2]; simp [go_sem, *]; done))))
                ((refine step_append_row _ (by rfl) _ _ 95 (by rfl) B 98 i0 _ 2 16 Tryz.underlying95 hi hz0 hz1 hz2 rfl (by omega) _ _ _ (by rfl) (f1.alloc _).drew _ 1 [.int .i64 z, .int .i64 x] (by rfl) (rowNew _ _ _ _ wq.heap.size rfl) (by rfl) (by simp [Value.oneCell']) (by unfold maxLen; omega) (by omega) (by simp; omega) ?_; intro v' w1 hown1 hgrow1))
              have hB1 : Below B w3 w1 := (Hwq.out.1.alloc hB5 _).drew.grown hgrow1 (by simp; omega) (fun j hj => (f1.lt j hj).1)
              have c4 : w1.cell? ⟨wr.heap.size, 1, none⟩ = some (.int .i64 y) := by
                rw [hgrow1.cell_far _ (by simp; omega) n3]
                rw [((bel_new (Below.refl _ wq) _).drew).cell (p := ⟨wr.heap.size, 1, none⟩) s3]; exact f4
              have H1 := Lib.hid (And.intro hown1 hB1)
              clear hown1 hgrow1 hB1 f1 f3 f4 f5 f6 n1 n2 n3
              go_wp2
              go_roundw
              case rel => exact ⟨j + 1 + 1, by omega, by go_num, by rw [Hn.out.2.2], by rw [Hg.out, List.length_append, flatK_append]; exact H1.out.1, H1.out.2⟩
              case measure => simp [intOf] <;> omega
            · rw [if_neg (fun h => hlt2 h.1), List.append_nil] at hgn
              have Hg := Lib.hid hgn
              clear ht hgn
              go_wp2_with fail
              go_quiet (fail)
              go_wp2
              go_roundw
              case rel => exact ⟨j + 1 + 1, by omega, by go_num, by rw [Hn.out.2.2], by rw [Hg.out]; exact HF.out.1 _, HF.out.2 _⟩
              case measure => simp [intOf] <;> omega
          · have hgap : gaps P ((d.map Prod.fst).take (k + 1)) = u := by
              cases k with
              | zero => rw [Hu.out, gaps_one, gaps_zero]
              | succ j =>
                have ht := edge_test HP.out.2.2 HD.out.2.1 HD.out.2.2.1 j hk2
                rw [gaps_next j hk2, ← Hu.out, if_neg, List.append_nil]
                rintro ⟨h1, h2⟩
                have := (ht h1).2 h2
                rw [← Hn.out.1] at this
                exact hn this
            have H1 := Lib.hid (And.intro hgap (And.intro hown hbel))
            have hng : decide (0 < n) = false := by simpa using hn
            clear hgap hown hbel hn
            go_wp2_with fail
            go_quiet (fail)
            go_wp2
            go_roundw
            case rel => exact ⟨k + 1, by omega, by go_num, by rw [Hn.out.2.2], by rw [H1.out.1]; exact owns_drewN (H1.out.2.1.alloc _) _, below_drewN (H1.out.2.2.alloc hBs _) _⟩
            case measure => simp [intOf] <;> omega
        · have hkn : k = d.length := by omega
          subst hkn
          have hce := cuts_end HP.out.2.2 HD.out.2.1 HD.out.2.2.1
          have hok := cutF_ok HP.out.2.2
          rw [hce] at hown hgl
          obtain ⟨C, hC⟩ : ∃ C, C = cutF P := ⟨_, rfl⟩
          rw [← hC] at hown hgl hok
          have hbw : Below w.heap.size w wr := HD.out.2.2.2.2.trans (hbel.mono (by rw [hB]; exact HD.out.2.2.2.2.size))
          have HC := Lib.hid (And.intro hC (And.intro hbw (And.intro hown hok)))
          clear hce hok hC hbw hown hbel
          go_wp2_with fail
          refine (ranges_any C _ _ (Row.owned HC.out.2.2.1) (by omega) HC.out.2.2.2).mono ?_
          rintro e w5 ⟨u5, rfl, hown5, hb5⟩
          have e : cutsF ls = rngs C := by unfold cutsF; rw [HC.out.1, HP.out.1]
          have He := Lib.hid e
          clear e
          go_wp2
          go_ret
          exact ⟨_, rfl, by rw [He.out]; exact owns_base hown5 HC.out.2.1.size, bel_then HC.out.2.1 hb5⟩
end Go.Proofs.YtmgfpcblbbpahaaGreat.Rn
