/- runes: pieces. -/
import Derived.Test.YtmgfpcblbbpahaaGreatRnSort2
import Derived.Test.YtmgfpcblbbpahaaGreatRnRanges
import Derived.Test.YtmgfpcblbbpahaaGreatStill
import Derived.Laws.OwnMore
set_option linter.unusedVariables false
set_option linter.unusedSimpArgs false
namespace Go.Proofs.YtmgfpcblbbpahaaGreat.Rn
open Go.RowKit Ru

theorem raw_take_succ (l : List Pc) (k : Nat) (h : k < l.length) : raw (l.take (k + 1)) = raw (l.take k) ++ if (pcOf (l.getD k (0, 0))).1 < (pcOf (l.getD k (0, 0))).2 then [pcOf (l.getD k (0, 0))] else [] := by
  rw [take_one l (0, 0) k h]
  unfold raw
  rw [List.map_append, List.filter_append]
  congr 1
  by_cases h : (pcOf (l.getD k (0, 0))).1 < (pcOf (l.getD k (0, 0))).2 <;> simp only [List.map_cons, List.map_nil, List.filter_cons, List.filter_nil, h, decide_true, decide_false, if_true, if_false] <;> simp
theorem raw_le (l : List Pc) : (raw l).length ≤ l.length := by
  unfold raw
  have := List.length_filter_le (fun p : Pc => decide (p.1 < p.2)) (l.map pcOf)
  simpa using this
theorem owns_drewN {w : World} {base : Nat} {e : TypeId} {size n : Nat} {v : Value} {xs : List Value} (h : w.ownsRow base e size v n xs) (q : Nat) : (w.drewN q).ownsRow base e size v n xs := owns_below h (below_drewN (Below.refl _ _) q)
def i32s (l : List (Int × Int)) : Prop := ∀ p ∈ l, (-2147483648 ≤ p.1 ∧ p.1 ≤ 2147483647) ∧ (-2147483648 ≤ p.2 ∧ p.2 ≤ 2147483647)

set_option maxHeartbeats 4000000 in
set_option maxRecDepth 1000000 in
theorem pieces_any (l : List (Int × Int)) (v : Value) (w : World) (hr : Row w v l.length (flatK .i32 l)) (hz : i32s l) (hn : l.length ≤ 100000) :
    Calls Tryz.prog 61 #[v] w fun e w' => ∃ u, e = .returned u ∧ w'.ownsRow w.heap.size 98 2 u (pcs l).length (flatK .i64 (pcs l)) ∧ Below w.heap.size w w' := by
  obtain ⟨i0, hi, hz0, hz1, hz2⟩ := infoPiece
  have Hr := Lib.hid hr
  have Hz := Lib.hid hz
  obtain ⟨o, cap, rfl, hcap, hmax, _⟩ := hr
  clear hz
  go_enter Tryz.func61, Tryz.ntmps61
  go_wp2_with fail
  go_loopw [3, 13] (fun u i wr => ∃ k : Nat, k ≤ l.length ∧ i = .int .i64 k ∧ wr.ownsRow w.heap.size 98 2 u (raw (l.take k)).length (flatK .i64 (raw (l.take k))) ∧ Below w.heap.size w wr)
    (fun _ i _ => l.length - (intOf i).toNat)
  case atStart => exact ⟨0, Nat.zero_le _, rfl, World.ownsRow_nil _ _ _ _, Below.refl _ _⟩
  case round =>
    obtain ⟨k, hk, rfl, hown, hbel⟩ := hrel
    by_cases hk2 : k < l.length
    · obtain ⟨b, off, cap', e, hlt⟩ := Hr.out.head (by omega)
      simp only [Value.slice.injEq, true_and] at e
      obtain ⟨rfl, rfl⟩ := e
      obtain ⟨_, c1, c2⟩ := Hr.out.pair hk2 rfl
      rw [← hbel.cell hlt] at c1 c2
      have hs := raw_take_succ l k hk2
      obtain ⟨q, hq⟩ : ∃ q, q = l.getD k (0, 0) := ⟨_, rfl⟩
      have hqb := Hz.out q (by rw [hq]; simp [List.getD, List.getElem?_eq_getElem hk2])
      rw [← hq] at c1 c2 hs
      have hle : (raw (l.take k)).length ≤ k := by have := raw_le (l.take k); simp at this; omega
      have Hs := Lib.hid hs
      have Hq := Lib.hid hq
      have Hqb := Lib.hid hqb
      clear hs hq hqb
      obtain ⟨lo, hi'⟩ := q
      simp only at c1 c2
      go_wp2_with fail
      refine (pieceOf_any (lo, hi') _ Hqb.out.1 Hqb.out.2).mono ?_
      rintro e w1 ⟨rfl, hb1⟩
      have hown1 := owns_below (hown.alloc (.cells #[.int .i32 lo, .int .i32 hi'] 54)) hb1
      have hB1 : Below w.heap.size w w1 := bel_then (by repeat (first | exact Below.refl _ _ | assumption | (refine Below.drew ?_) | (refine below_drewN ?_ _) | (refine bel_new ?_ _) | (refine bel_then ?_ (by assumption)))) hb1
      clear hown hbel hb1 c1 c2
      obtain ⟨p, hp⟩ : ∃ p, p = pcOf (lo, hi') := ⟨_, rfl⟩
      have hpr := pcOf_range (lo, hi')
      rw [← hp] at hpr ⊢
      obtain ⟨a, c⟩ := p
      have Hp := Lib.hid hp
      clear hp
      simp only at hpr
      by_cases hac : a < c
      · go_wp2_with (at_builtin; refine wpList_append_row _ rfl _ _ 95 rfl w.heap.size 98 i0 (.agg #[.int .i64 0, .int .i64 0]) 2 16 Tryz.underlying95 hi hz0 hz1 hz2 rfl (by decide) _ _ _ rfl ((hown1.alloc _).alloc _) _ 1 [.int .i64 a, .int .i64 c] rfl (rowNew2 _ _ _ _ (w1.heap.size + 1) (by simp)) rfl (by simp [Value.oneCell']) (by unfold maxLen; omega) (by omega) (by have := hB1.size; simp; omega) ?_; intro v' w2 hown2 hgrow2)
        have hB2 : Below w.heap.size w w2 := bel_grown (by repeat (first | exact Below.refl _ _ | assumption | (refine Below.drew ?_) | (refine below_drewN ?_ _) | (refine bel_new ?_ _) | (refine bel_then ?_ (by assumption)))) hgrow2 (fun j hj => (hown1.lt j hj).1)
        have H1 := Lib.hid (And.intro hown2 hB2)
        clear hown2 hgrow2 hB2 hown1 hB1
        go_wp2
        go_roundw
        case rel => exact ⟨k + 1, by omega, by go_num, by rw [Hs.out, ← Hp.out, if_pos hac, List.length_append, flatK_append]; exact H1.out.1, H1.out.2⟩
        case measure => simp [intOf] <;> omega
      · have H1 := Lib.hid (And.intro hown1 hB1)
        clear hown1 hB1
        go_wp2
        go_roundw
        case rel => exact ⟨k + 1, by omega, by go_num, by rw [Hs.out, ← Hp.out, if_neg (Int.not_lt.2 hac), List.append_nil]; exact H1.out.1.alloc _, bel_new H1.out.2 _⟩
        case measure => simp [intOf] <;> omega
    · have hkn : k = l.length := by omega
      subst hkn
      rw [List.take_length] at hown
      have hrl := raw_le l
      go_wp2_with fail
      refine (sortPieces (raw l) _ _ _ hown (by omega)).mono ?_
      rintro e w2 ⟨rfl, d, hperm, hsort, hown2, hg2⟩
      have hB2 : Below w.heap.size w w2 := bel_grown hbel hg2 (fun j hj => (hown.lt j hj).1)
      have hdl : d.length = (raw l).length := hperm.length_eq
      rw [← hdl] at hown2 hrl
      have hR := Row.owned hown2
      have hM := merge_pcs l d hsort (fun q => hperm.mem_iff)
      have H0 := Lib.hid (And.intro hM (And.intro hB2 (And.intro hperm hsort)))
      have HR := Lib.hid hR
      clear hown hbel hg2 hown2 hM hB2 hperm hsort hdl
      obtain ⟨o3, c3, rfl⟩ := rowFormRn hR
      clear hR
      go_wp2_with fail
      obtain ⟨B, hB⟩ : ∃ B, B = w2.heap.size := ⟨_, rfl⟩
      go_loopw [7, 33] (fun u i wr => ∃ k : Nat, k ≤ d.length ∧ i = .int .i64 k ∧ wr.ownsRow B 98 2 u (merge (d.take k)).length (flatK .i64 (merge (d.take k))) ∧ Below B w2 wr)
        (fun _ i _ => d.length - (intOf i).toNat)
      case atStart => exact ⟨0, Nat.zero_le _, rfl, World.ownsRow_nil _ _ _ _, Below.refl _ _⟩
      case round =>
        obtain ⟨k, hk, rfl, hown, hbel⟩ := hrel
        have hBs : B ≤ wr.heap.size := by rw [hB]; exact hbel.size
        by_cases hk2 : k < d.length
        · obtain ⟨b, off, cap', e, hlt⟩ := HR.out.head (by omega)
          simp only [Value.slice.injEq, true_and] at e
          obtain ⟨rfl, rfl⟩ := e
          obtain ⟨_, c1, c2⟩ := HR.out.pair hk2 rfl
          have hltB : b < B := by rw [hB]; exact hlt
          rw [← hbel.cell hltB] at c1 c2
          have hs := take_one d (0, 0) k hk2
          obtain ⟨p, hp⟩ : ∃ p, p = d.getD k (0, 0) := ⟨_, rfl⟩
          rw [← hp] at c1 c2 hs
          have hml := merge_len (d.take k)
          rw [List.length_take] at hml
          have Hp := Lib.hid hp
          have Hs := Lib.hid hs
          obtain ⟨M, hM⟩ : ∃ M, M = merge (d.take k) := ⟨_, rfl⟩
          rw [← hM] at hown hml
          obtain ⟨lo, hi'⟩ := p
          simp only at c1 c2
          by_cases hk0 : k = 0
          · have hM0 : M = [] := by rw [hM, hk0]; rfl
            subst hM0
            have HM := Lib.hid (And.intro hM hk0)
            clear hM hs hp hk0
            obtain ⟨o7, c7, rfl⟩ := rowFormRn (Row.owned hown)
            have hnil : ([] : List Pc).length = 0 := rfl
            rw [hnil] at hown ⊢
            go_wp2_with fail
            go_quiet (fail)
            have f1 := owns_drewN (hown.alloc (.cells #[.int .i64 lo, .int .i64 hi'] 98)) nq
            have f2 : Below B w2 ((wr.alloc (.cells #[.int .i64 lo, .int .i64 hi'] 98)).drewN nq) := below_drewN (hbel.alloc hBs _) nq
            have f3 : ((wr.alloc (.cells #[.int .i64 lo, .int .i64 hi'] 98)).drewN nq).cell? ⟨wr.heap.size, 0, none⟩ = some (.int .i64 lo) := by simp
            have f4 : ((wr.alloc (.cells #[.int .i64 lo, .int .i64 hi'] 98)).drewN nq).cell? ⟨wr.heap.size, 1, none⟩ = some (.int .i64 hi') := by simp
            generalize hwq : (wr.alloc (.cells #[.int .i64 lo, .int .i64 hi'] 98)).drewN nq = wq at f1 f2 f3 f4 ⊢
            have f5 : B ≤ wq.heap.size := by rw [hB]; exact f2.size
            clear hwq hown hbel
            go_wp2_with (at_builtin; go_loud (refine wpList_append_row _ rfl _ _ 95 rfl B 98 i0 (.agg #[.int .i64 0, .int .i64 0]) 2 16 Tryz.underlying95 hi hz0 hz1 hz2 rfl (by decide) _ _ _ rfl (f1.alloc _) _ 1 [.int .i64 lo, .int .i64 hi'] rfl (rowNew2 _ _ _ _ wq.heap.size rfl) rfl (by simp [Value.oneCell']) (by unfold maxLen; omega) (by omega) (by simp; omega) ?_); intro v' w3 hown3 hgrow3)
            have hB3 : Below B w2 w3 := (f2.alloc f5 _).grown hgrow3 (by simp; omega) (fun j hj => (f1.lt j hj).1)
            have H1 := Lib.hid (And.intro hown3 hB3)
            clear hown3 hgrow3 hB3 f1 f2 f3 f4
            go_roundw
            case rel => exact ⟨k + 1, by omega, by go_num, by rw [Hs.out, HM.out.2]; exact H1.out.1, H1.out.2⟩
            case measure => simp [intOf] <;> omega
          · have hml2 := hml
            obtain ⟨t, q, e1, e2⟩ := merge_snoc (d.take k) (lo, hi') (by intro h; have := congrArg List.length h; rw [List.length_take, List.length_nil] at this; omega)
            obtain ⟨qa, qc⟩ := q
            rw [← hM] at e1
            subst e1
            have e3 : (t ++ [(qa, qc)]).length = t.length + 1 := by simp
            have e4 : (flatK .i64 (t ++ [(qa, qc)]))[t.length * 2 + 1]? = some (.int .i64 qc) := by
              have := (flatK_at .i64 (t ++ [(qa, qc)]) t.length (by simp)).2
              rwa [getD_snoc] at this
            obtain ⟨g, c7, rfl⟩ := Joins.ownsRow_form hown (by simp)
            have e5 := hown
            rw [e3] at e5
            have hml : t.length + 1 ≤ k := by rw [← e3]; omega
            obtain ⟨m, hm⟩ : ∃ m, m = t.length := ⟨_, rfl⟩
            obtain ⟨X, hX⟩ : ∃ X, X = flatK .i64 (t ++ [(qa, qc)]) := ⟨_, rfl⟩
            rw [← hm, ← hX] at e5
            rw [← hm, ← hX] at e4
            rw [← hm] at hml
            rw [e3, ← hm]
            have HM := Lib.hid (And.intro hM (And.intro e2 (And.intro hm hX)))
            clear hM e2 e3 hs hp hm hml2 hX hown
            have hg := (e5.lt g rfl).2
            by_cases hle : lo ≤ qc
            · have g1 : wr.cell? ⟨g, m * 2 + 1, none⟩ = some (.int .i64 qc) := by
                rw [e5.cellAt _ (by omega)]; exact e4
              go_wp2_with fail
              have hw1 : IntKind.i64.wrap (m : Int) = (m : Int) := iwrap (by omega)
              have hw3 : (0 : Int) ≤ (m : Int) := by omega
              have hw4 : (m : Int) < (m : Int) + 1 := by omega
              go_quiet (fail)
              have f1 := owns_drewN (e5.alloc (.cells #[.int .i64 lo, .int .i64 hi'] 98)) nq
              have f2 : Below B w2 ((wr.alloc (.cells #[.int .i64 lo, .int .i64 hi'] 98)).drewN nq) := below_drewN (hbel.alloc hBs _) nq
              have f3 : ((wr.alloc (.cells #[.int .i64 lo, .int .i64 hi'] 98)).drewN nq).cell? ⟨wr.heap.size, 0, none⟩ = some (.int .i64 lo) := by simp
              have f4 : ((wr.alloc (.cells #[.int .i64 lo, .int .i64 hi'] 98)).drewN nq).cell? ⟨wr.heap.size, 1, none⟩ = some (.int .i64 hi') := by simp
              generalize hwq : (wr.alloc (.cells #[.int .i64 lo, .int .i64 hi'] 98)).drewN nq = wq at f1 f2 f3 f4 ⊢
              have f5 : B ≤ wq.heap.size := by rw [hB]; exact f2.size
              have f6 : wq.cell? ⟨g, m * 2 + 1, none⟩ = some (.int .i64 qc) := by
                rw [f1.cellAt _ (by omega)]; exact e4
              have f7 := f1.frozenAt (m * 2 + 1)
              clear hwq hbel e5 g1
              go_wp2_with fail
              have hw1 : IntKind.i64.wrap (m : Int) = (m : Int) := iwrap (by omega)
              refine still_tail 14 (by kernel_rfl) (by kernel_rfl) ?_
              simp only [List.take_succ_cons, List.take_zero, List.drop_succ_cons, List.drop_zero]
              repeat (first | still_step)
              refine wpStill_nil ?_
              go_wp2_with fail
              have hs1 := (f1.stored (m * 2 + 1) (.int .i64 (max qc hi'))).1
              have hB3 : Below B w2 (wq.setCell ⟨g, m * 2 + 1, none⟩ (.int .i64 (max qc hi'))).drew := (f2.setCell (p := ⟨g, m * 2 + 1, none⟩) (f1.lt g rfl).1 _).drew
              have H1 := Lib.hid (And.intro hs1.drew hB3)
              clear hs1 hB3 f1 f2 f3 f4 f6 f7
              go_roundw
              case rel =>
                refine ⟨k + 1, by omega, by go_num, ?_, H1.out.2⟩
                have h := H1.out.1
                obtain ⟨_, k2, k3, k4⟩ := HM.out
                have e9 : (t ++ [(qa, max qc hi')]).length = m + 1 := by simp; omega
                have e10 : X.set (m * 2 + 1) (.int .i64 (max qc hi')) = flatK .i64 (t ++ [(qa, max qc hi')]) := by rw [k4, k3]; exact flatK_last .i64 t (qa, qc) _
                rw [Hs.out, k2, if_pos hle, e9, ← e10]
                exact h
              case measure => simp [intOf] <;> omega
            · have g1 : wr.cell? ⟨g, m * 2 + 1, none⟩ = some (.int .i64 qc) := by
                rw [e5.cellAt _ (by omega)]; exact e4
              go_wp2_with fail
              have hw1 : IntKind.i64.wrap (m : Int) = (m : Int) := iwrap (by omega)
              have hw3 : (0 : Int) ≤ (m : Int) := by omega
              have hw4 : (m : Int) < (m : Int) + 1 := by omega
              go_quiet (fail)
              have f1 := owns_drewN (e5.alloc (.cells #[.int .i64 lo, .int .i64 hi'] 98)) nq
              have f2 : Below B w2 ((wr.alloc (.cells #[.int .i64 lo, .int .i64 hi'] 98)).drewN nq) := below_drewN (hbel.alloc hBs _) nq
              have f3 : ((wr.alloc (.cells #[.int .i64 lo, .int .i64 hi'] 98)).drewN nq).cell? ⟨wr.heap.size, 0, none⟩ = some (.int .i64 lo) := by simp
              have f4 : ((wr.alloc (.cells #[.int .i64 lo, .int .i64 hi'] 98)).drewN nq).cell? ⟨wr.heap.size, 1, none⟩ = some (.int .i64 hi') := by simp
              generalize hwq : (wr.alloc (.cells #[.int .i64 lo, .int .i64 hi'] 98)).drewN nq = wq at f1 f2 f3 f4 ⊢
              have f5 : B ≤ wq.heap.size := by rw [hB]; exact f2.size
              have hXl : X.length = (m + 1) * 2 := f1.1
              clear hwq hbel e5 g1 hw1 hw3 hw4
              go_wp2_with (at_builtin; refine wpList_append_row _ rfl _ _ 95 rfl B 98 i0 (.agg #[.int .i64 0, .int .i64 0]) 2 16 Tryz.underlying95 hi hz0 hz1 hz2 rfl (by decide) _ _ _ rfl (f1.alloc _) _ 1 [.int .i64 lo, .int .i64 hi'] rfl (rowNew2 _ _ _ _ wq.heap.size rfl) rfl (by simp [Value.oneCell']) (by unfold maxLen; omega) (by omega) (by simp; omega) ?_; intro v' w3 hown3 hgrow3)
              have hB3 : Below B w2 w3 := (f2.alloc f5 _).grown hgrow3 (by simp; omega) (fun j hj => (f1.lt j hj).1)
              have H1 := Lib.hid (And.intro hown3 hB3)
              clear hown3 hgrow3 hB3 f1 f2 f3 f4 hXl
              go_roundw
              case rel =>
                refine ⟨k + 1, by omega, by go_num, ?_, H1.out.2⟩
                have h := H1.out.1
                obtain ⟨_, k2, k3, k4⟩ := HM.out
                rw [Hs.out, k2, if_neg (Int.not_le.2 hle), show t ++ [(qa, qc), (lo, hi')] = (t ++ [(qa, qc)]) ++ [(lo, hi')] by simp, List.length_append, flatK_append]
                have e9 : (t ++ [(qa, qc)]).length + [(lo, hi')].length = m + 1 + 1 := by simp; omega
                rw [e9, ← k4]
                exact h
              case measure => simp [intOf] <;> omega
        · have hkn : k = d.length := by omega
          subst hkn
          rw [List.take_length, H0.out.1] at hown
          go_wp2
          go_ret
          exact ⟨_, rfl, owns_base hown (by rw [hB]; exact H0.out.2.1.size), bel_then H0.out.2.1 (by rw [← hB]; exact hbel)⟩
end Go.Proofs.YtmgfpcblbbpahaaGreat.Rn
