/- runes: Has, Or, And, Count. -/
import Derived.Deep.RegionHeld3
import Derived.Deep.AppendLies
import Derived.Test.YtmgfpcblbbpahaaGreatRnSort2
import Derived.Test.YtmgfpcblbbpahaaGreatStill
import Derived.Laws.OwnMore
import Derived.Test.YtmgfpcblbbpahaaGreatBut
import Derived.Test.YtmgfpcblbbpahaaGreatSetsG1
import Derived.Shelf.Spec.SlicesGrow
set_option linter.unusedVariables false
set_option linter.unusedSimpArgs false
namespace Go.Proofs.YtmgfpcblbbpahaaGreat.Rn
open Go.RowKit Ru Go.Sort

theorem rowFormRn {w : World} {v : Value} {n : Nat} {cs : List Value} (h : Row w v n cs) : ∃ o c, v = .slice o n c := by obtain ⟨o, c, e, _⟩ := h; exact ⟨o, c, e⟩
theorem iwrap {x : Int} (h : -9223372036854775808 ≤ x ∧ x ≤ 9223372036854775807) : IntKind.i64.wrap x = x := IntWalk.i64_in _ h
theorem rngs_take_succ (P : List Pc) (k : Nat) (h : k < P.length) : rngs (P.take (k + 1)) = rngs (P.take k) ++ [(vlu (P.getD k (0, 0)).1, vlu ((P.getD k (0, 0)).2 - 1))] := by
  rw [take_one P (0, 0) k h]; simp [rngs]
theorem rngs_len (P : List Pc) : (rngs P).length = P.length := by simp [rngs]

theorem rowNew (w : World) (u v : Value) (e : TypeId) (B : Nat) (hB : w.heap.size = B) : Row (w.alloc (.cells #[u, v] e)).drew (.slice (some ⟨B, 0, none⟩) 1 1) 1 [u, v] := by
  subst hB
  refine ⟨_, _, rfl, Nat.le_refl _, by decide, .inr ⟨w.heap.size, 0, rfl, by simp, fun j x hx => ?_⟩⟩
  rw [Nat.zero_add, World.cell?_drew, World.cell?_alloc_mark]
  simpa using hx
theorem rowNew2 (w : World) (u v : Value) (e : TypeId) (B : Nat) (hB : w.heap.size = B) : Row (w.alloc (.cells #[u, v] e)) (.slice (some ⟨B, 0, none⟩) 1 1) 1 [u, v] := by
  subst hB
  refine ⟨_, _, rfl, Nat.le_refl _, by decide, .inr ⟨w.heap.size, 0, rfl, by simp, fun j x hx => ?_⟩⟩
  rw [Nat.zero_add, World.cell?_alloc_mark]
  simpa using hx
set_option maxHeartbeats 1000000 in
set_option maxRecDepth 1000000 in
theorem ranges_any (P : List Pc) (v : Value) (w : World) (hr : Row w v P.length (flatK .i64 P)) (hn : P.length ≤ 10000000) (hb : ∀ q ∈ P, 0 ≤ q.1 ∧ q.1 < q.2 ∧ q.2 ≤ 1112064) :
    Calls Tryz.prog 64 #[v] w fun e w' => ∃ u, e = .returned u ∧ w'.ownsRow w.heap.size 54 2 u (rngs P).length (flatK .i32 (rngs P)) ∧ Below w.heap.size w w' := by
  obtain ⟨i0, hi, hz0, hz1, hz2⟩ := infoRange
  have Hr := Lib.hid hr
  have Hb := Lib.hid hb
  obtain ⟨o, cap, rfl, hcap, hmax, _⟩ := hr
  clear hb
  go_enter Tryz.func64, Tryz.ntmps64
  go_wp2_with fail
  go_loopw [3, 8] (fun u i wr => ∃ k : Nat, k ≤ P.length ∧ i = .int .i64 k ∧ wr.ownsRow w.heap.size 54 2 u (rngs (P.take k)).length (flatK .i32 (rngs (P.take k))) ∧ Below w.heap.size w wr)
    (fun _ i _ => P.length - (intOf i).toNat)
  case atStart => exact ⟨0, Nat.zero_le _, rfl, World.ownsRow_nil _ _ _ _, Below.refl _ _⟩
  case round =>
    obtain ⟨k, hk, rfl, hown, hbel⟩ := hrel
    by_cases hk2 : k < P.length
    · obtain ⟨b, off, cap', e, hlt⟩ := Hr.out.head (by omega)
      simp only [Value.slice.injEq, true_and] at e
      obtain ⟨rfl, rfl⟩ := e
      obtain ⟨_, c1, c2⟩ := Hr.out.pair hk2 rfl
      rw [← hbel.cell hlt] at c1 c2
      have hs := rngs_take_succ P k hk2
      obtain ⟨q, hq⟩ : ∃ q, q = P.getD k (0, 0) := ⟨_, rfl⟩
      have hqb := Hb.out q (by rw [hq]; simp [List.getD, List.getElem?_eq_getElem hk2])
      rw [← hq] at c1 c2 hs
      obtain ⟨lo, hi'⟩ := q
      simp only at c1 c2 hs hqb
      obtain ⟨hq1, hq2, hq3⟩ := hqb
      have hle : (rngs (P.take k)).length ≤ k := by rw [rngs_len]; simp; omega
      have Hs := Lib.hid hs
      have Hq := Lib.hid hq
      clear hs hq
      go_wp2_with fail
      have hw1 : IntKind.i64.wrap (hi' - 1) = hi' - 1 := iwrap (by omega)
      have hfar : u3.ownBlock ≠ some wr.heap.size := fun e => by have := (hown.lt _ e).2; omega
      go_region_held3 (fun w' => w'.cell? ⟨wr.heap.size, 0, none⟩ = some (.int .i64 lo) ∧ w'.cell? ⟨wr.heap.size, 1, none⟩ = some (.int .i64 hi'))
        (first | (simp [go_sem]; done) | go_keep | (refine ⟨?_, ?_⟩ <;> (rw [hgrow1.cell_far _ (by simp; omega) (Ne.symm hfar)]; simp [go_sem])))
        (first
         | (go_at_call 94; refine (value_any _ _ (by omega)).mono ?_; rintro e w' ⟨rfl, rfl⟩)
         | (refine step_append_row _ (by rfl) _ _ 39 (by rfl) w.heap.size 54 i0 _ 2 8 Tryz.underlying39 hi hz0 hz1 hz2 rfl (by omega) _ _ _ (by rfl) ((hown.alloc _).alloc _).drew _ 1 [.int .i32 (vlu lo), .int .i32 (vlu (hi' - 1))] (by rfl) (rowNew _ _ _ _ (wr.heap.size + 1) (by simp)) (by rfl) (by simp [Value.oneCell']) (by unfold maxLen; omega) (by omega) (by have := hbel.size; simp; omega) ?_; intro v' w1 hown1 hgrow1))
      have hB1 : Below w.heap.size w w1 := bel_grown (by repeat (first | exact Below.refl _ _ | assumption | (refine Below.drew ?_) | (refine below_drewN ?_ _) | (refine bel_new ?_ _) | (refine bel_then ?_ (by assumption)))) hgrow1 (fun j hj => (hown.lt j hj).1)
      have H1 := Lib.hid (And.intro hown1 hB1)
      clear hown1 hgrow1 hB1 hown hbel
      go_wp2
      go_roundw
      case rel => exact ⟨k + 1, by omega, by go_num, by rw [Hs.out, List.length_append, flatK_append]; exact H1.out.1, H1.out.2⟩
      case measure => simp [intOf] <;> omega
    · have hkn : k = P.length := by omega
      subst hkn
      rw [List.take_length] at hown
      go_wp2
      go_ret
      exact ⟨_, rfl, hown, hbel⟩
end Go.Proofs.YtmgfpcblbbpahaaGreat.Rn

namespace Go.Proofs.YtmgfpcblbbpahaaGreat.Rn
open Go.RowKit Ru

theorem raw_take_succ (l : List Pc) (k : Nat) (h : k < l.length) : raw (l.take (k + 1)) = raw (l.take k) ++ if (pcOf (l.getD k (0, 0))).1 < (pcOf (l.getD k (0, 0))).2 then [pcOf (l.getD k (0, 0))] else [] := by
  rw [take_one l (0, 0) k h]
  unfold raw
  rw [List.map_append, List.filter_append]
  congr 1
  by_cases h : (pcOf (l.getD k (0, 0))).1 < (pcOf (l.getD k (0, 0))).2 <;> simp only [List.map_cons, List.map_nil, List.filter_cons, List.filter_nil, h, decide_true, decide_false, if_true, if_false] <;> simp
theorem raw_le (l : List Pc) : (raw l).length ≤ l.length := by
  unfold raw
  have := List.length_filter_le (fun p : Pc => decide (p.1 < p.2)) (l.map pcOf)
  simpa using this
theorem owns_drewN {w : World} {base : Nat} {e : TypeId} {size n : Nat} {v : Value} {xs : List Value} (h : w.ownsRow base e size v n xs) (q : Nat) : (w.drewN q).ownsRow base e size v n xs := owns_below h (below_drewN (Below.refl _ _) q)
def i32s (l : List (Int × Int)) : Prop := ∀ p ∈ l, (-2147483648 ≤ p.1 ∧ p.1 ≤ 2147483647) ∧ (-2147483648 ≤ p.2 ∧ p.2 ≤ 2147483647)

set_option maxHeartbeats 4000000 in
set_option maxRecDepth 1000000 in
theorem pieces_any (l : List (Int × Int)) (v : Value) (w : World) (hr : Row w v l.length (flatK .i32 l)) (hz : i32s l) (hn : l.length ≤ 100000) :
    Calls Tryz.prog 61 #[v] w fun e w' => ∃ u, e = .returned u ∧ w'.ownsRow w.heap.size 98 2 u (pcs l).length (flatK .i64 (pcs l)) ∧ Below w.heap.size w w' := by
  obtain ⟨i0, hi, hz0, hz1, hz2⟩ := infoPiece
  have Hr := Lib.hid hr
  have Hz := Lib.hid hz
  obtain ⟨o, cap, rfl, hcap, hmax, _⟩ := hr
  clear hz
  go_enter Tryz.func61, Tryz.ntmps61
  go_wp2_with fail
  go_loopw [3, 13] (fun u i wr => ∃ k : Nat, k ≤ l.length ∧ i = .int .i64 k ∧ wr.ownsRow w.heap.size 98 2 u (raw (l.take k)).length (flatK .i64 (raw (l.take k))) ∧ Below w.heap.size w wr)
    (fun _ i _ => l.length - (intOf i).toNat)
  case atStart => exact ⟨0, Nat.zero_le _, rfl, World.ownsRow_nil _ _ _ _, Below.refl _ _⟩
  case round =>
    obtain ⟨k, hk, rfl, hown, hbel⟩ := hrel
    by_cases hk2 : k < l.length
    · obtain ⟨b, off, cap', e, hlt⟩ := Hr.out.head (by omega)
      simp only [Value.slice.injEq, true_and] at e
      obtain ⟨rfl, rfl⟩ := e
      obtain ⟨_, c1, c2⟩ := Hr.out.pair hk2 rfl
      rw [← hbel.cell hlt] at c1 c2
      have hs := raw_take_succ l k hk2
      obtain ⟨q, hq⟩ : ∃ q, q = l.getD k (0, 0) := ⟨_, rfl⟩
      have hqb := Hz.out q (by rw [hq]; simp [List.getD, List.getElem?_eq_getElem hk2])
      rw [← hq] at c1 c2 hs
      have hle : (raw (l.take k)).length ≤ k := by have := raw_le (l.take k); simp at this; omega
      have Hs := Lib.hid hs
      have Hq := Lib.hid hq
      have Hqb := Lib.hid hqb
      clear hs hq hqb
      obtain ⟨lo, hi'⟩ := q
      simp only at c1 c2
      go_wp2_with fail
      refine (pieceOf_any (lo, hi') _ Hqb.out.1 Hqb.out.2).mono ?_
      rintro e w1 ⟨rfl, hb1⟩
      have hown1 := owns_below (hown.alloc (.cells #[.int .i32 lo, .int .i32 hi'] 54)) hb1
      have hB1 : Below w.heap.size w w1 := bel_then (by repeat (first | exact Below.refl _ _ | assumption | (refine Below.drew ?_) | (refine below_drewN ?_ _) | (refine bel_new ?_ _) | (refine bel_then ?_ (by assumption)))) hb1
      clear hown hbel hb1 c1 c2
      obtain ⟨p, hp⟩ : ∃ p, p = pcOf (lo, hi') := ⟨_, rfl⟩
      have hpr := pcOf_range (lo, hi')
      rw [← hp] at hpr ⊢
      obtain ⟨a, c⟩ := p
      have Hp := Lib.hid hp
      clear hp
      simp only at hpr
      by_cases hac : a < c
      · go_wp2_with (at_builtin; refine wpList_append_row _ rfl _ _ 95 rfl w.heap.size 98 i0 (.agg #[.int .i64 0, .int .i64 0]) 2 16 Tryz.underlying95 hi hz0 hz1 hz2 rfl (by decide) _ _ _ rfl ((hown1.alloc _).alloc _) _ 1 [.int .i64 a, .int .i64 c] rfl (rowNew2 _ _ _ _ (w1.heap.size + 1) (by simp)) rfl (by simp [Value.oneCell']) (by unfold maxLen; omega) (by omega) (by have := hB1.size; simp; omega) ?_; intro v' w2 hown2 hgrow2)
        have hB2 : Below w.heap.size w w2 := bel_grown (by repeat (first | exact Below.refl _ _ | assumption | (refine Below.drew ?_) | (refine below_drewN ?_ _) | (refine bel_new ?_ _) | (refine bel_then ?_ (by assumption)))) hgrow2 (fun j hj => (hown1.lt j hj).1)
        have H1 := Lib.hid (And.intro hown2 hB2)
        clear hown2 hgrow2 hB2 hown1 hB1
        go_wp2
        go_roundw
        case rel => exact ⟨k + 1, by omega, by go_num, by rw [Hs.out, ← Hp.out, if_pos hac, List.length_append, flatK_append]; exact H1.out.1, H1.out.2⟩
        case measure => simp [intOf] <;> omega
      · have H1 := Lib.hid (And.intro hown1 hB1)
        clear hown1 hB1
        go_wp2
        go_roundw
        case rel => exact ⟨k + 1, by omega, by go_num, by rw [Hs.out, ← Hp.out, if_neg (Int.not_lt.2 hac), List.append_nil]; exact H1.out.1.alloc _, bel_new H1.out.2 _⟩
        case measure => simp [intOf] <;> omega
    · have hkn : k = l.length := by omega
      subst hkn
      rw [List.take_length] at hown
      have hrl := raw_le l
      go_wp2_with fail
      refine (sortPieces (raw l) _ _ _ hown (by omega)).mono ?_
      rintro e w2 ⟨rfl, d, hperm, hsort, hown2, hg2⟩
      have hB2 : Below w.heap.size w w2 := bel_grown hbel hg2 (fun j hj => (hown.lt j hj).1)
      have hdl : d.length = (raw l).length := hperm.length_eq
      rw [← hdl] at hown2 hrl
      have hR := Row.owned hown2
      have hM := merge_pcs l d hsort (fun q => hperm.mem_iff)
      have H0 := Lib.hid (And.intro hM (And.intro hB2 (And.intro hperm hsort)))
      have HR := Lib.hid hR
      clear hown hbel hg2 hown2 hM hB2 hperm hsort hdl
      obtain ⟨o3, c3, rfl⟩ := rowFormRn hR
      clear hR
      go_wp2_with fail
      obtain ⟨B, hB⟩ : ∃ B, B = w2.heap.size := ⟨_, rfl⟩
      go_loopw [7, 33] (fun u i wr => ∃ k : Nat, k ≤ d.length ∧ i = .int .i64 k ∧ wr.ownsRow B 98 2 u (merge (d.take k)).length (flatK .i64 (merge (d.take k))) ∧ Below B w2 wr)
        (fun _ i _ => d.length - (intOf i).toNat)
      case atStart => exact ⟨0, Nat.zero_le _, rfl, World.ownsRow_nil _ _ _ _, Below.refl _ _⟩
      case round =>
        obtain ⟨k, hk, rfl, hown, hbel⟩ := hrel
        have hBs : B ≤ wr.heap.size := by rw [hB]; exact hbel.size
        by_cases hk2 : k < d.length
        · obtain ⟨b, off, cap', e, hlt⟩ := HR.out.head (by omega)
          simp only [Value.slice.injEq, true_and] at e
          obtain ⟨rfl, rfl⟩ := e
          obtain ⟨_, c1, c2⟩ := HR.out.pair hk2 rfl
          have hltB : b < B := by rw [hB]; exact hlt
          rw [← hbel.cell hltB] at c1 c2
          have hs := take_one d (0, 0) k hk2
          obtain ⟨p, hp⟩ : ∃ p, p = d.getD k (0, 0) := ⟨_, rfl⟩
          rw [← hp] at c1 c2 hs
          have hml := merge_len (d.take k)
          rw [List.length_take] at hml
          have Hp := Lib.hid hp
          have Hs := Lib.hid hs
          obtain ⟨M, hM⟩ : ∃ M, M = merge (d.take k) := ⟨_, rfl⟩
          rw [← hM] at hown hml
          obtain ⟨lo, hi'⟩ := p
          simp only at c1 c2
          by_cases hk0 : k = 0
          · have hM0 : M = [] := by rw [hM, hk0]; rfl
            subst hM0
            have HM := Lib.hid (And.intro hM hk0)
            clear hM hs hp hk0
            obtain ⟨o7, c7, rfl⟩ := rowFormRn (Row.owned hown)
            have hnil : ([] : List Pc).length = 0 := rfl
            rw [hnil] at hown ⊢
            go_wp2_with fail
            go_quiet (fail)
            have f1 := owns_drewN (hown.alloc (.cells #[.int .i64 lo, .int .i64 hi'] 98)) nq
            have f2 : Below B w2 ((wr.alloc (.cells #[.int .i64 lo, .int .i64 hi'] 98)).drewN nq) := below_drewN (hbel.alloc hBs _) nq
            have f3 : ((wr.alloc (.cells #[.int .i64 lo, .int .i64 hi'] 98)).drewN nq).cell? ⟨wr.heap.size, 0, none⟩ = some (.int .i64 lo) := by simp
            have f4 : ((wr.alloc (.cells #[.int .i64 lo, .int .i64 hi'] 98)).drewN nq).cell? ⟨wr.heap.size, 1, none⟩ = some (.int .i64 hi') := by simp
            generalize hwq : (wr.alloc (.cells #[.int .i64 lo, .int .i64 hi'] 98)).drewN nq = wq at f1 f2 f3 f4 ⊢
            have f5 : B ≤ wq.heap.size := by rw [hB]; exact f2.size
            clear hwq hown hbel
            go_wp2_with (at_builtin; go_loud (refine wpList_append_row _ rfl _ _ 95 rfl B 98 i0 (.agg #[.int .i64 0, .int .i64 0]) 2 16 Tryz.underlying95 hi hz0 hz1 hz2 rfl (by decide) _ _ _ rfl (f1.alloc _) _ 1 [.int .i64 lo, .int .i64 hi'] rfl (rowNew2 _ _ _ _ wq.heap.size rfl) rfl (by simp [Value.oneCell']) (by unfold maxLen; omega) (by omega) (by simp; omega) ?_); intro v' w3 hown3 hgrow3)
            have hB3 : Below B w2 w3 := (f2.alloc f5 _).grown hgrow3 (by simp; omega) (fun j hj => (f1.lt j hj).1)
            have H1 := Lib.hid (And.intro hown3 hB3)
            clear hown3 hgrow3 hB3 f1 f2 f3 f4
            go_roundw
            case rel => exact ⟨k + 1, by omega, by go_num, by rw [Hs.out, HM.out.2]; exact H1.out.1, H1.out.2⟩
            case measure => simp [intOf] <;> omega
          · have hml2 := hml
            obtain ⟨t, q, e1, e2⟩ := merge_snoc (d.take k) (lo, hi') (by intro h; have := congrArg List.length h; rw [List.length_take, List.length_nil] at this; omega)
            obtain ⟨qa, qc⟩ := q
            rw [← hM] at e1
            subst e1
            have e3 : (t ++ [(qa, qc)]).length = t.length + 1 := by simp
            have e4 : (flatK .i64 (t ++ [(qa, qc)]))[t.length * 2 + 1]? = some (.int .i64 qc) := by
              have := (flatK_at .i64 (t ++ [(qa, qc)]) t.length (by simp)).2
              rwa [getD_snoc] at this
            obtain ⟨g, c7, rfl⟩ := Joins.ownsRow_form hown (by simp)
            have e5 := hown
            rw [e3] at e5
            have hml : t.length + 1 ≤ k := by rw [← e3]; omega
            obtain ⟨m, hm⟩ : ∃ m, m = t.length := ⟨_, rfl⟩
            obtain ⟨X, hX⟩ : ∃ X, X = flatK .i64 (t ++ [(qa, qc)]) := ⟨_, rfl⟩
            rw [← hm, ← hX] at e5
            rw [← hm, ← hX] at e4
            rw [← hm] at hml
            rw [e3, ← hm]
            have HM := Lib.hid (And.intro hM (And.intro e2 (And.intro hm hX)))
            clear hM e2 e3 hs hp hm hml2 hX hown
            have hg := (e5.lt g rfl).2
            by_cases hle : lo ≤ qc
            · have g1 : wr.cell? ⟨g, m * 2 + 1, none⟩ = some (.int .i64 qc) := by
                rw [e5.cellAt _ (by omega)]; exact e4
              go_wp2_with fail
              have hw1 : IntKind.i64.wrap (m : Int) = (m : Int) := iwrap (by omega)
              have hw3 : (0 : Int) ≤ (m : Int) := by omega
              have hw4 : (m : Int) < (m : Int) + 1 := by omega
              go_quiet (fail)
              have f1 := owns_drewN (e5.alloc (.cells #[.int .i64 lo, .int .i64 hi'] 98)) nq
              have f2 : Below B w2 ((wr.alloc (.cells #[.int .i64 lo, .int .i64 hi'] 98)).drewN nq) := below_drewN (hbel.alloc hBs _) nq
              have f3 : ((wr.alloc (.cells #[.int .i64 lo, .int .i64 hi'] 98)).drewN nq).cell? ⟨wr.heap.size, 0, none⟩ = some (.int .i64 lo) := by simp
              have f4 : ((wr.alloc (.cells #[.int .i64 lo, .int .i64 hi'] 98)).drewN nq).cell? ⟨wr.heap.size, 1, none⟩ = some (.int .i64 hi') := by simp
              generalize hwq : (wr.alloc (.cells #[.int .i64 lo, .int .i64 hi'] 98)).drewN nq = wq at f1 f2 f3 f4 ⊢
              have f5 : B ≤ wq.heap.size := by rw [hB]; exact f2.size
              have f6 : wq.cell? ⟨g, m * 2 + 1, none⟩ = some (.int .i64 qc) := by
                rw [f1.cellAt _ (by omega)]; exact e4
              have f7 := f1.frozenAt (m * 2 + 1)
              clear hwq hbel e5 g1
              go_wp2_with fail
              have hw1 : IntKind.i64.wrap (m : Int) = (m : Int) := iwrap (by omega)
              refine still_tail 14 (by kernel_rfl) (by kernel_rfl) ?_
              simp only [List.take_succ_cons, List.take_zero, List.drop_succ_cons, List.drop_zero]
              repeat (first | still_step)
              refine wpStill_nil ?_
              go_wp2_with fail
              have hs1 := (f1.stored (m * 2 + 1) (.int .i64 (max qc hi'))).1
              have hB3 : Below B w2 (wq.setCell ⟨g, m * 2 + 1, none⟩ (.int .i64 (max qc hi'))).drew := (f2.setCell (p := ⟨g, m * 2 + 1, none⟩) (f1.lt g rfl).1 _).drew
              have H1 := Lib.hid (And.intro hs1.drew hB3)
              clear hs1 hB3 f1 f2 f3 f4 f6 f7
              go_roundw
              case rel =>
                refine ⟨k + 1, by omega, by go_num, ?_, H1.out.2⟩
                have h := H1.out.1
                obtain ⟨_, k2, k3, k4⟩ := HM.out
                have e9 : (t ++ [(qa, max qc hi')]).length = m + 1 := by simp; omega
                have e10 : X.set (m * 2 + 1) (.int .i64 (max qc hi')) = flatK .i64 (t ++ [(qa, max qc hi')]) := by rw [k4, k3]; exact flatK_last .i64 t (qa, qc) _
                rw [Hs.out, k2, if_pos hle, e9, ← e10]
                exact h
              case measure => simp [intOf] <;> omega
            · have g1 : wr.cell? ⟨g, m * 2 + 1, none⟩ = some (.int .i64 qc) := by
                rw [e5.cellAt _ (by omega)]; exact e4
              go_wp2_with fail
              have hw1 : IntKind.i64.wrap (m : Int) = (m : Int) := iwrap (by omega)
              have hw3 : (0 : Int) ≤ (m : Int) := by omega
              have hw4 : (m : Int) < (m : Int) + 1 := by omega
              go_quiet (fail)
              have f1 := owns_drewN (e5.alloc (.cells #[.int .i64 lo, .int .i64 hi'] 98)) nq
              have f2 : Below B w2 ((wr.alloc (.cells #[.int .i64 lo, .int .i64 hi'] 98)).drewN nq) := below_drewN (hbel.alloc hBs _) nq
              have f3 : ((wr.alloc (.cells #[.int .i64 lo, .int .i64 hi'] 98)).drewN nq).cell? ⟨wr.heap.size, 0, none⟩ = some (.int .i64 lo) := by simp
              have f4 : ((wr.alloc (.cells #[.int .i64 lo, .int .i64 hi'] 98)).drewN nq).cell? ⟨wr.heap.size, 1, none⟩ = some (.int .i64 hi') := by simp
              generalize hwq : (wr.alloc (.cells #[.int .i64 lo, .int .i64 hi'] 98)).drewN nq = wq at f1 f2 f3 f4 ⊢
              have f5 : B ≤ wq.heap.size := by rw [hB]; exact f2.size
              have hXl : X.length = (m + 1) * 2 := f1.1
              clear hwq hbel e5 g1 hw1 hw3 hw4
              go_wp2_with (at_builtin; refine wpList_append_row _ rfl _ _ 95 rfl B 98 i0 (.agg #[.int .i64 0, .int .i64 0]) 2 16 Tryz.underlying95 hi hz0 hz1 hz2 rfl (by decide) _ _ _ rfl (f1.alloc _) _ 1 [.int .i64 lo, .int .i64 hi'] rfl (rowNew2 _ _ _ _ wq.heap.size rfl) rfl (by simp [Value.oneCell']) (by unfold maxLen; omega) (by omega) (by simp; omega) ?_; intro v' w3 hown3 hgrow3)
              have hB3 : Below B w2 w3 := (f2.alloc f5 _).grown hgrow3 (by simp; omega) (fun j hj => (f1.lt j hj).1)
              have H1 := Lib.hid (And.intro hown3 hB3)
              clear hown3 hgrow3 hB3 f1 f2 f3 f4 hXl
              go_roundw
              case rel =>
                refine ⟨k + 1, by omega, by go_num, ?_, H1.out.2⟩
                have h := H1.out.1
                obtain ⟨_, k2, k3, k4⟩ := HM.out
                rw [Hs.out, k2, if_neg (Int.not_le.2 hle), show t ++ [(qa, qc), (lo, hi')] = (t ++ [(qa, qc)]) ++ [(lo, hi')] by simp, List.length_append, flatK_append]
                have e9 : (t ++ [(qa, qc)]).length + [(lo, hi')].length = m + 1 + 1 := by simp; omega
                rw [e9, ← k4]
                exact h
              case measure => simp [intOf] <;> omega
        · have hkn : k = d.length := by omega
          subst hkn
          rw [List.take_length, H0.out.1] at hown
          go_wp2
          go_ret
          exact ⟨_, rfl, owns_base hown (by rw [hB]; exact H0.out.2.1.size), bel_then H0.out.2.1 (by rw [← hB]; exact hbel)⟩
end Go.Proofs.YtmgfpcblbbpahaaGreat.Rn

namespace Go.Proofs.YtmgfpcblbbpahaaGreat.Rn
open Go.RowKit Ru

namespace Ru
theorem length_ins (p : Pc) : ∀ l, (ins p l).length = l.length + 1
  | [] => rfl
  | q :: l => by unfold ins; split <;> simp [length_ins p l]
theorem length_srt : ∀ l, (srt l).length = l.length
  | [] => rfl
  | p :: l => by simp [srt, length_ins, length_srt l]
theorem pcs_le (l : List Pc) : (pcs l).length ≤ l.length := by
  have h1 := merge_len (srt (raw l))
  rw [length_srt] at h1
  exact Nat.le_trans h1 (raw_le l)
theorem nrm_le (l : List Pc) : (nrm l).length ≤ l.length := by unfold nrm; rw [rngs_len]; exact pcs_le l
theorem ok_of {P : List Pc} (h : Nf (-1) P) (h2 : Bd P) : ∀ q ∈ P, 0 ≤ q.1 ∧ q.1 < q.2 ∧ q.2 ≤ 1112064 := fun q hq => by
  have := h.pos q hq; have := h2 q hq; omega
theorem ok_pcs (l : List Pc) : ∀ q ∈ pcs l, 0 ≤ q.1 ∧ q.1 < q.2 ∧ q.2 ≤ 1112064 := ok_of (pcs_nf l) (pcs_bd l)
end Ru
open Ru
def NotS (w : World) (b qf qo : Nat) (s : List Pc × Int) : Prop :=
  qf < b ∧ qo < b ∧ qf ≠ qo ∧ b ≤ w.heap.size ∧ w.heap[qf]? = some (.cells #[.int .i64 s.2] 3 (0, 0)) ∧
    ∃ v, w.heap[qo]? = some (.cells #[v] 95 (0, 0)) ∧ w.ownsRow b 98 2 v s.1.length (flatK .i64 s.1)
theorem NotS.below {w w' : World} {b qf qo : Nat} {s : List Pc × Int} (h : NotS w b qf qo s) (hb : Below w.heap.size w w') : NotS w' b qf qo s := by
  obtain ⟨h1, h2, h3, h4, h5, v, h6, h7⟩ := h
  exact ⟨h1, h2, h3, Nat.le_trans h4 hb.size, by rw [hb.block qf (by omega)]; exact h5, v, by rw [hb.block qo (by omega)]; exact h6, owns_below h7 hb⟩
theorem butLowRn {w1 w2 : World} {b qa qo n : Nat} (h : But w1 w2 b qa qo) (hn : n ≤ b) (h1 : n ≤ qa) (h2 : n ≤ qo) : Below n w1 w2 := ⟨h.os, h.tape, h.output, h.size, fun k hk => h.block k (by omega) (by omega) (by omega)⟩

end Go.Proofs.YtmgfpcblbbpahaaGreat.Rn

namespace Go.Proofs.YtmgfpcblbbpahaaGreat.Rn
open Go.RowKit _root_.Go.Proofs.YtmgfpcblbbpahaaGreat.Ru Go.Proofs.YtmgfpcblbbpahaaGreat.Rn.Ru

/-! ### Has -/
def hit (r : Int) (p : Pc) : Bool := decide (p.1 ≤ r) && decide (r ≤ p.2)
theorem has_hit (l : List Pc) (r : Int) : has l r = (scal r && l.any (hit r)) := rfl
theorem has1_any (p : Pc) (r : Int) (B : Nat) (w : World) (hB : w.cell? ⟨B, 0, none⟩ = some (.int .i32 r)) :
    Calls Tryz.prog 68 #[.agg #[.int .i32 p.1, .int .i32 p.2], .pointer (some ⟨B, 0, none⟩)] w fun e w' => e = .returned (.bool (hit r p)) ∧ Below w.heap.size w w' := by
  have hlt := World.block_lt_of_cell? w _ hB
  simp only at hlt
  by_cases h1 : p.1 ≤ r
  · by_cases h2 : r ≤ p.2
    · go_enter Tryz.func68, Tryz.ntmps68
      go_wp2
      go_ret
      exact ⟨ret_bool (by simp [hit, h1, h2]), by repeat (first | exact Below.refl _ _ | assumption | (refine Below.drew ?_) | (refine below_drewN ?_ _) | (refine bel_new ?_ _) | (refine bel_then ?_ (by assumption)))⟩
    · go_enter Tryz.func68, Tryz.ntmps68
      go_wp2
      go_ret
      exact ⟨ret_bool (by simp [hit, h1]; omega), by repeat (first | exact Below.refl _ _ | assumption | (refine Below.drew ?_) | (refine below_drewN ?_ _) | (refine bel_new ?_ _) | (refine bel_then ?_ (by assumption)))⟩
  · go_enter Tryz.func68, Tryz.ntmps68
    go_wp2
    go_ret
    exact ⟨ret_bool (by simp [hit]; omega), by repeat (first | exact Below.refl _ _ | assumption | (refine Below.drew ?_) | (refine below_drewN ?_ _) | (refine bel_new ?_ _) | (refine bel_then ?_ (by assumption)))⟩
theorem any_false {l : List Pc} {f : Pc → Bool} (h : ∀ j, j < l.length → f (l.getD j (0, 0)) = false) : l.any f = false := by
  rw [List.any_eq_false]
  intro p hp
  obtain ⟨j, hj, rfl⟩ := List.getElem_of_mem hp
  have := h j hj
  simp [List.getD, List.getElem?_eq_getElem hj] at this
  simp [this]
theorem any_true {l : List Pc} {f : Pc → Bool} (j : Nat) (hj : j < l.length) (h : f (l.getD j (0, 0)) = true) : l.any f = true := by
  rw [List.any_eq_true]
  exact ⟨l[j], List.getElem_mem hj, by simpa [List.getD, List.getElem?_eq_getElem hj] using h⟩
set_option maxHeartbeats 1000000 in
set_option maxRecDepth 1000000 in
theorem indexR_any (l : List Pc) (r : Int) (B : Nat) (v : Value) (w : World) (hr : Row w v l.length (flatK .i32 l)) (hn : l.length ≤ 1000000) (hB : w.cell? ⟨B, 0, none⟩ = some (.int .i32 r)) :
    Calls Tryz.prog 95 #[v, .func (Fn.func 68) #[] #[.pointer (some ⟨B, 0, none⟩)]] w fun e w' =>
      ((l.any (hit r) = false ∧ e = .returned (.int .i64 (-1))) ∨ (l.any (hit r) = true ∧ ∃ k : Nat, k < l.length ∧ e = .returned (.int .i64 k))) ∧ Below w.heap.size w w' := by
  have hlt := World.block_lt_of_cell? w _ hB
  simp only at hlt
  have Hr := Lib.hid hr
  obtain ⟨o, cap, rfl⟩ := hr.form
  have HB := Lib.hid hB
  clear hr hB
  go_enter Tryz.func95, Tryz.ntmps95
  go_wp2_with fail
  go_loopw [8] (fun i wr => ∃ k : Nat, k ≤ l.length ∧ i = .int .i64 k ∧ Below w.heap.size w wr ∧ ∀ j, j < k → hit r (l.getD j (0, 0)) = false)
    (fun i _ => l.length - (intOf i).toNat)
  case atStart => exact ⟨0, Nat.zero_le _, rfl, Below.refl _ _, fun j hj => by omega⟩
  case round =>
    obtain ⟨k, hk, rfl, hbel, hall⟩ := hrel
    have HA := Lib.hid hall
    clear hall
    by_cases hk2 : k < l.length
    · obtain ⟨b, off, cap', e, hltb⟩ := Hr.out.head (by omega)
      simp only [Value.slice.injEq, true_and] at e
      obtain ⟨rfl, rfl⟩ := e
      obtain ⟨_, c1, c2⟩ := Hr.out.pair hk2 rfl
      rw [← hbel.cell hltb] at c1 c2
      have c3 := HB.out
      rw [← hbel.cell hlt] at c3
      obtain ⟨q, hq⟩ : ∃ q, q = l.getD k (0, 0) := ⟨_, rfl⟩
      rw [← hq] at c1 c2
      have Hq := Lib.hid hq
      have H3 := Lib.hid c3
      have HBl := Lib.hid hbel
      clear hq c3 hbel
      go_wp2_with fail
      refine (has1_any q r B _ H3.out).mono ?_
      rintro e w1 ⟨rfl, hb1⟩
      have hB1 : Below w.heap.size w w1 := bel_then HBl.out hb1
      have HB1 := Lib.hid hB1
      clear hb1 hB1 c1 c2
      by_cases hh : hit r q = true
      · rw [hh]
        have Hh := Lib.hid hh
        clear hh
        go_wp2
        go_ret
        exact ⟨.inr ⟨any_true k hk2 (by rw [← Hq.out]; exact Hh.out), k, hk2, rfl⟩, HB1.out⟩
      · have hh' : hit r q = false := by simpa using hh
        rw [hh']
        have Hh := Lib.hid hh'
        clear hh hh'
        go_wp2
        go_roundw
        case rel =>
          refine ⟨k + 1, by omega, by go_num, HB1.out, fun j hj => ?_⟩
          by_cases e : j = k
          · subst e; rw [← Hq.out]; exact Hh.out
          · exact HA.out j (by omega)
        case measure => simp [intOf] <;> omega
    · have hkn : k = l.length := by omega
      subst hkn
      go_wp2
      go_ret
      exact ⟨.inl ⟨any_false HA.out, rfl⟩, hbel⟩
theorem containsR_any (l : List Pc) (r : Int) (B : Nat) (v : Value) (w : World) (hr : Row w v l.length (flatK .i32 l)) (hn : l.length ≤ 1000000) (hB : w.cell? ⟨B, 0, none⟩ = some (.int .i32 r)) :
    Calls Tryz.prog 67 #[v, .func (Fn.func 68) #[] #[.pointer (some ⟨B, 0, none⟩)]] w fun e w' => e = .returned (.bool (l.any (hit r))) ∧ Below w.heap.size w w' := by
  have hx := Lib.hid (indexR_any l r B v w hr hn hB)
  go_enter Tryz.func67, Tryz.ntmps67
  go_wp2_with fail
  refine hx.out.mono ?_
  rintro e w1 ⟨⟨hm, rfl⟩ | ⟨hm, k, hk, rfl⟩, hb1⟩
  · go_wp2
    go_ret
    exact ⟨by rw [hm]; rfl, hb1⟩
  · go_wp2
    go_ret
    exact ⟨by rw [hm]; simp, hb1⟩
theorem has_any (l : List Pc) (r : Int) (v : Value) (w : World) (hr : Row w v l.length (flatK .i32 l)) (hn : l.length ≤ 1000000) :
    Calls Tryz.prog 39 #[v, .int .i32 r] w fun e w' => e = .returned (.bool (has l r)) ∧ Below w.heap.size w w' := by
  have hmf : ∀ (fn : Fn) (first cap : Array Value) (w : World), (Instr.makeFunc fn first cap).run Tryz.prog w = .ok (.func fn first cap) w := fun _ _ _ _ => rfl
  have hc := containsR_any l r w.heap.size v (w.alloc (.cells #[.int .i32 r] 21)) (hr.below (bel_new (Below.refl _ _) _)) hn (by simp)
  have Hc := Lib.hid hc
  rw [has_hit]
  clear hc hr
  by_cases hs : scal r = true
  · go_enter Tryz.func39, Tryz.ntmps39
    go_wp2_with (first
      | (go_at_call 66; refine (scalar_any _ _).mono ?_; rintro e w' ⟨rfl, rfl⟩)
      | (go_at_call 67; refine Hc.out.mono ?_; rintro e w1 ⟨rfl, hb1⟩))
    go_ret
    exact ⟨by simp [hs], bel_then (by repeat (first | exact Below.refl _ _ | assumption | (refine Below.drew ?_) | (refine below_drewN ?_ _) | (refine bel_new ?_ _) | (refine bel_then ?_ (by assumption)))) hb1⟩
  · have hs' : scal r = false := by simpa using hs
    clear hs
    go_enter Tryz.func39, Tryz.ntmps39
    go_wp2_with (go_at_call 66; refine (scalar_any _ _).mono ?_; rintro e w' ⟨rfl, rfl⟩)
    go_ret
    exact ⟨by simp [hs'], by repeat (first | exact Below.refl _ _ | assumption | (refine Below.drew ?_) | (refine below_drewN ?_ _) | (refine bel_new ?_ _) | (refine bel_then ?_ (by assumption)))⟩

/-! ### Or, And -/
/-! ### Count -/
end Go.Proofs.YtmgfpcblbbpahaaGreat.Rn
