/- word: joined. -/
import Derived.Test.YtkngppkchaadhaaClsSort
import Derived.Test.YtkngppkchaadhaaStill
import Derived.Laws.OwnMore
import Derived.Deep.QuietTactic
import Derived.BigQuiet
set_option linter.unusedVariables false
set_option linter.unusedSimpArgs false
namespace Go.Proofs.Ytkngppkchaadhaa
open Go.RowKit Ru

theorem infoRange : ∃ i, Try.prog.info? 43 = some i ∧ i.zero = some (.agg #[.int .i32 0, .int .i32 0]) ∧ i.size = 2 ∧ i.bytes = 8 := info_parts (by kernel_rfl)
theorem Row.form {w : World} {v : Value} {n : Nat} {cs : List Value} (h : Row w v n cs) : ∃ o c, v = .slice o n c := by obtain ⟨o, c, e, _⟩ := h; exact ⟨o, c, e⟩
theorem iwrap {x : Int} (h : -9223372036854775808 ≤ x ∧ x ≤ 9223372036854775807) : IntKind.i64.wrap x = x := IntWalk.i64_in _ h
theorem rowNew2 (w : World) (u v : Value) (e : TypeId) (B : Nat) (hB : w.heap.size = B) : Row (w.alloc (.cells #[u, v] e)) (.slice (some ⟨B, 0, none⟩) 1 1) 1 [u, v] := by
  subst hB
  have h1 := World.ownsRow_lit (e := e) (base := w.heap.size) (size := 2) w #[u, v] 1 (Nat.le_refl _) (by decide) (by simp)
  simpa using Row.owned h1
theorem owns_drewN {w : World} {base : Nat} {e : TypeId} {size n : Nat} {v : Value} {xs : List Value} (h : w.ownsRow base e size v n xs) (q : Nat) : (w.drewN q).ownsRow base e size v n xs := owns_below h (below_drewN (Below.refl _ _) q)
namespace Ru
def bhd (r : Int) : Int := if r = 55295 then 57344 else r + 1
def ahd (r : Int) : Int := if r = 57344 then 55295 else r - 1
theorem bhd_vlu {p : Int} (h : 0 ≤ p) : bhd (vlu p) = vlu (p + 1) := by unfold bhd vlu; repeat' split <;> omega
theorem ahd_vlu {p : Int} (h : 1 ≤ p) : ahd (vlu p) = vlu (p - 1) := by unfold ahd vlu; repeat' split <;> omega
/-- ranges whose ends are runes, none of them descending -/
def Okr (l : List Pc) : Prop := ∀ x ∈ l, x.1 ≤ x.2 ∧ scal x.1 = true ∧ scal x.2 = true
theorem okr_pc {x : Pc} (h : x.1 ≤ x.2 ∧ scal x.1 = true ∧ scal x.2 = true) : pcOf x = (plc x.1, plc x.2 + 1) ∧ plc x.1 < plc x.2 + 1 ∧ vlu (plc x.1) = x.1 ∧ vlu (plc x.2) = x.2 ∧ 0 ≤ plc x.1 ∧ plc x.2 + 1 ≤ 1112064 := by
  have h1 := plc_mono h.1
  have h2 := plc_range x.1
  have h3 := plc_scal h.2.2
  exact ⟨by unfold pcOf; rw [if_pos h.2.2], by omega, vlu_plc h.2.1, vlu_plc h.2.2, h2.1, by omega⟩
theorem raw_okr {l : List Pc} (h : Okr l) : raw l = l.map pcOf := by
  unfold raw
  rw [List.filter_eq_self]
  intro q hq
  obtain ⟨x, hx, rfl⟩ := List.mem_map.1 hq
  have := okr_pc (h x hx)
  rw [this.1]
  simp; omega
theorem sorted_pc {d : List Pc} (hs : Sorted d) : Sorted (d.map pcOf) := by
  intro i j hij hj
  rw [List.length_map] at hj
  have h := hs i j hij hj
  have e : ∀ i, i < d.length → (d.map pcOf).getD i (0, 0) = pcOf (d.getD i (0, 0)) := by
    intro i hi; simp [List.getD, List.getElem?_eq_getElem hi]
  rw [e i (by omega), e j hj]
  exact plc_mono h
theorem joined_nrm {l d : List Pc} (hl : Okr l) (hp : d.Perm l) (hs : Sorted d) : rngs (merge (d.map pcOf)) = nrm l := by
  unfold nrm
  rw [merge_pcs l (d.map pcOf) (sorted_pc hs) (fun q => by rw [raw_okr hl]; exact (hp.map pcOf).mem_iff)]
theorem rngs_append (a b : List Pc) : rngs (a ++ b) = rngs a ++ rngs b := by simp [rngs]
theorem rngs_len (P : List Pc) : (rngs P).length = P.length := by simp [rngs]
theorem asc_take {d : List Pc} (hs : Sorted d) (k : Nat) : Sorted (d.take k) := by
  intro i j hij hj
  rw [List.length_take] at hj
  have := hs i j hij (by omega)
  simpa [List.getD, List.getElem?_take, show i < k by omega, show j < k by omega] using this
theorem merge_pos {d : List Pc} (hd : Okr d) (hs : Sorted d) (k : Nat) : ∀ q ∈ merge ((d.take k).map pcOf), 0 ≤ q.1 ∧ q.1 < q.2 ∧ q.2 ≤ 1112064 := by
  have h1 := merge_nf (Sorted.asc (sorted_pc (asc_take hs k))) (by
    intro q hq
    obtain ⟨x, hx, rfl⟩ := List.mem_map.1 hq
    have := okr_pc (hd x (List.mem_of_mem_take hx))
    rw [this.1]; simp only; omega)
  intro q hq
  have := h1.1.pos q hq
  exact ⟨by omega, this.2, h1.2.1 q hq⟩
end Ru
theorem behind_still (r : Int) (w : World) (h : 0 ≤ r ∧ r ≤ 1114111) : Calls Try.prog 48 #[.int .i32 r] w fun e w' => e = .returned (.int .i32 (bhd r)) ∧ w' = w := by
  by_cases h1 : r = 55295
  · subst h1
    go_enter Try.func48, Try.ntmps48
    go_wp2
    go_ret
    exact ⟨rfl, rfl⟩
  · have t : (r == 55295) = false := by simpa using h1
    have e : bhd r = r + 1 := by unfold bhd; rw [if_neg h1]
    have E := Lib.hid e
    clear e h1
    go_enter Try.func48, Try.ntmps48
    go_wp2
    go_ret
    exact ⟨by rw [E.out]; rfl, rfl⟩
theorem ahead_still (r : Int) (w : World) (h : 0 ≤ r ∧ r ≤ 1114111) : Calls Try.prog 49 #[.int .i32 r] w fun e w' => e = .returned (.int .i32 (ahd r)) ∧ w' = w := by
  by_cases h1 : r = 57344
  · subst h1
    go_enter Try.func49, Try.ntmps49
    go_wp2
    go_ret
    exact ⟨rfl, rfl⟩
  · have t : (r == 57344) = false := by simpa using h1
    have e : ahd r = r - 1 := by unfold ahd; rw [if_neg h1]
    have E := Lib.hid e
    clear e h1
    go_enter Try.func49, Try.ntmps49
    go_wp2
    go_ret
    exact ⟨by rw [E.out]; rfl, rfl⟩
def JoinPost (l : List Pc) (v : Value) (w : World) (e : Ending) (w' : World) : Prop :=
  ∃ u, e = .returned u ∧ w'.ownsRow w.heap.size 43 2 u (nrm l).length (flatK .i32 (nrm l)) ∧ ∀ b, b ≤ w.heap.size → (∀ j, v.ownBlock = some j → b ≤ j) → Below b w w'

set_option maxHeartbeats 4000000 in
set_option maxRecDepth 1000000 in
theorem joined_any (l : List Pc) (v : Value) (base : Nat) (w : World) (hown : w.ownsRow base 43 2 v l.length (flatK .i32 l)) (hn : l.length ≤ 100000) (hok : Okr l) :
    Calls Try.prog 24 #[v] w (JoinPost l v w) := by
  obtain ⟨i0, hi, hz0, hz1, hz2⟩ := infoRange
  have HO := Lib.hid hown
  obtain ⟨ov, cv, rfl⟩ := owns_slice hown
  clear hown
  go_enter Try.func24, Try.ntmps24
  go_wp2_with fail
  refine (sortRanges l _ base _ HO.out hn).mono ?_
  rintro e w2 ⟨rfl, d, hperm, hsort, hown2, hg2⟩
  have hdl : d.length = l.length := hperm.length_eq
  have hokd : Okr d := fun x hx => hok x (hperm.mem_iff.1 hx)
  have hfin := joined_nrm hok hperm hsort
  have H0 := Lib.hid (And.intro hfin (And.intro hg2 (And.intro hokd hsort)))
  rw [← hdl] at hown2 hn ⊢
  have HR := Lib.hid (Row.owned hown2)
  clear hown2 hfin hg2 hokd hsort hperm hdl hok HO
  go_wp2_with fail
  obtain ⟨B, hB⟩ : ∃ B, B = w2.heap.size := ⟨_, rfl⟩
  have HB := Lib.hid hB
  have hBw := hB
  go_loopw [3, 11] (fun u i wr => ∃ k : Nat, k ≤ d.length ∧ i = .int .i64 k ∧ wr.ownsRow B 43 2 u (rngs (merge ((d.take k).map pcOf))).length (flatK .i32 (rngs (merge ((d.take k).map pcOf)))) ∧ Below B w2 wr)
    (fun _ i _ => d.length - (intOf i).toNat)
  case atStart => exact ⟨0, Nat.zero_le _, rfl, World.ownsRow_nil _ _ _ _, Below.refl _ _⟩
  case round =>
    obtain ⟨k, hk, rfl, hown, hbel⟩ := hrel
    have hBs : B ≤ wr.heap.size := by rw [hB]; exact hbel.size
    by_cases hk2 : k < d.length
    · obtain ⟨b, off, cap', e, hlt⟩ := HR.out.head (by omega)
      simp only [Value.slice.injEq, true_and] at e
      obtain ⟨rfl, rfl⟩ := e
      obtain ⟨_, c1, c2⟩ := HR.out.pair hk2 rfl
      have hltB : b < B := by rw [hB]; exact hlt
      rw [← hbel.cell hltB] at c1 c2
      have hs : (d.take (k + 1)).map pcOf = (d.take k).map pcOf ++ [pcOf (d.getD k (0, 0))] := by rw [take_one d (0, 0) k hk2]; simp
      obtain ⟨x, hx⟩ : ∃ x, x = d.getD k (0, 0) := ⟨_, rfl⟩
      have hxo := okr_pc (H0.out.2.2.1 x (by rw [hx]; simp [List.getD, List.getElem?_eq_getElem hk2]))
      have hxr : 0 ≤ x.1 ∧ x.1 ≤ 1114111 ∧ 0 ≤ x.2 ∧ x.2 ≤ 1114111 := by
        have := H0.out.2.2.1 x (by rw [hx]; simp [List.getD, List.getElem?_eq_getElem hk2])
        have h1 := (scal_iff _).1 this.2.1; have h2 := (scal_iff _).1 this.2.2; omega
      rw [← hx] at c1 c2 hs
      have hml := merge_len ((d.take k).map pcOf)
      rw [List.length_map, List.length_take] at hml
      have hpos := merge_pos H0.out.2.2.1 H0.out.2.2.2 k
      have Hs := Lib.hid hs
      obtain ⟨A, hA⟩ : ∃ A, A = (d.take k).map pcOf := ⟨_, rfl⟩
      have hA0 : A = [] → k = 0 := by intro h; rw [hA] at h; have := congrArg List.length h; rw [List.length_map, List.length_take, List.length_nil] at this; omega
      rw [← hA] at hown hml hpos Hs
      obtain ⟨lo, hi'⟩ := x
      simp only at c1 c2 hxo hxr
      have HX := Lib.hid hxo
      clear hxo hs hx
      by_cases hk0 : k = 0
      · have hA0' : A = [] := by rw [hA, hk0]; rfl
        subst hA0'
        have HK := Lib.hid hk0
        clear hk0 hA hA0 hpos
        obtain ⟨o7, c7, rfl⟩ := (Row.owned hown).form
        have hnil : (rngs (merge ([] : List Pc))).length = 0 := rfl
        rw [hnil] at hown ⊢
        go_wp2_with fail
        go_quiet (fail)
        have f1 := owns_drewN (hown.alloc (.cells #[.int .i32 lo, .int .i32 hi'] 43)) nq
        have f2 : Below B w2 ((wr.alloc (.cells #[.int .i32 lo, .int .i32 hi'] 43)).drewN nq) := below_drewN (hbel.alloc hBs _) nq
        have f3 : ((wr.alloc (.cells #[.int .i32 lo, .int .i32 hi'] 43)).drewN nq).cell? ⟨wr.heap.size, 0, none⟩ = some (.int .i32 lo) := by simp
        have f4 : ((wr.alloc (.cells #[.int .i32 lo, .int .i32 hi'] 43)).drewN nq).cell? ⟨wr.heap.size, 1, none⟩ = some (.int .i32 hi') := by simp
        generalize hwq : (wr.alloc (.cells #[.int .i32 lo, .int .i32 hi'] 43)).drewN nq = wq at f1 f2 f3 f4 ⊢
        have f5 : B ≤ wq.heap.size := by rw [hB]; exact f2.size
        clear hwq hown hbel
        go_wp2_with (at_builtin; go_loud (refine wpList_append_row _ rfl _ _ 29 rfl B 43 i0 (.agg #[.int .i32 0, .int .i32 0]) 2 8 Try.underlying29 hi hz0 hz1 hz2 rfl (by decide) _ _ _ rfl (f1.alloc _) _ 1 [.int .i32 lo, .int .i32 hi'] rfl (rowNew2 _ _ _ _ wq.heap.size rfl) rfl (by simp [Value.oneCell']) (by unfold maxLen; omega) (by omega) (by simp; omega) ?_); intro v' w3 hown3 hgrow3)
        have hB3 : Below B w2 w3 := (f2.alloc f5 _).grown hgrow3 (by simp; omega) (fun j hj => (f1.lt j hj).1)
        have H1 := Lib.hid (And.intro hown3 hB3)
        clear hown3 hgrow3 hB3 f1 f2 f3 f4
        go_roundw
        case rel =>
          refine ⟨k + 1, by omega, by go_num, ?_, H1.out.2⟩
          have h := H1.out.1
          have e9 : rngs (merge ([] ++ [pcOf (lo, hi')])) = [(lo, hi')] := by
            obtain ⟨q1, q2, q3, q4, _⟩ := HX.out
            rw [q1]; show [(vlu (plc lo), vlu (plc hi' + 1 - 1))] = _
            rw [show plc hi' + 1 - 1 = plc hi' by omega, q3, q4]
          rw [Hs.out, e9]
          exact h
        case measure => simp [intOf] <;> omega
      · have hne : A ≠ [] := fun h => hk0 (hA0 h)
        obtain ⟨t, q, e1, e2⟩ := merge_snoc A (pcOf (lo, hi')) hne
        obtain ⟨qa, qc⟩ := q
        have hq := hpos (qa, qc) (by rw [e1]; simp)
        simp only at hq
        rw [e1] at hown hml
        have e3 : (rngs (t ++ [(qa, qc)])).length = t.length + 1 := by rw [rngs_len]; simp
        obtain ⟨sq, hsq⟩ : ∃ sq, sq = vlu (qc - 1) := ⟨_, rfl⟩
        have hsr := vlu_range (p := qc - 1) (by omega) (by omega)
        rw [← hsq] at hsr
        obtain ⟨bq, hbq⟩ : ∃ bq, bq = vlu qc := ⟨_, rfl⟩
        have hbs : bhd sq = bq := by rw [hsq, bhd_vlu (by omega), hbq]; congr 1; omega
        have hbr : 0 ≤ bq ∧ bq ≤ 1114112 := by rw [hbq]; unfold vlu; split <;> omega
        have e4 : (flatK .i32 (rngs (t ++ [(qa, qc)])))[t.length * 2 + 1]? = some (.int .i32 sq) := by
          have := (flatK_at .i32 (rngs (t ++ [(qa, qc)])) t.length (by rw [e3]; omega)).2
          rw [rngs_append, show t.length = (rngs t).length from (rngs_len t).symm] at this
          rw [rngs_append, show t.length = (rngs t).length from (rngs_len t).symm, hsq]
          rw [this]
          congr 2
          show ((rngs t ++ [(vlu qa, vlu (qc - 1))]).getD (rngs t).length (0, 0)).2 = _
          rw [getD_snoc]
        have hcall : ∀ w, Calls Try.prog 48 #[.int .i32 sq] w fun e w' => e = .returned (.int .i32 bq) ∧ w' = w := fun w => by have := behind_still sq w hsr; rwa [hbs] at this
        obtain ⟨g, c7, rfl⟩ := Joins.ownsRow_form hown (by rw [e3]; omega)
        have e5 := hown
        rw [e3] at e5
        have hml : t.length + 1 ≤ k := by rw [List.length_append] at hml; simp at hml; omega
        obtain ⟨m, hm⟩ : ∃ m, m = t.length := ⟨_, rfl⟩
        obtain ⟨X, hX⟩ : ∃ X, X = flatK .i32 (rngs (t ++ [(qa, qc)])) := ⟨_, rfl⟩
        rw [← hm, ← hX] at e5
        rw [← hm, ← hX] at e4
        rw [← hm] at hml
        rw [e3, ← hm]
        have hlev : lo ≤ bq ↔ (pcOf (lo, hi')).1 ≤ qc := by
          obtain ⟨q1, q2, q3, q4, _⟩ := HX.out
          rw [q1, hbq]
          show lo ≤ vlu qc ↔ plc lo ≤ qc
          rw [vlu_mono (p := plc lo), q3]
        have hmaxv : max sq hi' = vlu (max qc (pcOf (lo, hi')).2 - 1) := by
          obtain ⟨q1, q2, q3, q4, _⟩ := HX.out
          rw [q1, hsq, ← q4]
          simp only
          by_cases h : qc ≤ plc hi' + 1
          · have h2 := (vlu_mono (p := qc - 1) (q := plc hi')).1 (by omega)
            rw [q4] at h2 ⊢
            rw [show max qc (plc hi' + 1) - 1 = plc hi' by omega, q4]; omega
          · have h2 := (vlu_mono (p := plc hi') (q := qc - 1)).1 (by omega)
            rw [q4] at h2 ⊢
            rw [show max qc (plc hi' + 1) - 1 = qc - 1 by omega]; omega
        have HM := Lib.hid (And.intro e2 (And.intro hm (And.intro hX (And.intro hlev (And.intro hmaxv hsq)))))
        have HC := Lib.hid hcall
        clear e1 e2 e3 hm hX hown hA hA0 hpos hne hsq hbq hbs hlev hmaxv hcall hq
        have hg := (e5.lt g rfl).2
        by_cases hle : lo ≤ bq
        · have g1 : wr.cell? ⟨g, m * 2 + 1, none⟩ = some (.int .i32 sq) := by
            rw [e5.cellAt _ (by omega)]; exact e4
          go_wp2_with fail
          have hw1 : IntKind.i64.wrap (m : Int) = (m : Int) := iwrap (by omega)
          have hw3 : (0 : Int) ≤ (m : Int) := by omega
          have hw4 : (m : Int) < (m : Int) + 1 := by omega
          go_quiet ((go_at_call 48; exact Calls.quiet_of_same (HC.out _)))
          have f1 := owns_drewN (e5.alloc (.cells #[.int .i32 lo, .int .i32 hi'] 43)) nq
          have f2 : Below B w2 ((wr.alloc (.cells #[.int .i32 lo, .int .i32 hi'] 43)).drewN nq) := below_drewN (hbel.alloc hBs _) nq
          have f3 : ((wr.alloc (.cells #[.int .i32 lo, .int .i32 hi'] 43)).drewN nq).cell? ⟨wr.heap.size, 0, none⟩ = some (.int .i32 lo) := by simp
          have f4 : ((wr.alloc (.cells #[.int .i32 lo, .int .i32 hi'] 43)).drewN nq).cell? ⟨wr.heap.size, 1, none⟩ = some (.int .i32 hi') := by simp
          generalize hwq : (wr.alloc (.cells #[.int .i32 lo, .int .i32 hi'] 43)).drewN nq = wq at f1 f2 f3 f4 ⊢
          have f5 : B ≤ wq.heap.size := by rw [hB]; exact f2.size
          have f6 : wq.cell? ⟨g, m * 2 + 1, none⟩ = some (.int .i32 sq) := by
            rw [f1.cellAt _ (by omega)]; exact e4
          have f7 := f1.frozenAt (m * 2 + 1)
          clear hwq hbel e5 g1
          go_wp2_with fail
          have hw1 : IntKind.i64.wrap (m : Int) = (m : Int) := iwrap (by omega)
          refine still_tail 14 (by kernel_rfl) (by kernel_rfl) ?_
          simp only [List.take_succ_cons, List.take_zero, List.drop_succ_cons, List.drop_zero]
          repeat (first | still_step)
          refine wpStill_nil ?_
          go_wp2_with fail
          have hs1 := (f1.stored (m * 2 + 1) (.int .i32 (max sq hi'))).1
          have hB3 : Below B w2 (wq.setCell ⟨g, m * 2 + 1, none⟩ (.int .i32 (max sq hi'))).drew := (f2.setCell (p := ⟨g, m * 2 + 1, none⟩) (f1.lt g rfl).1 _).drew
          have H1 := Lib.hid (And.intro hs1.drew hB3)
          clear hs1 hB3 f1 f2 f3 f4 f6 f7
          go_roundw
          case rel =>
            refine ⟨k + 1, by omega, by go_num, ?_, H1.out.2⟩
            have h := H1.out.1
            obtain ⟨k2, k3, k4, k5, k6, k7⟩ := HM.out
            have e9 : (rngs (t ++ [(qa, max qc (pcOf (lo, hi')).2)])).length = m + 1 := by rw [rngs_len]; simp; omega
            have e10 : X.set (m * 2 + 1) (.int .i32 (max sq hi')) = flatK .i32 (rngs (t ++ [(qa, max qc (pcOf (lo, hi')).2)])) := by
              rw [k4, k3, rngs_append, rngs_append, show t.length = (rngs t).length from (rngs_len t).symm]
              show (flatK .i32 (rngs t ++ [(vlu qa, vlu (qc - 1))])).set _ _ = flatK .i32 (rngs t ++ [(vlu qa, vlu (max qc (pcOf (lo, hi')).2 - 1))])
              rw [flatK_last, k6]
            rw [Hs.out, k2, if_pos (k5.1 hle), e9, ← e10]
            exact h
          case measure => simp [intOf] <;> omega
        · have g1 : wr.cell? ⟨g, m * 2 + 1, none⟩ = some (.int .i32 sq) := by
            rw [e5.cellAt _ (by omega)]; exact e4
          go_wp2_with fail
          have hw1 : IntKind.i64.wrap (m : Int) = (m : Int) := iwrap (by omega)
          have hw3 : (0 : Int) ≤ (m : Int) := by omega
          have hw4 : (m : Int) < (m : Int) + 1 := by omega
          go_quiet ((go_at_call 48; exact Calls.quiet_of_same (HC.out _)))
          have f1 := owns_drewN (e5.alloc (.cells #[.int .i32 lo, .int .i32 hi'] 43)) nq
          have f2 : Below B w2 ((wr.alloc (.cells #[.int .i32 lo, .int .i32 hi'] 43)).drewN nq) := below_drewN (hbel.alloc hBs _) nq
          have f3 : ((wr.alloc (.cells #[.int .i32 lo, .int .i32 hi'] 43)).drewN nq).cell? ⟨wr.heap.size, 0, none⟩ = some (.int .i32 lo) := by simp
          have f4 : ((wr.alloc (.cells #[.int .i32 lo, .int .i32 hi'] 43)).drewN nq).cell? ⟨wr.heap.size, 1, none⟩ = some (.int .i32 hi') := by simp
          generalize hwq : (wr.alloc (.cells #[.int .i32 lo, .int .i32 hi'] 43)).drewN nq = wq at f1 f2 f3 f4 ⊢
          have f5 : B ≤ wq.heap.size := by rw [hB]; exact f2.size
          have hXl : X.length = (m + 1) * 2 := f1.1
          clear hwq hbel e5 g1 hw1 hw3 hw4
          go_wp2_with (at_builtin; refine wpList_append_row _ rfl _ _ 29 rfl B 43 i0 (.agg #[.int .i32 0, .int .i32 0]) 2 8 Try.underlying29 hi hz0 hz1 hz2 rfl (by decide) _ _ _ rfl (f1.alloc _) _ 1 [.int .i32 lo, .int .i32 hi'] rfl (rowNew2 _ _ _ _ wq.heap.size rfl) rfl (by simp [Value.oneCell']) (by unfold maxLen; omega) (by omega) (by simp; omega) ?_; intro v' w3 hown3 hgrow3)
          have hB3 : Below B w2 w3 := (f2.alloc f5 _).grown hgrow3 (by simp; omega) (fun j hj => (f1.lt j hj).1)
          have H1 := Lib.hid (And.intro hown3 hB3)
          clear hown3 hgrow3 hB3 f1 f2 f3 f4 hXl
          go_roundw
          case rel =>
            refine ⟨k + 1, by omega, by go_num, ?_, H1.out.2⟩
            have h := H1.out.1
            obtain ⟨k2, k3, k4, k5, k6, k7⟩ := HM.out
            have e8 : rngs (t ++ [(qa, qc), pcOf (lo, hi')]) = rngs (t ++ [(qa, qc)]) ++ [(lo, hi')] := by
              obtain ⟨q1, q2, q3, q4, _⟩ := HX.out
              rw [show t ++ [(qa, qc), pcOf (lo, hi')] = (t ++ [(qa, qc)]) ++ [pcOf (lo, hi')] by simp, rngs_append]
              congr 1
              rw [q1]; show [(vlu (plc lo), vlu (plc hi' + 1 - 1))] = _
              rw [show plc hi' + 1 - 1 = plc hi' by omega, q3, q4]
            rw [Hs.out, k2, if_neg (fun h2 => by have := k5.2 h2; omega), e8, List.length_append, flatK_append]
            have e9 : (rngs (t ++ [(qa, qc)])).length + [(lo, hi')].length = m + 1 + 1 := by rw [rngs_len]; simp; omega
            rw [e9, ← k4]
            exact h
          case measure => simp [intOf] <;> omega
    · have hkn : k = d.length := by omega
      subst hkn
      rw [List.take_length, H0.out.1] at hown
      have HW := Lib.hid (And.intro hown hbel)
      clear hown hbel
      obtain ⟨ou, cu, rfl⟩ := owns_slice HW.out.1
      go_wp2
      go_ret
      have hg2 := H0.out.2.1
      refine ⟨_, rfl, owns_base HW.out.1 (by rw [hB]; exact hg2.size), fun b hb hr => ?_⟩
      have h1 : Below b w w2 := (Below.refl b w).grown hg2 hb hr
      exact h1.trans (HW.out.2.mono (by rw [hB]; exact Nat.le_trans hb hg2.size))
end Go.Proofs.Ytkngppkchaadhaa
