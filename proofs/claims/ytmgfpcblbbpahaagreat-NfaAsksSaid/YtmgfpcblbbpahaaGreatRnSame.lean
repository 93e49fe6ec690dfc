/- runes: Same, May; the reference's Same. -/
import Derived.Test.YtmgfpcblbbpahaaGreatRnOr
import Derived.Laws.StructEq
set_option linter.unusedVariables false
set_option linter.unusedSimpArgs false
namespace Go.Proofs.YtmgfpcblbbpahaaGreat.Rn
open Go.RowKit _root_.Go.Proofs.YtmgfpcblbbpahaaGreat.Ru Go.Proofs.YtmgfpcblbbpahaaGreat.Rn.Ru

theorem neqR (a b c d : Int) (w : World) : (binOp .neq 54 (.agg #[.int .i32 a, .int .i32 b]) (.agg #[.int .i32 c, .int .i32 d])).run Tryz.prog w = .ok (.bool (!(decide (a = c) && decide (b = d)))) w := by
  have u1 := Tryz.underlying21
  have hS : Tryz.prog.underlying 54 = some (.struct (Tryz.prog.fieldsOf 54)) := by kernel_rfl
  have hp : Tryz.prog.stoodInHeld 54 = false := by kernel_rfl
  rw [run_neq_struct, show (10000 : Nat) = 9999 + 1 from rfl, run_equalIn_agg w 9999 54 _ _ hS hp]
  simp only [Program.fieldsOf, Tryz.underlying54]
  go_simp
  by_cases h1 : a = c <;> by_cases h2 : b = d <;> simp [h1, h2]
theorem guardR (op : BinOp) (x y : Operand) (a b c d : Int) (w : World) : (eqGuard op 54 x y (.agg #[.int .i32 a, .int .i32 b]) (.agg #[.int .i32 c, .int .i32 d])).run Tryz.prog w = .ok () w :=
  run_eqGuard_agg w op _ x y _ _ (by kernel_rfl)

theorem lists_ne {a b : List Pc} (k : Nat) (ha : k < a.length) (hb : k < b.length) (h : a.getD k (0, 0) ≠ b.getD k (0, 0)) : a ≠ b := fun e => h (by rw [e])
theorem lists_eq {a b : List Pc} (hl : a.length = b.length) (h : ∀ j, j < a.length → a.getD j (0, 0) = b.getD j (0, 0)) : a = b := by
  apply List.ext_getElem hl
  intro j h1 h2
  have := h j h1
  simpa [List.getD, List.getElem?_eq_getElem h1, List.getElem?_eq_getElem h2] using this

set_option maxHeartbeats 2000000 in
set_option maxRecDepth 1000000 in
theorem refSame_any (a b : List Pc) (va vb : Value) (w : World) (ha : Row w va a.length (flatK .i32 a)) (hb : Row w vb b.length (flatK .i32 b)) (hna : a.length ≤ 1000000) (hnb : b.length ≤ 1000000) :
    Calls Tryz.prog 19 #[va, vb] w fun e w' => e = .returned (.bool (decide (a = b))) ∧ Below w.heap.size w w' := by
  have Ha := Lib.hid ha
  have Hb := Lib.hid hb
  obtain ⟨oa, ca, rfl⟩ := ha.form
  obtain ⟨ob, cb, rfl⟩ := hb.form
  clear ha hb
  by_cases hl : a.length = b.length
  · have hl1 : ((a.length : Int) != (b.length : Int)) = false := by simp [hl]
    have Hl := Lib.hid hl
    go_enter Tryz.func19, Tryz.ntmps19
    obtain ⟨n, hn⟩ : ∃ n, n = a.length := ⟨_, rfl⟩
    have hn2 : n = b.length := by omega
    rw [← hn, ← hn2]
    have Hn := Lib.hid (And.intro hn hn2)
    have hnn : n ≤ 1000000 := by omega
    clear hl hl1 hn hn2 hna hnb
    go_wp2_with fail
    go_loopw [5] (fun i wr => ∃ k : Nat, k ≤ n ∧ i = .int .i64 k ∧ Below w.heap.size w wr ∧ ∀ j, j < k → a.getD j (0, 0) = b.getD j (0, 0))
      (fun i _ => n - (intOf i).toNat)
    case atStart => exact ⟨0, Nat.zero_le _, rfl, Below.refl _ _, fun j hj => by omega⟩
    case round =>
      obtain ⟨k, hk, rfl, hbel, hall⟩ := hrel
      have HA := Lib.hid hall
      clear hall
      by_cases hk2 : k < n
      · obtain ⟨ba, offa, capa, e, hlta⟩ := Ha.out.head (by have := Hn.out.1; omega)
        simp only [Value.slice.injEq, true_and] at e
        obtain ⟨rfl, rfl⟩ := e
        obtain ⟨bb, offb, capb, e, hltb⟩ := Hb.out.head (by have := Hn.out.2; omega)
        simp only [Value.slice.injEq, true_and] at e
        obtain ⟨rfl, rfl⟩ := e
        obtain ⟨_, c1, c2⟩ := Ha.out.pair (i := k) (by have := Hn.out.1; omega) rfl
        obtain ⟨_, d1, d2⟩ := Hb.out.pair (i := k) (by have := Hn.out.2; omega) rfl
        rw [← hbel.cell hlta] at c1 c2
        rw [← hbel.cell hltb] at d1 d2
        obtain ⟨p, hp⟩ : ∃ p, p = a.getD k (0, 0) := ⟨_, rfl⟩
        obtain ⟨q, hq⟩ : ∃ q, q = b.getD k (0, 0) := ⟨_, rfl⟩
        rw [← hp] at c1 c2
        rw [← hq] at d1 d2
        obtain ⟨p1, p2⟩ := p
        obtain ⟨q1, q2⟩ := q
        simp only at c1 c2 d1 d2
        have Hpq := Lib.hid (And.intro hp (And.intro hq hbel))
        clear hp hq hbel
        have hne : ∀ (w : World), Sem.run Tryz.prog (binOp .neq 54 (.agg #[.int .i32 p1, .int .i32 p2]) (.agg #[.int .i32 q1, .int .i32 q2])) w = .ok (.bool (!(decide (p1 = q1) && decide (p2 = q2)))) w := fun w => neqR _ _ _ _ w
        have hgd : ∀ (op : BinOp) (x y : Operand) (w : World), Sem.run Tryz.prog (eqGuard op 54 x y (.agg #[.int .i32 p1, .int .i32 p2]) (.agg #[.int .i32 q1, .int .i32 q2])) w = .ok () w := fun op x y w => guardR op x y _ _ _ _ w
        have hk0 : (0 : Int) ≤ (k : Int) := by omega
        have hk3 : (k : Int) < (n : Int) := by omega
        by_cases hh : p1 = q1 ∧ p2 = q2
        · have ht : (!(decide (p1 = q1) && decide (p2 = q2))) = false := by simp [hh.1, hh.2]
          rw [ht] at hne
          have Hh := Lib.hid hh
          clear hh ht
          go_wp2_with fail
          go_quiet (fail)
          go_wp2
          go_roundw
          case rel =>
            refine ⟨k + 1, by omega, by go_num, by have := Hpq.out.2.2; repeat (first | exact Below.refl _ _ | assumption | (refine Below.drew ?_) | (refine below_drewN ?_ _) | (refine bel_new ?_ _) | (refine bel_then ?_ (by assumption))), fun j hj => ?_⟩
            by_cases e : j = k
            · subst e; rw [← Hpq.out.1, ← Hpq.out.2.1, Hh.out.1, Hh.out.2]
            · exact HA.out j (by omega)
          case measure => simp [intOf] <;> omega
        · have ht : (!(decide (p1 = q1) && decide (p2 = q2))) = true := by
            by_cases h1 : p1 = q1 <;> by_cases h2 : p2 = q2 <;> simp_all
          rw [ht] at hne
          have Hh := Lib.hid hh
          clear hh ht
          go_wp2_with fail
          go_quiet (fail)
          go_wp2
          go_ret
          refine ⟨ret_bool ?_, by have := Hpq.out.2.2; repeat (first | exact Below.refl _ _ | assumption | (refine Below.drew ?_) | (refine below_drewN ?_ _) | (refine bel_new ?_ _) | (refine bel_then ?_ (by assumption)))⟩
          have := lists_ne (a := a) (b := b) k (by have := Hn.out.1; omega) (by have := Hn.out.2; omega) (by rw [← Hpq.out.1, ← Hpq.out.2.1]; intro e; simp only [Prod.mk.injEq] at e; exact Hh.out e)
          simp [this]
      · have hkn : k = n := by omega
        have Hkn := Lib.hid hkn
        clear hkn
        go_wp2
        go_ret
        refine ⟨ret_bool ?_, hbel⟩
        have := lists_eq (a := a) (b := b) Hl.out (fun j hj => HA.out j (by have := Hkn.out; have := Hn.out.1; omega))
        simp [this]
  · have hl1 : ((a.length : Int) != (b.length : Int)) = true := by simp; omega
    have Hl := Lib.hid hl
    clear hl
    go_enter Tryz.func19, Tryz.ntmps19
    go_wp2
    go_ret
    exact ⟨ret_bool (by have : a ≠ b := fun e => Hl.out (by rw [e])
                        simp [this]), Below.refl _ _⟩

theorem place_still (r : Int) (w : World) (hr : -2147483648 ≤ r ∧ r ≤ 2147483647) : Calls Tryz.prog 101 #[.int .i32 r] w fun e w' => e = .returned (.int .i64 (plc r)) ∧ w' = w :=
  (place_any r w hr).mono fun _ _ h => ⟨h.1, h.2.symm⟩
def okAt (l : List Pc) (i : Nat) : Prop := okR (l.getD i (0, 0)) = true ∧ (0 < i → plc (l.getD (i - 1) (0, 0)).2 + 1 < plc (l.getD i (0, 0)).1)
theorem may_t {l : List Pc} (h : ∀ i, i < l.length → okAt l i) : mayB l = true := (mayB_iff l).2 h
theorem may_f {l : List Pc} (i : Nat) (hi : i < l.length) (h : ¬ okAt l i) : mayB l = false := by
  cases e : mayB l with
  | false => rfl
  | true => exact absurd ((mayB_iff l).1 e i hi) h
set_option maxHeartbeats 2000000 in
set_option maxRecDepth 1000000 in
theorem mayR_any (l : List Pc) (v : Value) (w : World) (hr : Row w v l.length (flatK .i32 l)) (hz : i32s l) (hn : l.length ≤ 1000000) :
    Calls Tryz.prog 80 #[v] w fun e w' => e = .returned (.bool (mayB l)) ∧ Below w.heap.size w w' := by
  have Hr := Lib.hid hr
  have Hz := Lib.hid hz
  obtain ⟨o, cap, rfl⟩ := hr.form
  clear hr hz
  go_enter Tryz.func80, Tryz.ntmps80
  go_wp2_with fail
  go_loopw [7] (fun i wr => ∃ k : Nat, k ≤ l.length ∧ i = .int .i64 k ∧ Below w.heap.size w wr ∧ ∀ j, j < k → okAt l j)
    (fun i _ => l.length - (intOf i).toNat)
  case atStart => exact ⟨0, Nat.zero_le _, rfl, Below.refl _ _, fun j hj => by omega⟩
  case round =>
    obtain ⟨k, hk, rfl, hbel, hall⟩ := hrel
    have HA := Lib.hid hall
    clear hall
    by_cases hk2 : k < l.length
    · obtain ⟨b, off, cap', e, hltb⟩ := Hr.out.head (by omega)
      simp only [Value.slice.injEq, true_and] at e
      obtain ⟨rfl, rfl⟩ := e
      obtain ⟨_, c1, c2⟩ := Hr.out.pair hk2 rfl
      rw [← hbel.cell hltb] at c1 c2
      obtain ⟨q, hq⟩ : ∃ q, q = l.getD k (0, 0) := ⟨_, rfl⟩
      have hq1 := (Hz.out q (by rw [hq]; simp [List.getD, List.getElem?_eq_getElem hk2])).1
      have hq2 := (Hz.out q (by rw [hq]; simp [List.getD, List.getElem?_eq_getElem hk2])).2
      rw [← hq] at c1 c2
      obtain ⟨lo, hi'⟩ := q
      simp only at c1 c2 hq1 hq2
      have Hq := Lib.hid (And.intro hq hbel)
      clear hq hbel
      have hbad : ∀ {P : Prop}, okR (lo, hi') = false → (okAt l k → P) := fun h1 h2 => by
        have := h2.1; rw [← Hq.out.1, h1] at this; cases this
      by_cases h1 : lo ≤ hi'
      · by_cases h2 : scal lo = true
        · by_cases h3 : scal hi' = true
          · have hok : okR (lo, hi') = true := by simp [okR, h1, h2, h3]
            have Hok := Lib.hid hok
            clear hok hbad
            by_cases hk0 : k = 0
            · have hg1 : decide (0 < k) = false := by simp [hk0]
              have hg2 : decide ((0 : Int) < (k : Int)) = false := by simp [hk0]
              have HK := Lib.hid hk0
              clear hk0
              go_wp2_with (go_at_call 66; refine (scalar_any _ _).mono ?_; rintro e w' ⟨rfl, rfl⟩)
              go_quiet (fail)
              go_wp2
              go_roundw
              case rel =>
                refine ⟨k + 1, by omega, by go_num, by have := Hq.out.2; repeat (first | exact Below.refl _ _ | assumption | (refine Below.drew ?_) | (refine below_drewN ?_ _) | (refine bel_new ?_ _) | (refine bel_then ?_ (by assumption))), fun j hj => ?_⟩
                by_cases e : j = k
                · subst e; exact ⟨by rw [← Hq.out.1]; exact Hok.out, fun h => by have := HK.out; omega⟩
                · exact HA.out j (by omega)
              case measure => simp [intOf] <;> omega
            · obtain ⟨j, rfl⟩ : ∃ j, k = j + 1 := ⟨k - 1, by omega⟩
              obtain ⟨_, _, d2⟩ := Hr.out.pair (i := j) (by omega) rfl
              rw [← Hq.out.2.cell hltb] at d2
              obtain ⟨q', hq'⟩ : ∃ q', q' = l.getD j (0, 0) := ⟨_, rfl⟩
              have hq3 := (Hz.out q' (by rw [hq']; simp [List.getD, List.getElem?_eq_getElem (show j < l.length by omega)])).2
              rw [← hq'] at d2
              obtain ⟨plo, phi⟩ := q'
              simp only at d2 hq3
              have Hq' := Lib.hid hq'
              have hp1 := plc_range lo
              have hp2 := plc_range phi
              have hw1 : IntKind.i64.wrap (j : Int) = (j : Int) := iwrap (by omega)
              have hw2 : IntKind.i64.wrap (plc phi + 1) = plc phi + 1 := iwrap (by omega)
              have hj0 : (0 : Int) ≤ (j : Int) := by omega
              have hj1 : (j : Int) < (l.length : Int) := by omega
              have hj2 : (0 : Int) < (j : Int) + 1 := by omega
              have hbw : b < wr.heap.size := Nat.lt_of_lt_of_le hltb Hq.out.2.size
              clear hq' hk0 hk
              by_cases hgap : plc lo ≤ plc phi + 1
              · have HF := Lib.hid (may_f (j + 1) hk2 (fun h => by
                  have := h.2 (by omega)
                  rw [← Hq.out.1, show j + 1 - 1 = j by omega, ← Hq'.out] at this
                  simp only at this; omega))
                go_wp2_with (go_at_call 66; refine (scalar_any _ _).mono ?_; rintro e w' ⟨rfl, rfl⟩)
                go_quiet ((go_at_call 101; exact Calls.quiet_of_same (place_still _ _ (by assumption))))
                clear hw1 hw2
                go_wp2
                go_ret
                exact ⟨by rw [HF.out]; rfl, by have := Hq.out.2; repeat (first | exact Below.refl _ _ | assumption | (refine Below.drew ?_) | (refine below_drewN ?_ _) | (refine bel_new ?_ _) | (refine bel_then ?_ (by assumption)))⟩
              · have HG := Lib.hid (show plc phi + 1 < plc lo by omega)
                go_wp2_with (go_at_call 66; refine (scalar_any _ _).mono ?_; rintro e w' ⟨rfl, rfl⟩)
                go_quiet ((go_at_call 101; exact Calls.quiet_of_same (place_still _ _ (by assumption))))
                clear hw1 hw2
                go_wp2
                go_roundw
                case rel =>
                  refine ⟨j + 1 + 1, by omega, by go_num, by have := Hq.out.2; repeat (first | exact Below.refl _ _ | assumption | (refine Below.drew ?_) | (refine below_drewN ?_ _) | (refine bel_new ?_ _) | (refine bel_then ?_ (by assumption))), fun i hi => ?_⟩
                  by_cases e : i = j + 1
                  · subst e; exact ⟨by rw [← Hq.out.1]; exact Hok.out, fun _ => by rw [← Hq.out.1, show j + 1 - 1 = j by omega, ← Hq'.out]; exact HG.out⟩
                  · exact HA.out i (by omega)
                case measure => simp [intOf] <;> omega
          · have h3' : scal hi' = false := by simpa using h3
            have HF := Lib.hid (may_f k hk2 (hbad (P := False) (by simp [okR, h1, h2, h3'])))
            clear hbad h3
            go_wp2_with (go_at_call 66; refine (scalar_any _ _).mono ?_; rintro e w' ⟨rfl, rfl⟩)
            go_ret
            exact ⟨by rw [HF.out]; rfl, by have := Hq.out.2; repeat (first | exact Below.refl _ _ | assumption | (refine Below.drew ?_) | (refine below_drewN ?_ _) | (refine bel_new ?_ _) | (refine bel_then ?_ (by assumption)))⟩
        · have h2' : scal lo = false := by simpa using h2
          have HF := Lib.hid (may_f k hk2 (hbad (P := False) (by simp [okR, h1, h2'])))
          clear hbad h2
          go_wp2_with (go_at_call 66; refine (scalar_any _ _).mono ?_; rintro e w' ⟨rfl, rfl⟩)
          go_ret
          exact ⟨by rw [HF.out]; rfl, by have := Hq.out.2; repeat (first | exact Below.refl _ _ | assumption | (refine Below.drew ?_) | (refine below_drewN ?_ _) | (refine bel_new ?_ _) | (refine bel_then ?_ (by assumption)))⟩
      · have HF := Lib.hid (may_f k hk2 (hbad (P := False) (by simp [okR]; omega)))
        clear hbad
        go_wp2
        go_ret
        exact ⟨by rw [HF.out]; rfl, by have := Hq.out.2; repeat (first | exact Below.refl _ _ | assumption | (refine Below.drew ?_) | (refine below_drewN ?_ _) | (refine bel_new ?_ _) | (refine bel_then ?_ (by assumption)))⟩
    · have hkn : k = l.length := by omega
      subst hkn
      go_wp2
      go_ret
      exact ⟨by rw [may_t HA.out]; rfl, hbel⟩
end Go.Proofs.YtmgfpcblbbpahaaGreat.Rn
