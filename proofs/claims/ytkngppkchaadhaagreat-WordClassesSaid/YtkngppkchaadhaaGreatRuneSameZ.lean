/- runes: Same, May; the reference's Same. -/
import Derived.Test.YtkngppkchaadhaaGreatRuneOrZ
import Derived.Laws.StructEq
set_option linter.unusedVariables false
set_option linter.unusedSimpArgs false
namespace Go.Proofs.YtkngppkchaadhaaGreat
open Go.RowKit Ru

theorem neqR (a b c d : Int) (w : World) : (binOp .neq 29 (.agg #[.int .i32 a, .int .i32 b]) (.agg #[.int .i32 c, .int .i32 d])).run Tryz.prog w = .ok (.bool (!(decide (a = c) && decide (b = d)))) w := by
  have u1 := Tryz.underlying21
  have hS : Tryz.prog.underlying 29 = some (.struct (Tryz.prog.fieldsOf 29)) := by kernel_rfl
  have hp : Tryz.prog.stoodInHeld 29 = false := by kernel_rfl
  rw [run_neq_struct, show (10000 : Nat) = 9999 + 1 from rfl, run_equalIn_agg w 9999 29 _ _ hS hp]
  simp only [Program.fieldsOf, Tryz.underlying29]
  go_simp
  by_cases h1 : a = c <;> by_cases h2 : b = d <;> simp [h1, h2]
theorem eqlRZ (a b c d : Int) (w : World) : (binOp .eql 29 (.agg #[.int .i32 a, .int .i32 b]) (.agg #[.int .i32 c, .int .i32 d])).run Tryz.prog w = .ok (.bool (decide (a = c) && decide (b = d))) w := by
  have u1 := Tryz.underlying21
  have hS : Tryz.prog.underlying 29 = some (.struct (Tryz.prog.fieldsOf 29)) := by kernel_rfl
  have hp : Tryz.prog.stoodInHeld 29 = false := by kernel_rfl
  rw [run_eql_struct, show (10000 : Nat) = 9999 + 1 from rfl, run_equalIn_agg w 9999 29 _ _ hS hp]
  simp only [Program.fieldsOf, Tryz.underlying29]
  go_simp
  by_cases h1 : a = c <;> by_cases h2 : b = d <;> simp [h1, h2]
theorem guardRZ (op : BinOp) (x y : Operand) (a b c d : Int) (w : World) : (eqGuard op 29 x y (.agg #[.int .i32 a, .int .i32 b]) (.agg #[.int .i32 c, .int .i32 d])).run Tryz.prog w = .ok () w :=
  run_eqGuard_agg w op _ x y _ _ (by kernel_rfl)

theorem lists_ne {a b : List Pc} (k : Nat) (ha : k < a.length) (hb : k < b.length) (h : a.getD k (0, 0) ≠ b.getD k (0, 0)) : a ≠ b := fun e => h (by rw [e])
theorem lists_eq {a b : List Pc} (hl : a.length = b.length) (h : ∀ j, j < a.length → a.getD j (0, 0) = b.getD j (0, 0)) : a = b := by
  apply List.ext_getElem hl
  intro j h1 h2
  have := h j h1
  simpa [List.getD, List.getElem?_eq_getElem h1, List.getElem?_eq_getElem h2] using this

set_option maxHeartbeats 2000000 in
set_option maxRecDepth 1000000 in
theorem equalR_any (a b : List Pc) (va vb : Value) (w : World) (ha : Row w va a.length (flatK .i32 a)) (hb : Row w vb b.length (flatK .i32 b)) (hna : a.length ≤ 1000000) (hnb : b.length ≤ 1000000) :
    Calls Tryz.prog 19 #[va, vb] w fun e w' => e = .returned (.bool (decide (a = b))) ∧ Below w.heap.size w w' := by
  have Ha := Lib.hid ha
  have Hb := Lib.hid hb
  obtain ⟨oa, ca, rfl⟩ := ha.formZ
  obtain ⟨ob, cb, rfl⟩ := hb.formZ
  clear ha hb
  by_cases hl : a.length = b.length
  · have hl1 : ((a.length : Int) != (b.length : Int)) = false := by simp [hl]
    have Hl := Lib.hid hl
    go_enter Tryz.func19, Tryz.ntmps19
    obtain ⟨n, hn⟩ : ∃ n, n = a.length := ⟨_, rfl⟩
    have hn2 : n = b.length := by omega
    rw [← hn, ← hn2]
    have Hn := Lib.hid (And.intro hn hn2)
    have hnn : n ≤ 1000000 := by omega
    clear hl hl1 hn hn2 hna hnb
    go_wp2_with fail
    go_loopw [13] (fun i wr => ∃ k : Nat, k ≤ n ∧ i = .int .i64 k ∧ Below w.heap.size w wr ∧ ∀ j, j < k → a.getD j (0, 0) = b.getD j (0, 0))
      (fun i _ => n - (intOf i).toNat)
    case atStart => exact ⟨0, Nat.zero_le _, rfl, Below.refl _ _, fun j hj => by omega⟩
    case round =>
      obtain ⟨k, hk, rfl, hbel, hall⟩ := hrel
      have HA := Lib.hid hall
      clear hall
      by_cases hk2 : k < n
      · obtain ⟨ba, offa, capa, e, hlta⟩ := Ha.out.head (by have := Hn.out.1; omega)
        simp only [Value.slice.injEq, true_and] at e
        obtain ⟨rfl, rfl⟩ := e
        obtain ⟨bb, offb, capb, e, hltb⟩ := Hb.out.head (by have := Hn.out.2; omega)
        simp only [Value.slice.injEq, true_and] at e
        obtain ⟨rfl, rfl⟩ := e
        obtain ⟨_, c1, c2⟩ := Ha.out.pair (i := k) (by have := Hn.out.1; omega) rfl
        obtain ⟨_, d1, d2⟩ := Hb.out.pair (i := k) (by have := Hn.out.2; omega) rfl
        rw [← hbel.cell hlta] at c1 c2
        rw [← hbel.cell hltb] at d1 d2
        obtain ⟨p, hp⟩ : ∃ p, p = a.getD k (0, 0) := ⟨_, rfl⟩
        obtain ⟨q, hq⟩ : ∃ q, q = b.getD k (0, 0) := ⟨_, rfl⟩
        rw [← hp] at c1 c2
        rw [← hq] at d1 d2
        obtain ⟨p1, p2⟩ := p
        obtain ⟨q1, q2⟩ := q
        simp only at c1 c2 d1 d2
        have Hpq := Lib.hid (And.intro hp (And.intro hq hbel))
        clear hp hq hbel
        have hne : ∀ (w : World), Sem.run Tryz.prog (binOp .neq 29 (.agg #[.int .i32 p1, .int .i32 p2]) (.agg #[.int .i32 q1, .int .i32 q2])) w = .ok (.bool (!(decide (p1 = q1) && decide (p2 = q2)))) w := fun w => neqR _ _ _ _ w
        have hgd : ∀ (op : BinOp) (x y : Operand) (w : World), Sem.run Tryz.prog (eqGuard op 29 x y (.agg #[.int .i32 p1, .int .i32 p2]) (.agg #[.int .i32 q1, .int .i32 q2])) w = .ok () w := fun op x y w => guardRZ op x y _ _ _ _ w
        have hk0 : (0 : Int) ≤ (k : Int) := by omega
        have hk3 : (k : Int) < (n : Int) := by omega
        by_cases hh : p1 = q1 ∧ p2 = q2
        · have ht : (!(decide (p1 = q1) && decide (p2 = q2))) = false := by simp [hh.1, hh.2]
          rw [ht] at hne
          have Hh := Lib.hid hh
          clear hh ht
          go_wp2_with fail
          go_quiet (fail)
          go_wp2
          go_roundw
          case rel =>
            refine ⟨k + 1, by omega, by go_num, by have := Hpq.out.2.2; repeat (first | exact Below.refl _ _ | assumption | (refine Below.drew ?_) | (refine below_drewN ?_ _) | (refine bel_new ?_ _) | (refine bel_then ?_ (by assumption))), fun j hj => ?_⟩
            by_cases e : j = k
            · subst e; rw [← Hpq.out.1, ← Hpq.out.2.1, Hh.out.1, Hh.out.2]
            · exact HA.out j (by omega)
          case measure => simp [intOf] <;> omega
        · have ht : (!(decide (p1 = q1) && decide (p2 = q2))) = true := by
            by_cases h1 : p1 = q1 <;> by_cases h2 : p2 = q2 <;> simp_all
          rw [ht] at hne
          have Hh := Lib.hid hh
          clear hh ht
          go_wp2_with fail
          go_quiet (fail)
          go_wp2
          go_ret
          refine ⟨ret_boolZ ?_, by have := Hpq.out.2.2; repeat (first | exact Below.refl _ _ | assumption | (refine Below.drew ?_) | (refine below_drewN ?_ _) | (refine bel_new ?_ _) | (refine bel_then ?_ (by assumption)))⟩
          have := lists_ne (a := a) (b := b) k (by have := Hn.out.1; omega) (by have := Hn.out.2; omega) (by rw [← Hpq.out.1, ← Hpq.out.2.1]; intro e; simp only [Prod.mk.injEq] at e; exact Hh.out e)
          simp [this]
      · have hkn : k = n := by omega
        have Hkn := Lib.hid hkn
        clear hkn
        go_wp2
        go_ret
        refine ⟨ret_boolZ ?_, hbel⟩
        have := lists_eq (a := a) (b := b) Hl.out (fun j hj => HA.out j (by have := Hkn.out; have := Hn.out.1; omega))
        simp [this]
  · have hl1 : ((a.length : Int) != (b.length : Int)) = true := by simp; omega
    have Hl := Lib.hid hl
    clear hl
    go_enter Tryz.func19, Tryz.ntmps19
    go_wp2
    go_ret
    exact ⟨ret_boolZ (by have : a ≠ b := fun e => Hl.out (by rw [e]); simp [this]), Below.refl _ _⟩
theorem same_any (a b : List Pc) (va vb : Value) (w : World) (ha : Row w va a.length (flatK .i32 a)) (hb : Row w vb b.length (flatK .i32 b)) (hna : a.length ≤ 1000000) (hnb : b.length ≤ 1000000) :
    Calls Tryz.prog 7 #[va, vb] w fun e w' => e = .returned (.bool (decide (a = b))) ∧ Below w.heap.size w w' := by
  have Hc := Lib.hid (equalR_any a b va vb w ha hb hna hnb)
  go_enter Tryz.func7, Tryz.ntmps7
  go_wp2_with fail
  refine Hc.out.mono ?_
  rintro e w1 ⟨rfl, hb1⟩
  go_wp2
  go_ret
  exact ⟨rfl, hb1⟩
end Go.Proofs.YtkngppkchaadhaaGreat
