/- runes: Same, May; the reference's Same. -/
import Derived.Test.YtmgfpcblbbpahaaGreatRnPieces
import Derived.Test.YtmgfpcblbbpahaaGreatBut
import Derived.Test.YtmgfpcblbbpahaaGreatSetsG1
import Derived.Shelf.Spec.SlicesGrow
import Derived.Laws.StructEq
set_option linter.unusedVariables false
set_option linter.unusedSimpArgs false
namespace Go.Proofs.YtmgfpcblbbpahaaGreat.Rn
open Go.RowKit Ru

namespace Ru
theorem length_ins (p : Pc) : ∀ l, (ins p l).length = l.length + 1
  | [] => rfl
  | q :: l => by unfold ins; split <;> simp [length_ins p l]
theorem length_srt : ∀ l, (srt l).length = l.length
  | [] => rfl
  | p :: l => by simp [srt, length_ins, length_srt l]
theorem pcs_le (l : List Pc) : (pcs l).length ≤ l.length := by
  have h1 := merge_len (srt (raw l))
  rw [length_srt] at h1
  exact Nat.le_trans h1 (raw_le l)
theorem nrm_le (l : List Pc) : (nrm l).length ≤ l.length := by unfold nrm; rw [rngs_len]; exact pcs_le l
theorem ok_of {P : List Pc} (h : Nf (-1) P) (h2 : Bd P) : ∀ q ∈ P, 0 ≤ q.1 ∧ q.1 < q.2 ∧ q.2 ≤ 1112064 := fun q hq => by
  have := h.pos q hq; have := h2 q hq; omega
theorem ok_pcs (l : List Pc) : ∀ q ∈ pcs l, 0 ≤ q.1 ∧ q.1 < q.2 ∧ q.2 ≤ 1112064 := ok_of (pcs_nf l) (pcs_bd l)
end Ru
open Ru
def NotS (w : World) (b qf qo : Nat) (s : List Pc × Int) : Prop :=
  qf < b ∧ qo < b ∧ qf ≠ qo ∧ b ≤ w.heap.size ∧ w.heap[qf]? = some (.cells #[.int .i64 s.2] 3 (0, 0)) ∧
    ∃ v, w.heap[qo]? = some (.cells #[v] 95 (0, 0)) ∧ w.ownsRow b 98 2 v s.1.length (flatK .i64 s.1)
theorem NotS.below {w w' : World} {b qf qo : Nat} {s : List Pc × Int} (h : NotS w b qf qo s) (hb : Below w.heap.size w w') : NotS w' b qf qo s := by
  obtain ⟨h1, h2, h3, h4, h5, v, h6, h7⟩ := h
  exact ⟨h1, h2, h3, Nat.le_trans h4 hb.size, by rw [hb.block qf (by omega)]; exact h5, v, by rw [hb.block qo (by omega)]; exact h6, owns_below h7 hb⟩
theorem butLowRn {w1 w2 : World} {b qa qo n : Nat} (h : But w1 w2 b qa qo) (hn : n ≤ b) (h1 : n ≤ qa) (h2 : n ≤ qo) : Below n w1 w2 := ⟨h.os, h.tape, h.output, h.size, fun k hk => h.block k (by omega) (by omega) (by omega)⟩

end Go.Proofs.YtmgfpcblbbpahaaGreat.Rn

namespace Go.Proofs.YtmgfpcblbbpahaaGreat.Rn
open Go.RowKit _root_.Go.Proofs.YtmgfpcblbbpahaaGreat.Ru Go.Proofs.YtmgfpcblbbpahaaGreat.Rn.Ru

/-! ### Has -/
def hit (r : Int) (p : Pc) : Bool := decide (p.1 ≤ r) && decide (r ≤ p.2)
theorem has_hit (l : List Pc) (r : Int) : has l r = (scal r && l.any (hit r)) := rfl
theorem has1_any (p : Pc) (r : Int) (B : Nat) (w : World) (hB : w.cell? ⟨B, 0, none⟩ = some (.int .i32 r)) :
    Calls Tryz.prog 68 #[.agg #[.int .i32 p.1, .int .i32 p.2], .pointer (some ⟨B, 0, none⟩)] w fun e w' => e = .returned (.bool (hit r p)) ∧ Below w.heap.size w w' := by
  have hlt := World.block_lt_of_cell? w _ hB
  simp only at hlt
  by_cases h1 : p.1 ≤ r
  · by_cases h2 : r ≤ p.2
    · go_enter Tryz.func68, Tryz.ntmps68
      go_wp2
      go_ret
      exact ⟨ret_bool (by simp [hit, h1, h2]), by repeat (first | exact Below.refl _ _ | assumption | (refine Below.drew ?_) | (refine below_drewN ?_ _) | (refine bel_new ?_ _) | (refine bel_then ?_ (by assumption)))⟩
    · go_enter Tryz.func68, Tryz.ntmps68
      go_wp2
      go_ret
      exact ⟨ret_bool (by simp [hit, h1]; omega), by repeat (first | exact Below.refl _ _ | assumption | (refine Below.drew ?_) | (refine below_drewN ?_ _) | (refine bel_new ?_ _) | (refine bel_then ?_ (by assumption)))⟩
  · go_enter Tryz.func68, Tryz.ntmps68
    go_wp2
    go_ret
    exact ⟨ret_bool (by simp [hit]; omega), by repeat (first | exact Below.refl _ _ | assumption | (refine Below.drew ?_) | (refine below_drewN ?_ _) | (refine bel_new ?_ _) | (refine bel_then ?_ (by assumption)))⟩
theorem any_false {l : List Pc} {f : Pc → Bool} (h : ∀ j, j < l.length → f (l.getD j (0, 0)) = false) : l.any f = false := by
  rw [List.any_eq_false]
  intro p hp
  obtain ⟨j, hj, rfl⟩ := List.getElem_of_mem hp
  have := h j hj
  simp [List.getD, List.getElem?_eq_getElem hj] at this
  simp [this]
theorem any_true {l : List Pc} {f : Pc → Bool} (j : Nat) (hj : j < l.length) (h : f (l.getD j (0, 0)) = true) : l.any f = true := by
  rw [List.any_eq_true]
  exact ⟨l[j], List.getElem_mem hj, by simpa [List.getD, List.getElem?_eq_getElem hj] using h⟩
set_option maxHeartbeats 1000000 in
set_option maxRecDepth 1000000 in
theorem indexR_any (l : List Pc) (r : Int) (B : Nat) (v : Value) (w : World) (hr : Row w v l.length (flatK .i32 l)) (hn : l.length ≤ 1000000) (hB : w.cell? ⟨B, 0, none⟩ = some (.int .i32 r)) :
    Calls Tryz.prog 95 #[v, .func (Fn.func 68) #[] #[.pointer (some ⟨B, 0, none⟩)]] w fun e w' =>
      ((l.any (hit r) = false ∧ e = .returned (.int .i64 (-1))) ∨ (l.any (hit r) = true ∧ ∃ k : Nat, k < l.length ∧ e = .returned (.int .i64 k))) ∧ Below w.heap.size w w' := by
  have hlt := World.block_lt_of_cell? w _ hB
  simp only at hlt
  have Hr := Lib.hid hr
  obtain ⟨o, cap, rfl⟩ := hr.form
  have HB := Lib.hid hB
  clear hr hB
  go_enter Tryz.func95, Tryz.ntmps95
  go_wp2_with fail
  go_loopw [8] (fun i wr => ∃ k : Nat, k ≤ l.length ∧ i = .int .i64 k ∧ Below w.heap.size w wr ∧ ∀ j, j < k → hit r (l.getD j (0, 0)) = false)
    (fun i _ => l.length - (intOf i).toNat)
  case atStart => exact ⟨0, Nat.zero_le _, rfl, Below.refl _ _, fun j hj => by omega⟩
  case round =>
    obtain ⟨k, hk, rfl, hbel, hall⟩ := hrel
    have HA := Lib.hid hall
    clear hall
    by_cases hk2 : k < l.length
    · obtain ⟨b, off, cap', e, hltb⟩ := Hr.out.head (by omega)
      simp only [Value.slice.injEq, true_and] at e
      obtain ⟨rfl, rfl⟩ := e
      obtain ⟨_, c1, c2⟩ := Hr.out.pair hk2 rfl
      rw [← hbel.cell hltb] at c1 c2
      have c3 := HB.out
      rw [← hbel.cell hlt] at c3
      obtain ⟨q, hq⟩ : ∃ q, q = l.getD k (0, 0) := ⟨_, rfl⟩
      rw [← hq] at c1 c2
      have Hq := Lib.hid hq
      have H3 := Lib.hid c3
      have HBl := Lib.hid hbel
      clear hq c3 hbel
      go_wp2_with fail
      refine (has1_any q r B _ H3.out).mono ?_
      rintro e w1 ⟨rfl, hb1⟩
      have hB1 : Below w.heap.size w w1 := bel_then HBl.out hb1
      have HB1 := Lib.hid hB1
      clear hb1 hB1 c1 c2
      by_cases hh : hit r q = true
      · rw [hh]
        have Hh := Lib.hid hh
        clear hh
        go_wp2
        go_ret
        exact ⟨.inr ⟨any_true k hk2 (by rw [← Hq.out]; exact Hh.out), k, hk2, rfl⟩, HB1.out⟩
      · have hh' : hit r q = false := by simpa using hh
        rw [hh']
        have Hh := Lib.hid hh'
        clear hh hh'
        go_wp2
        go_roundw
        case rel =>
          refine ⟨k + 1, by omega, by go_num, HB1.out, fun j hj => ?_⟩
          by_cases e : j = k
          · subst e; rw [← Hq.out]; exact Hh.out
          · exact HA.out j (by omega)
        case measure => simp [intOf] <;> omega
    · have hkn : k = l.length := by omega
      subst hkn
      go_wp2
      go_ret
      exact ⟨.inl ⟨any_false HA.out, rfl⟩, hbel⟩
theorem containsR_any (l : List Pc) (r : Int) (B : Nat) (v : Value) (w : World) (hr : Row w v l.length (flatK .i32 l)) (hn : l.length ≤ 1000000) (hB : w.cell? ⟨B, 0, none⟩ = some (.int .i32 r)) :
    Calls Tryz.prog 67 #[v, .func (Fn.func 68) #[] #[.pointer (some ⟨B, 0, none⟩)]] w fun e w' => e = .returned (.bool (l.any (hit r))) ∧ Below w.heap.size w w' := by
  have hx := Lib.hid (indexR_any l r B v w hr hn hB)
  go_enter Tryz.func67, Tryz.ntmps67
  go_wp2_with fail
  refine hx.out.mono ?_
  rintro e w1 ⟨⟨hm, rfl⟩ | ⟨hm, k, hk, rfl⟩, hb1⟩
  · go_wp2
    go_ret
    exact ⟨by rw [hm]; rfl, hb1⟩
  · go_wp2
    go_ret
    exact ⟨by rw [hm]; simp, hb1⟩
theorem has_any (l : List Pc) (r : Int) (v : Value) (w : World) (hr : Row w v l.length (flatK .i32 l)) (hn : l.length ≤ 1000000) :
    Calls Tryz.prog 39 #[v, .int .i32 r] w fun e w' => e = .returned (.bool (has l r)) ∧ Below w.heap.size w w' := by
  have hmf : ∀ (fn : Fn) (first cap : Array Value) (w : World), (Instr.makeFunc fn first cap).run Tryz.prog w = .ok (.func fn first cap) w := fun _ _ _ _ => rfl
  have hc := containsR_any l r w.heap.size v (w.alloc (.cells #[.int .i32 r] 21)) (hr.below (bel_new (Below.refl _ _) _)) hn (by simp)
  have Hc := Lib.hid hc
  rw [has_hit]
  clear hc hr
  by_cases hs : scal r = true
  · go_enter Tryz.func39, Tryz.ntmps39
    go_wp2_with (first
      | (go_at_call 66; refine (scalar_any _ _).mono ?_; rintro e w' ⟨rfl, rfl⟩)
      | (go_at_call 67; refine Hc.out.mono ?_; rintro e w1 ⟨rfl, hb1⟩))
    go_ret
    exact ⟨by simp [hs], bel_then (by repeat (first | exact Below.refl _ _ | assumption | (refine Below.drew ?_) | (refine below_drewN ?_ _) | (refine bel_new ?_ _) | (refine bel_then ?_ (by assumption)))) hb1⟩
  · have hs' : scal r = false := by simpa using hs
    clear hs
    go_enter Tryz.func39, Tryz.ntmps39
    go_wp2_with (go_at_call 66; refine (scalar_any _ _).mono ?_; rintro e w' ⟨rfl, rfl⟩)
    go_ret
    exact ⟨by simp [hs'], by repeat (first | exact Below.refl _ _ | assumption | (refine Below.drew ?_) | (refine below_drewN ?_ _) | (refine bel_new ?_ _) | (refine bel_then ?_ (by assumption)))⟩

/-! ### Or, And -/
/-! ### Count -/
end Go.Proofs.YtmgfpcblbbpahaaGreat.Rn

namespace Go.Proofs.YtmgfpcblbbpahaaGreat.Rn
open Go.RowKit _root_.Go.Proofs.YtmgfpcblbbpahaaGreat.Ru Go.Proofs.YtmgfpcblbbpahaaGreat.Rn.Ru

theorem neqR (a b c d : Int) (w : World) : (binOp .neq 54 (.agg #[.int .i32 a, .int .i32 b]) (.agg #[.int .i32 c, .int .i32 d])).run Tryz.prog w = .ok (.bool (!(decide (a = c) && decide (b = d)))) w := by
  have u1 := Tryz.underlying21
  have hS : Tryz.prog.underlying 54 = some (.struct (Tryz.prog.fieldsOf 54)) := by kernel_rfl
  have hp : Tryz.prog.stoodInHeld 54 = false := by kernel_rfl
  rw [run_neq_struct, show (10000 : Nat) = 9999 + 1 from rfl, run_equalIn_agg w 9999 54 _ _ hS hp]
  simp only [Program.fieldsOf, Tryz.underlying54]
  go_simp
  by_cases h1 : a = c <;> by_cases h2 : b = d <;> simp [h1, h2]
theorem guardR (op : BinOp) (x y : Operand) (a b c d : Int) (w : World) : (eqGuard op 54 x y (.agg #[.int .i32 a, .int .i32 b]) (.agg #[.int .i32 c, .int .i32 d])).run Tryz.prog w = .ok () w :=
  run_eqGuard_agg w op _ x y _ _ (by kernel_rfl)

theorem lists_ne {a b : List Pc} (k : Nat) (ha : k < a.length) (hb : k < b.length) (h : a.getD k (0, 0) ≠ b.getD k (0, 0)) : a ≠ b := fun e => h (by rw [e])
theorem lists_eq {a b : List Pc} (hl : a.length = b.length) (h : ∀ j, j < a.length → a.getD j (0, 0) = b.getD j (0, 0)) : a = b := by
  apply List.ext_getElem hl
  intro j h1 h2
  have := h j h1
  simpa [List.getD, List.getElem?_eq_getElem h1, List.getElem?_eq_getElem h2] using this

set_option maxHeartbeats 2000000 in
set_option maxRecDepth 1000000 in
theorem refSame_any (a b : List Pc) (va vb : Value) (w : World) (ha : Row w va a.length (flatK .i32 a)) (hb : Row w vb b.length (flatK .i32 b)) (hna : a.length ≤ 1000000) (hnb : b.length ≤ 1000000) :
    Calls Tryz.prog 19 #[va, vb] w fun e w' => e = .returned (.bool (decide (a = b))) ∧ Below w.heap.size w w' := by
  have Ha := Lib.hid ha
  have Hb := Lib.hid hb
  obtain ⟨oa, ca, rfl⟩ := ha.form
  obtain ⟨ob, cb, rfl⟩ := hb.form
  clear ha hb
  by_cases hl : a.length = b.length
  · have hl1 : ((a.length : Int) != (b.length : Int)) = false := by simp [hl]
    have Hl := Lib.hid hl
    go_enter Tryz.func19, Tryz.ntmps19
    obtain ⟨n, hn⟩ : ∃ n, n = a.length := ⟨_, rfl⟩
    have hn2 : n = b.length := by omega
    rw [← hn, ← hn2]
    have Hn := Lib.hid (And.intro hn hn2)
    have hnn : n ≤ 1000000 := by omega
    clear hl hl1 hn hn2 hna hnb
    go_wp2_with fail
    go_loopw [5] (fun i wr => ∃ k : Nat, k ≤ n ∧ i = .int .i64 k ∧ Below w.heap.size w wr ∧ ∀ j, j < k → a.getD j (0, 0) = b.getD j (0, 0))
      (fun i _ => n - (intOf i).toNat)
    case atStart => exact ⟨0, Nat.zero_le _, rfl, Below.refl _ _, fun j hj => by omega⟩
    case round =>
      obtain ⟨k, hk, rfl, hbel, hall⟩ := hrel
      have HA := Lib.hid hall
      clear hall
      by_cases hk2 : k < n
      · obtain ⟨ba, offa, capa, e, hlta⟩ := Ha.out.head (by have := Hn.out.1; omega)
        simp only [Value.slice.injEq, true_and] at e
        obtain ⟨rfl, rfl⟩ := e
        obtain ⟨bb, offb, capb, e, hltb⟩ := Hb.out.head (by have := Hn.out.2; omega)
        simp only [Value.slice.injEq, true_and] at e
        obtain ⟨rfl, rfl⟩ := e
        obtain ⟨_, c1, c2⟩ := Ha.out.pair (i := k) (by have := Hn.out.1; omega) rfl
        obtain ⟨_, d1, d2⟩ := Hb.out.pair (i := k) (by have := Hn.out.2; omega) rfl
        rw [← hbel.cell hlta] at c1 c2
        rw [← hbel.cell hltb] at d1 d2
        obtain ⟨p, hp⟩ : ∃ p, p = a.getD k (0, 0) := ⟨_, rfl⟩
        obtain ⟨q, hq⟩ : ∃ q, q = b.getD k (0, 0) := ⟨_, rfl⟩
        rw [← hp] at c1 c2
        rw [← hq] at d1 d2
        obtain ⟨p1, p2⟩ := p
        obtain ⟨q1, q2⟩ := q
        simp only at c1 c2 d1 d2
        have Hpq := Lib.hid (And.intro hp (And.intro hq hbel))
        clear hp hq hbel
        have hne : ∀ (w : World), Sem.run Tryz.prog (binOp .neq 54 (.agg #[.int .i32 p1, .int .i32 p2]) (.agg #[.int .i32 q1, .int .i32 q2])) w = .ok (.bool (!(decide (p1 = q1) && decide (p2 = q2)))) w := fun w => neqR _ _ _ _ w
        have hgd : ∀ (op : BinOp) (x y : Operand) (w : World), Sem.run Tryz.prog (eqGuard op 54 x y (.agg #[.int .i32 p1, .int .i32 p2]) (.agg #[.int .i32 q1, .int .i32 q2])) w = .ok () w := fun op x y w => guardR op x y _ _ _ _ w
        have hk0 : (0 : Int) ≤ (k : Int) := by omega
        have hk3 : (k : Int) < (n : Int) := by omega
        by_cases hh : p1 = q1 ∧ p2 = q2
        · have ht : (!(decide (p1 = q1) && decide (p2 = q2))) = false := by simp [hh.1, hh.2]
          rw [ht] at hne
          have Hh := Lib.hid hh
          clear hh ht
          go_wp2_with fail
          go_quiet (fail)
          go_wp2
          go_roundw
          case rel =>
            refine ⟨k + 1, by omega, by go_num, by have := Hpq.out.2.2; repeat (first | exact Below.refl _ _ | assumption | (refine Below.drew ?_) | (refine below_drewN ?_ _) | (refine bel_new ?_ _) | (refine bel_then ?_ (by assumption))), fun j hj => ?_⟩
            by_cases e : j = k
            · subst e; rw [← Hpq.out.1, ← Hpq.out.2.1, Hh.out.1, Hh.out.2]
            · exact HA.out j (by omega)
          case measure => simp [intOf] <;> omega
        · have ht : (!(decide (p1 = q1) && decide (p2 = q2))) = true := by
            by_cases h1 : p1 = q1 <;> by_cases h2 : p2 = q2 <;> simp_all
          rw [ht] at hne
          have Hh := Lib.hid hh
          clear hh ht
          go_wp2_with fail
          go_quiet (fail)
          go_wp2
          go_ret
          refine ⟨ret_bool ?_, by have := Hpq.out.2.2; repeat (first | exact Below.refl _ _ | assumption | (refine Below.drew ?_) | (refine below_drewN ?_ _) | (refine bel_new ?_ _) | (refine bel_then ?_ (by assumption)))⟩
          have := lists_ne (a := a) (b := b) k (by have := Hn.out.1; omega) (by have := Hn.out.2; omega) (by rw [← Hpq.out.1, ← Hpq.out.2.1]; intro e; simp only [Prod.mk.injEq] at e; exact Hh.out e)
          simp [this]
      · have hkn : k = n := by omega
        have Hkn := Lib.hid hkn
        clear hkn
        go_wp2
        go_ret
        refine ⟨ret_bool ?_, hbel⟩
        have := lists_eq (a := a) (b := b) Hl.out (fun j hj => HA.out j (by have := Hkn.out; have := Hn.out.1; omega))
        simp [this]
  · have hl1 : ((a.length : Int) != (b.length : Int)) = true := by simp; omega
    have Hl := Lib.hid hl
    clear hl
    go_enter Tryz.func19, Tryz.ntmps19
    go_wp2
    go_ret
    exact ⟨ret_bool (by have : a ≠ b := fun e => Hl.out (by rw [e])
                        simp [this]), Below.refl _ _⟩

theorem place_still (r : Int) (w : World) (hr : -2147483648 ≤ r ∧ r ≤ 2147483647) : Calls Tryz.prog 101 #[.int .i32 r] w fun e w' => e = .returned (.int .i64 (plc r)) ∧ w' = w :=
  (place_any r w hr).mono fun _ _ h => ⟨h.1, h.2.symm⟩
def okAt (l : List Pc) (i : Nat) : Prop := okR (l.getD i (0, 0)) = true ∧ (0 < i → plc (l.getD (i - 1) (0, 0)).2 + 1 < plc (l.getD i (0, 0)).1)
theorem may_t {l : List Pc} (h : ∀ i, i < l.length → okAt l i) : mayB l = true := (mayB_iff l).2 h
theorem may_f {l : List Pc} (i : Nat) (hi : i < l.length) (h : ¬ okAt l i) : mayB l = false := by
  cases e : mayB l with
  | false => rfl
  | true => exact absurd ((mayB_iff l).1 e i hi) h
set_option maxHeartbeats 2000000 in
set_option maxRecDepth 1000000 in
theorem mayR_any (l : List Pc) (v : Value) (w : World) (hr : Row w v l.length (flatK .i32 l)) (hz : i32s l) (hn : l.length ≤ 1000000) :
    Calls Tryz.prog 80 #[v] w fun e w' => e = .returned (.bool (mayB l)) ∧ Below w.heap.size w w' := by
  have Hr := Lib.hid hr
  have Hz := Lib.hid hz
  obtain ⟨o, cap, rfl⟩ := hr.form
  clear hr hz
  go_enter Tryz.func80, Tryz.ntmps80
  go_wp2_with fail
  go_loopw [7] (fun i wr => ∃ k : Nat, k ≤ l.length ∧ i = .int .i64 k ∧ Below w.heap.size w wr ∧ ∀ j, j < k → okAt l j)
    (fun i _ => l.length - (intOf i).toNat)
  case atStart => exact ⟨0, Nat.zero_le _, rfl, Below.refl _ _, fun j hj => by omega⟩
  case round =>
    obtain ⟨k, hk, rfl, hbel, hall⟩ := hrel
    have HA := Lib.hid hall
    clear hall
    by_cases hk2 : k < l.length
    · obtain ⟨b, off, cap', e, hltb⟩ := Hr.out.head (by omega)
      simp only [Value.slice.injEq, true_and] at e
      obtain ⟨rfl, rfl⟩ := e
      obtain ⟨_, c1, c2⟩ := Hr.out.pair hk2 rfl
      rw [← hbel.cell hltb] at c1 c2
      obtain ⟨q, hq⟩ : ∃ q, q = l.getD k (0, 0) := ⟨_, rfl⟩
      have hq1 := (Hz.out q (by rw [hq]; simp [List.getD, List.getElem?_eq_getElem hk2])).1
      have hq2 := (Hz.out q (by rw [hq]; simp [List.getD, List.getElem?_eq_getElem hk2])).2
      rw [← hq] at c1 c2
      obtain ⟨lo, hi'⟩ := q
      simp only at c1 c2 hq1 hq2
      have Hq := Lib.hid (And.intro hq hbel)
      clear hq hbel
      have hbad : ∀ {P : Prop}, okR (lo, hi') = false → (okAt l k → P) := fun h1 h2 => by
        have := h2.1; rw [← Hq.out.1, h1] at this; cases this
      by_cases h1 : lo ≤ hi'
      · by_cases h2 : scal lo = true
        · by_cases h3 : scal hi' = true
          · have hok : okR (lo, hi') = true := by simp [okR, h1, h2, h3]
            have Hok := Lib.hid hok
            clear hok hbad
            by_cases hk0 : k = 0
            · have hg1 : decide (0 < k) = false := by simp [hk0]
              have hg2 : decide ((0 : Int) < (k : Int)) = false := by simp [hk0]
              have HK := Lib.hid hk0
              clear hk0
              go_wp2_with (go_at_call 66; refine (scalar_any _ _).mono ?_; rintro e w' ⟨rfl, rfl⟩)
              go_quiet (fail)
              go_wp2
              go_roundw
              case rel =>
                refine ⟨k + 1, by omega, by go_num, by have := Hq.out.2; repeat (first | exact Below.refl _ _ | assumption | (refine Below.drew ?_) | (refine below_drewN ?_ _) | (refine bel_new ?_ _) | (refine bel_then ?_ (by assumption))), fun j hj => ?_⟩
                by_cases e : j = k
                · subst e; exact ⟨by rw [← Hq.out.1]; exact Hok.out, fun h => by have := HK.out; omega⟩
                · exact HA.out j (by omega)
              case measure => simp [intOf] <;> omega
            · obtain ⟨j, rfl⟩ : ∃ j, k = j + 1 := ⟨k - 1, by omega⟩
              obtain ⟨_, _, d2⟩ := Hr.out.pair (i := j) (by omega) rfl
              rw [← Hq.out.2.cell hltb] at d2
              obtain ⟨q', hq'⟩ : ∃ q', q' = l.getD j (0, 0) := ⟨_, rfl⟩
              have hq3 := (Hz.out q' (by rw [hq']; simp [List.getD, List.getElem?_eq_getElem (show j < l.length by omega)])).2
              rw [← hq'] at d2
              obtain ⟨plo, phi⟩ := q'
              simp only at d2 hq3
              have Hq' := Lib.hid hq'
              have hp1 := plc_range lo
              have hp2 := plc_range phi
              have hw1 : IntKind.i64.wrap (j : Int) = (j : Int) := iwrap (by omega)
              have hw2 : IntKind.i64.wrap (plc phi + 1) = plc phi + 1 := iwrap (by omega)
              have hj0 : (0 : Int) ≤ (j : Int) := by omega
              have hj1 : (j : Int) < (l.length : Int) := by omega
              have hj2 : (0 : Int) < (j : Int) + 1 := by omega
              have hbw : b < wr.heap.size := Nat.lt_of_lt_of_le hltb Hq.out.2.size
              clear hq' hk0 hk
              by_cases hgap : plc lo ≤ plc phi + 1
              · have HF := Lib.hid (may_f (j + 1) hk2 (fun h => by
                  have := h.2 (by omega)
                  rw [← Hq.out.1, show j + 1 - 1 = j by omega, ← Hq'.out] at this
                  simp only at this; omega))
                go_wp2_with (go_at_call 66; refine (scalar_any _ _).mono ?_; rintro e w' ⟨rfl, rfl⟩)
                go_quiet ((go_at_call 101; exact Calls.quiet_of_same (place_still _ _ (by assumption))))
                clear hw1 hw2
                go_wp2
                go_ret
                exact ⟨by rw [HF.out]; rfl, by have := Hq.out.2; repeat (first | exact Below.refl _ _ | assumption | (refine Below.drew ?_) | (refine below_drewN ?_ _) | (refine bel_new ?_ _) | (refine bel_then ?_ (by assumption)))⟩
              · have HG := Lib.hid (show plc phi + 1 < plc lo by omega)
                go_wp2_with (go_at_call 66; refine (scalar_any _ _).mono ?_; rintro e w' ⟨rfl, rfl⟩)
                go_quiet ((go_at_call 101; exact Calls.quiet_of_same (place_still _ _ (by assumption))))
                clear hw1 hw2
                go_wp2
                go_roundw
                case rel =>
                  refine ⟨j + 1 + 1, by omega, by go_num, by have := Hq.out.2; repeat (first | exact Below.refl _ _ | assumption | (refine Below.drew ?_) | (refine below_drewN ?_ _) | (refine bel_new ?_ _) | (refine bel_then ?_ (by assumption))), fun i hi => ?_⟩
                  by_cases e : i = j + 1
                  · subst e; exact ⟨by rw [← Hq.out.1]; exact Hok.out, fun _ => by rw [← Hq.out.1, show j + 1 - 1 = j by omega, ← Hq'.out]; exact HG.out⟩
                  · exact HA.out i (by omega)
                case measure => simp [intOf] <;> omega
          · have h3' : scal hi' = false := by simpa using h3
            have HF := Lib.hid (may_f k hk2 (hbad (P := False) (by simp [okR, h1, h2, h3'])))
            clear hbad h3
            go_wp2_with (go_at_call 66; refine (scalar_any _ _).mono ?_; rintro e w' ⟨rfl, rfl⟩)
            go_ret
            exact ⟨by rw [HF.out]; rfl, by have := Hq.out.2; repeat (first | exact Below.refl _ _ | assumption | (refine Below.drew ?_) | (refine below_drewN ?_ _) | (refine bel_new ?_ _) | (refine bel_then ?_ (by assumption)))⟩
        · have h2' : scal lo = false := by simpa using h2
          have HF := Lib.hid (may_f k hk2 (hbad (P := False) (by simp [okR, h1, h2'])))
          clear hbad h2
          go_wp2_with (go_at_call 66; refine (scalar_any _ _).mono ?_; rintro e w' ⟨rfl, rfl⟩)
          go_ret
          exact ⟨by rw [HF.out]; rfl, by have := Hq.out.2; repeat (first | exact Below.refl _ _ | assumption | (refine Below.drew ?_) | (refine below_drewN ?_ _) | (refine bel_new ?_ _) | (refine bel_then ?_ (by assumption)))⟩
      · have HF := Lib.hid (may_f k hk2 (hbad (P := False) (by simp [okR]; omega)))
        clear hbad
        go_wp2
        go_ret
        exact ⟨by rw [HF.out]; rfl, by have := Hq.out.2; repeat (first | exact Below.refl _ _ | assumption | (refine Below.drew ?_) | (refine below_drewN ?_ _) | (refine bel_new ?_ _) | (refine bel_then ?_ (by assumption)))⟩
    · have hkn : k = l.length := by omega
      subst hkn
      go_wp2
      go_ret
      exact ⟨by rw [may_t HA.out]; rfl, hbel⟩
end Go.Proofs.YtmgfpcblbbpahaaGreat.Rn
