/- runes: Has, Or, And, Count. -/
import Derived.Test.YtmgfpcblbbpahaaGreatRnNot
import Derived.Test.YtmgfpcblbbpahaaGreatSetsG1
import Derived.Shelf.Spec.SlicesGrow
set_option linter.unusedVariables false
set_option linter.unusedSimpArgs false
namespace Go.Proofs.YtmgfpcblbbpahaaGreat.Rn
open Go.RowKit _root_.Go.Proofs.YtmgfpcblbbpahaaGreat.Ru Go.Proofs.YtmgfpcblbbpahaaGreat.Rn.Ru

/-! ### Has -/
def hit (r : Int) (p : Pc) : Bool := decide (p.1 ≤ r) && decide (r ≤ p.2)
theorem has_hit (l : List Pc) (r : Int) : has l r = (scal r && l.any (hit r)) := rfl
theorem has1_any (p : Pc) (r : Int) (B : Nat) (w : World) (hB : w.cell? ⟨B, 0, none⟩ = some (.int .i32 r)) :
    Calls Tryz.prog 68 #[.agg #[.int .i32 p.1, .int .i32 p.2], .pointer (some ⟨B, 0, none⟩)] w fun e w' => e = .returned (.bool (hit r p)) ∧ Below w.heap.size w w' := by
  have hlt := World.block_lt_of_cell? w _ hB
  simp only at hlt
  by_cases h1 : p.1 ≤ r
  · by_cases h2 : r ≤ p.2
    · go_enter Tryz.func68, Tryz.ntmps68
      go_wp2
      go_ret
      exact ⟨ret_bool (by simp [hit, h1, h2]), by repeat (first | exact Below.refl _ _ | assumption | (refine Below.drew ?_) | (refine below_drewN ?_ _) | (refine bel_new ?_ _) | (refine bel_then ?_ (by assumption)))⟩
    · go_enter Tryz.func68, Tryz.ntmps68
      go_wp2
      go_ret
      exact ⟨ret_bool (by simp [hit, h1]; omega), by repeat (first | exact Below.refl _ _ | assumption | (refine Below.drew ?_) | (refine below_drewN ?_ _) | (refine bel_new ?_ _) | (refine bel_then ?_ (by assumption)))⟩
  · go_enter Tryz.func68, Tryz.ntmps68
    go_wp2
    go_ret
    exact ⟨ret_bool (by simp [hit]; omega), by repeat (first | exact Below.refl _ _ | assumption | (refine Below.drew ?_) | (refine below_drewN ?_ _) | (refine bel_new ?_ _) | (refine bel_then ?_ (by assumption)))⟩
theorem any_false {l : List Pc} {f : Pc → Bool} (h : ∀ j, j < l.length → f (l.getD j (0, 0)) = false) : l.any f = false := by
  rw [List.any_eq_false]
  intro p hp
  obtain ⟨j, hj, rfl⟩ := List.getElem_of_mem hp
  have := h j hj
  simp [List.getD, List.getElem?_eq_getElem hj] at this
  simp [this]
theorem any_true {l : List Pc} {f : Pc → Bool} (j : Nat) (hj : j < l.length) (h : f (l.getD j (0, 0)) = true) : l.any f = true := by
  rw [List.any_eq_true]
  exact ⟨l[j], List.getElem_mem hj, by simpa [List.getD, List.getElem?_eq_getElem hj] using h⟩
set_option maxHeartbeats 1000000 in
set_option maxRecDepth 1000000 in
theorem indexR_any (l : List Pc) (r : Int) (B : Nat) (v : Value) (w : World) (hr : Row w v l.length (flatK .i32 l)) (hn : l.length ≤ 1000000) (hB : w.cell? ⟨B, 0, none⟩ = some (.int .i32 r)) :
    Calls Tryz.prog 95 #[v, .func (Fn.func 68) #[] #[.pointer (some ⟨B, 0, none⟩)]] w fun e w' =>
      ((l.any (hit r) = false ∧ e = .returned (.int .i64 (-1))) ∨ (l.any (hit r) = true ∧ ∃ k : Nat, k < l.length ∧ e = .returned (.int .i64 k))) ∧ Below w.heap.size w w' := by
  have hlt := World.block_lt_of_cell? w _ hB
  simp only at hlt
  have Hr := Lib.hid hr
  obtain ⟨o, cap, rfl⟩ := hr.form
  have HB := Lib.hid hB
  clear hr hB
  go_enter Tryz.func95, Tryz.ntmps95
  go_wp2_with fail
  go_loopw [8] (fun i wr => ∃ k : Nat, k ≤ l.length ∧ i = .int .i64 k ∧ Below w.heap.size w wr ∧ ∀ j, j < k → hit r (l.getD j (0, 0)) = false)
    (fun i _ => l.length - (intOf i).toNat)
  case atStart => exact ⟨0, Nat.zero_le _, rfl, Below.refl _ _, fun j hj => by omega⟩
  case round =>
    obtain ⟨k, hk, rfl, hbel, hall⟩ := hrel
    have HA := Lib.hid hall
    clear hall
    by_cases hk2 : k < l.length
    · obtain ⟨b, off, cap', e, hltb⟩ := Hr.out.head (by omega)
      simp only [Value.slice.injEq, true_and] at e
      obtain ⟨rfl, rfl⟩ := e
      obtain ⟨_, c1, c2⟩ := Hr.out.pair hk2 rfl
      rw [← hbel.cell hltb] at c1 c2
      have c3 := HB.out
      rw [← hbel.cell hlt] at c3
      obtain ⟨q, hq⟩ : ∃ q, q = l.getD k (0, 0) := ⟨_, rfl⟩
      rw [← hq] at c1 c2
      have Hq := Lib.hid hq
      have H3 := Lib.hid c3
      have HBl := Lib.hid hbel
      clear hq c3 hbel
      go_wp2_with fail
      refine (has1_any q r B _ H3.out).mono ?_
      rintro e w1 ⟨rfl, hb1⟩
      have hB1 : Below w.heap.size w w1 := bel_then HBl.out hb1
      have HB1 := Lib.hid hB1
      clear hb1 hB1 c1 c2
      by_cases hh : hit r q = true
      · rw [hh]
        have Hh := Lib.hid hh
        clear hh
        go_wp2
        go_ret
        exact ⟨.inr ⟨any_true k hk2 (by rw [← Hq.out]; exact Hh.out), k, hk2, rfl⟩, HB1.out⟩
      · have hh' : hit r q = false := by simpa using hh
        rw [hh']
        have Hh := Lib.hid hh'
        clear hh hh'
        go_wp2
        go_roundw
        case rel =>
          refine ⟨k + 1, by omega, by go_num, HB1.out, fun j hj => ?_⟩
          by_cases e : j = k
          · subst e; rw [← Hq.out]; exact Hh.out
          · exact HA.out j (by omega)
        case measure => simp [intOf] <;> omega
    · have hkn : k = l.length := by omega
      subst hkn
      go_wp2
      go_ret
      exact ⟨.inl ⟨any_false HA.out, rfl⟩, hbel⟩
theorem containsR_any (l : List Pc) (r : Int) (B : Nat) (v : Value) (w : World) (hr : Row w v l.length (flatK .i32 l)) (hn : l.length ≤ 1000000) (hB : w.cell? ⟨B, 0, none⟩ = some (.int .i32 r)) :
    Calls Tryz.prog 67 #[v, .func (Fn.func 68) #[] #[.pointer (some ⟨B, 0, none⟩)]] w fun e w' => e = .returned (.bool (l.any (hit r))) ∧ Below w.heap.size w w' := by
  have hx := Lib.hid (indexR_any l r B v w hr hn hB)
  go_enter Tryz.func67, Tryz.ntmps67
  go_wp2_with fail
  refine hx.out.mono ?_
  rintro e w1 ⟨⟨hm, rfl⟩ | ⟨hm, k, hk, rfl⟩, hb1⟩
  · go_wp2
    go_ret
    exact ⟨by rw [hm]; rfl, hb1⟩
  · go_wp2
    go_ret
    exact ⟨by rw [hm]; simp, hb1⟩
theorem has_any (l : List Pc) (r : Int) (v : Value) (w : World) (hr : Row w v l.length (flatK .i32 l)) (hn : l.length ≤ 1000000) :
    Calls Tryz.prog 39 #[v, .int .i32 r] w fun e w' => e = .returned (.bool (has l r)) ∧ Below w.heap.size w w' := by
  have hmf : ∀ (fn : Fn) (first cap : Array Value) (w : World), (Instr.makeFunc fn first cap).run Tryz.prog w = .ok (.func fn first cap) w := fun _ _ _ _ => rfl
  have hc := containsR_any l r w.heap.size v (w.alloc (.cells #[.int .i32 r] 21)) (hr.below (bel_new (Below.refl _ _) _)) hn (by simp)
  have Hc := Lib.hid hc
  rw [has_hit]
  clear hc hr
  by_cases hs : scal r = true
  · go_enter Tryz.func39, Tryz.ntmps39
    go_wp2_with (first
      | (go_at_call 66; refine (scalar_any _ _).mono ?_; rintro e w' ⟨rfl, rfl⟩)
      | (go_at_call 67; refine Hc.out.mono ?_; rintro e w1 ⟨rfl, hb1⟩))
    go_ret
    exact ⟨by simp [hs], bel_then (by repeat (first | exact Below.refl _ _ | assumption | (refine Below.drew ?_) | (refine below_drewN ?_ _) | (refine bel_new ?_ _) | (refine bel_then ?_ (by assumption)))) hb1⟩
  · have hs' : scal r = false := by simpa using hs
    clear hs
    go_enter Tryz.func39, Tryz.ntmps39
    go_wp2_with (go_at_call 66; refine (scalar_any _ _).mono ?_; rintro e w' ⟨rfl, rfl⟩)
    go_ret
    exact ⟨by simp [hs'], by repeat (first | exact Below.refl _ _ | assumption | (refine Below.drew ?_) | (refine below_drewN ?_ _) | (refine bel_new ?_ _) | (refine bel_then ?_ (by assumption)))⟩

/-! ### Or, And -/
/-! ### Count -/
end Go.Proofs.YtmgfpcblbbpahaaGreat.Rn
