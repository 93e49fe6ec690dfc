/- runes: Has, Or, And, Count. -/
import Derived.Test.YtjhfncmeiaogaaaRuneNot
import Derived.Shelf.Spec.SlicesGrow
set_option linter.unusedVariables false
set_option linter.unusedSimpArgs false
namespace Go.Proofs.Ytjhfncmeiaogaaa
open Go.RowKit Ru

/-! ### Has -/
def hit (r : Int) (p : Pc) : Bool := decide (p.1 ≤ r) && decide (r ≤ p.2)
theorem has_hit (l : List Pc) (r : Int) : has l r = (scal r && l.any (hit r)) := rfl
theorem has1_any (p : Pc) (r : Int) (B : Nat) (w : World) (hB : w.cell? ⟨B, 0, none⟩ = some (.int .i32 r)) :
    Calls Try.prog 58 #[.agg #[.int .i32 p.1, .int .i32 p.2], .pointer (some ⟨B, 0, none⟩)] w fun e w' => e = .returned (.bool (hit r p)) ∧ Below w.heap.size w w' := by
  have hlt := World.block_lt_of_cell? w _ hB
  simp only at hlt
  by_cases h1 : p.1 ≤ r
  · by_cases h2 : r ≤ p.2
    · go_enter Try.func58, Try.ntmps58
      go_wp2
      go_ret
      exact ⟨ret_bool (by simp [hit, h1, h2]), by repeat (first | exact Below.refl _ _ | assumption | (refine Below.drew ?_) | (refine below_drewN ?_ _) | (refine bel_new ?_ _) | (refine bel_then ?_ (by assumption)))⟩
    · go_enter Try.func58, Try.ntmps58
      go_wp2
      go_ret
      exact ⟨ret_bool (by simp [hit, h1]; omega), by repeat (first | exact Below.refl _ _ | assumption | (refine Below.drew ?_) | (refine below_drewN ?_ _) | (refine bel_new ?_ _) | (refine bel_then ?_ (by assumption)))⟩
  · go_enter Try.func58, Try.ntmps58
    go_wp2
    go_ret
    exact ⟨ret_bool (by simp [hit]; omega), by repeat (first | exact Below.refl _ _ | assumption | (refine Below.drew ?_) | (refine below_drewN ?_ _) | (refine bel_new ?_ _) | (refine bel_then ?_ (by assumption)))⟩
theorem any_false {l : List Pc} {f : Pc → Bool} (h : ∀ j, j < l.length → f (l.getD j (0, 0)) = false) : l.any f = false := by
  rw [List.any_eq_false]
  intro p hp
  obtain ⟨j, hj, rfl⟩ := List.getElem_of_mem hp
  have := h j hj
  simp [List.getD, List.getElem?_eq_getElem hj] at this
  simp [this]
theorem any_true {l : List Pc} {f : Pc → Bool} (j : Nat) (hj : j < l.length) (h : f (l.getD j (0, 0)) = true) : l.any f = true := by
  rw [List.any_eq_true]
  exact ⟨l[j], List.getElem_mem hj, by simpa [List.getD, List.getElem?_eq_getElem hj] using h⟩
set_option maxHeartbeats 1000000 in
set_option maxRecDepth 1000000 in
theorem indexR_any (l : List Pc) (r : Int) (B : Nat) (v : Value) (w : World) (hr : Row w v l.length (flatK .i32 l)) (hn : l.length ≤ 1000000) (hB : w.cell? ⟨B, 0, none⟩ = some (.int .i32 r)) :
    Calls Try.prog 78 #[v, .func (Fn.func 58) #[] #[.pointer (some ⟨B, 0, none⟩)]] w fun e w' =>
      ((l.any (hit r) = false ∧ e = .returned (.int .i64 (-1))) ∨ (l.any (hit r) = true ∧ ∃ k : Nat, k < l.length ∧ e = .returned (.int .i64 k))) ∧ Below w.heap.size w w' := by
  have hlt := World.block_lt_of_cell? w _ hB
  simp only at hlt
  have Hr := Lib.hid hr
  obtain ⟨o, cap, rfl⟩ := hr.form
  have HB := Lib.hid hB
  clear hr hB
  go_enter Try.func78, Try.ntmps78
  go_wp2_with fail
  go_loopw [8] (fun i wr => ∃ k : Nat, k ≤ l.length ∧ i = .int .i64 k ∧ Below w.heap.size w wr ∧ ∀ j, j < k → hit r (l.getD j (0, 0)) = false)
    (fun i _ => l.length - (intOf i).toNat)
  case atStart => exact ⟨0, Nat.zero_le _, rfl, Below.refl _ _, fun j hj => by omega⟩
  case round =>
    obtain ⟨k, hk, rfl, hbel, hall⟩ := hrel
    have HA := Lib.hid hall
    clear hall
    by_cases hk2 : k < l.length
    · obtain ⟨b, off, cap', e, hltb⟩ := Hr.out.head (by omega)
      simp only [Value.slice.injEq, true_and] at e
      obtain ⟨rfl, rfl⟩ := e
      obtain ⟨_, c1, c2⟩ := Hr.out.pair hk2 rfl
      rw [← hbel.cell hltb] at c1 c2
      have c3 := HB.out
      rw [← hbel.cell hlt] at c3
      obtain ⟨q, hq⟩ : ∃ q, q = l.getD k (0, 0) := ⟨_, rfl⟩
      rw [← hq] at c1 c2
      have Hq := Lib.hid hq
      have H3 := Lib.hid c3
      have HBl := Lib.hid hbel
      clear hq c3 hbel
      go_wp2_with fail
      refine (has1_any q r B _ H3.out).mono ?_
      rintro e w1 ⟨rfl, hb1⟩
      have hB1 : Below w.heap.size w w1 := bel_then HBl.out hb1
      have HB1 := Lib.hid hB1
      clear hb1 hB1 c1 c2
      by_cases hh : hit r q = true
      · rw [hh]
        have Hh := Lib.hid hh
        clear hh
        go_wp2
        go_ret
        exact ⟨.inr ⟨any_true k hk2 (by rw [← Hq.out]; exact Hh.out), k, hk2, rfl⟩, HB1.out⟩
      · have hh' : hit r q = false := by simpa using hh
        rw [hh']
        have Hh := Lib.hid hh'
        clear hh hh'
        go_wp2
        go_roundw
        case rel =>
          refine ⟨k + 1, by omega, by go_num, HB1.out, fun j hj => ?_⟩
          by_cases e : j = k
          · subst e; rw [← Hq.out]; exact Hh.out
          · exact HA.out j (by omega)
        case measure => simp [intOf] <;> omega
    · have hkn : k = l.length := by omega
      subst hkn
      go_wp2
      go_ret
      exact ⟨.inl ⟨any_false HA.out, rfl⟩, hbel⟩
theorem containsR_any (l : List Pc) (r : Int) (B : Nat) (v : Value) (w : World) (hr : Row w v l.length (flatK .i32 l)) (hn : l.length ≤ 1000000) (hB : w.cell? ⟨B, 0, none⟩ = some (.int .i32 r)) :
    Calls Try.prog 57 #[v, .func (Fn.func 58) #[] #[.pointer (some ⟨B, 0, none⟩)]] w fun e w' => e = .returned (.bool (l.any (hit r))) ∧ Below w.heap.size w w' := by
  have hx := Lib.hid (indexR_any l r B v w hr hn hB)
  go_enter Try.func57, Try.ntmps57
  go_wp2_with fail
  refine hx.out.mono ?_
  rintro e w1 ⟨⟨hm, rfl⟩ | ⟨hm, k, hk, rfl⟩, hb1⟩
  · go_wp2
    go_ret
    exact ⟨by rw [hm]; rfl, hb1⟩
  · go_wp2
    go_ret
    exact ⟨by rw [hm]; simp, hb1⟩
theorem has_any (l : List Pc) (r : Int) (v : Value) (w : World) (hr : Row w v l.length (flatK .i32 l)) (hn : l.length ≤ 1000000) :
    Calls Try.prog 33 #[v, .int .i32 r] w fun e w' => e = .returned (.bool (has l r)) ∧ Below w.heap.size w w' := by
  have hmf : ∀ (fn : Fn) (first cap : Array Value) (w : World), (Instr.makeFunc fn first cap).run Try.prog w = .ok (.func fn first cap) w := fun _ _ _ _ => rfl
  have hc := containsR_any l r w.heap.size v (w.alloc (.cells #[.int .i32 r] 21)) (hr.below (bel_new (Below.refl _ _) _)) hn (by simp)
  have Hc := Lib.hid hc
  rw [has_hit]
  clear hc hr
  by_cases hs : scal r = true
  · go_enter Try.func33, Try.ntmps33
    go_wp2_with (first
      | (go_at_call 51; refine (scalar_any _ _).mono ?_; rintro e w' ⟨rfl, rfl⟩)
      | (go_at_call 57; refine Hc.out.mono ?_; rintro e w1 ⟨rfl, hb1⟩))
    go_ret
    exact ⟨by simp [hs], bel_then (by repeat (first | exact Below.refl _ _ | assumption | (refine Below.drew ?_) | (refine below_drewN ?_ _) | (refine bel_new ?_ _) | (refine bel_then ?_ (by assumption)))) hb1⟩
  · have hs' : scal r = false := by simpa using hs
    clear hs
    go_enter Try.func33, Try.ntmps33
    go_wp2_with (go_at_call 51; refine (scalar_any _ _).mono ?_; rintro e w' ⟨rfl, rfl⟩)
    go_ret
    exact ⟨by simp [hs'], by repeat (first | exact Below.refl _ _ | assumption | (refine Below.drew ?_) | (refine below_drewN ?_ _) | (refine bel_new ?_ _) | (refine bel_then ?_ (by assumption)))⟩

/-! ### Or, And -/
theorem growR_any (n : Nat) (w : World) (hn : n ≤ 10000000) :
    Calls Try.prog 79 #[.slice none 0 0, .int .i64 n] w fun e w' => ∃ v, e = .returned v ∧ w'.ownsRow w.heap.size 59 2 v 0 [] ∧ Below w.heap.size w w' := by
  obtain ⟨i0, hi, hz0, hz1, hz2⟩ := infoRange
  by_cases h0 : n = 0
  · subst h0
    have hc := Any8.slices_Grow_room Try.growR none 0 0 0 w (Nat.le_refl _) (by omega) (by omega) (by omega)
    change Calls Try.prog 79 _ _ _ at hc
    refine hc.mono fun e w' ⟨he, hw⟩ => ?_
    subst hw
    exact ⟨_, he, World.ownsRow_nil _ _ _ _, Below.refl _ _⟩
  · have hc := Any8.slices_Grow_grow Try.growR i0 _ hi hz0 (by omega) none 0 0 n [] w (Nat.le_refl _) (by omega) (by rw [hz2]; omega) (by omega) (by simp) (fun _ => rfl) (fun a h => by cases h)
    change Calls Try.prog 79 _ _ _ at hc
    refine hc.mono fun e w' ⟨he, hw⟩ => ?_
    subst hw
    refine ⟨_, he, ?_, ((Below.refl _ _).drew.alloc (by simp) _)⟩
    have hge := grownCap_ge w (0 + n) 0 59
    have hle := grownCap_le_maxLen w (0 + n) 0 59 (by unfold maxLen; omega)
    refine ⟨rfl, .inr ⟨w.heap.size, _, _, rfl, Nat.le_refl _, heap_alloc_new w.drew _, by omega, hle, ?_, by simp⟩⟩
    have e2 : (Value.agg #[.int .i32 0, .int .i32 0]).cells.size = 2 := rfl
    obtain ⟨C, hC⟩ : ∃ C, C = grownCap w (0 + n) 0 59 := ⟨_, rfl⟩
    have hC2 : grownCap w (0 + n) 0 (Try.growR_ren.t 25) = C := hC.symm
    rw [← hC] at hge hle
    rw [hC2, Array.size_append, Array.size_append, size_zeroCells, size_zeroCells, e2]
    simp
    omega

set_option maxHeartbeats 1000000 in
set_option maxRecDepth 1000000 in
theorem concat_any (a b : List Pc) (va vb : Value) (g : Nat) (w : World) (ha : Row w va a.length (flatK .i32 a)) (hb : Row w vb b.length (flatK .i32 b)) (hna : a.length ≤ 1000000) (hnb : b.length ≤ 1000000)
    (h0 : w.cell? ⟨g, 0, none⟩ = some va) (h1 : w.cell? ⟨g, 1, none⟩ = some vb) :
    Calls Try.prog 59 #[.slice (some ⟨g, 0, none⟩) 2 2] w fun e w' => ∃ u, e = .returned u ∧ w'.ownsRow w.heap.size 59 2 u (a ++ b).length (flatK .i32 (a ++ b)) ∧ Below w.heap.size w w' := by
  obtain ⟨i0, hi, hz0, hz1, hz2⟩ := infoRange
  have hlt := World.block_lt_of_cell? w _ h0
  simp only at hlt
  have Ha := Lib.hid ha
  have Hb := Lib.hid hb
  obtain ⟨oa, ca, rfl⟩ := ha.form
  obtain ⟨ob, cb, rfl⟩ := hb.form
  clear ha hb
  go_enter Try.func59, Try.ntmps59
  go_wp2_with fail
  refine wp_loop_rounds 3 ?_
  rw [rounds_succ]
  go_wp2_with fail
  rw [rounds_succ]
  go_wp2_with fail
  rw [rounds_succ]
  go_wp2_with fail
  have hw0 : (a.length : Int) + b.length = ((a.length + b.length : Nat) : Int) := by omega
  rw [hw0]
  clear hw0
  obtain ⟨n, hn⟩ : ∃ n, n = a.length + b.length := ⟨_, rfl⟩
  rw [← hn]
  have Hn := Lib.hid hn
  have hn2 : n ≤ 10000000 := by omega
  clear hn
  refine (growR_any n _ hn2).mono ?_
  rintro e w1 ⟨v1, rfl, hown1, hb1⟩
  have h10 := h0
  have h11 := h1
  rw [← hb1.cell (p := ⟨g, 0, none⟩) hlt] at h10
  rw [← hb1.cell (p := ⟨g, 1, none⟩) hlt] at h11
  have Hw := Lib.hid (And.intro h0 h1)
  clear h0 h1
  go_wp2_with fail
  refine wp_loop_rounds 3 ?_
  rw [rounds_succ]
  go_wp2_with (at_builtin; refine wpList_append_row _ rfl _ _ 47 rfl w.heap.size 59 i0 (.agg #[.int .i32 0, .int .i32 0]) 2 8 Try.underlying47 hi hz0 hz1 hz2 rfl (by decide) _ _ _ rfl hown1 _ a.length (flatK .i32 a) rfl (Ha.out.below hb1) (flatK_len _ _) (flatK_one _ _) (by unfold maxLen; omega) (by omega) hb1.size ?_; intro v2 w2 hown2 hg2)
  have hb2 : Below w.heap.size w w2 := bel_grown hb1 hg2 (fun j hj => (hown1.lt j hj).1)
  rw [List.nil_append, Nat.zero_add] at hown2
  have h21 := Hw.out.2
  rw [← hb2.cell (p := ⟨g, 1, none⟩) hlt] at h21
  clear hown1 hg2 hb1 h10 h11
  rw [rounds_succ]
  go_wp2_with (at_builtin; refine wpList_append_row _ rfl _ _ 47 rfl w.heap.size 59 i0 (.agg #[.int .i32 0, .int .i32 0]) 2 8 Try.underlying47 hi hz0 hz1 hz2 rfl (by decide) _ _ _ rfl hown2 _ b.length (flatK .i32 b) rfl (Hb.out.below hb2) (flatK_len _ _) (flatK_one _ _) (by unfold maxLen; omega) (by omega) hb2.size ?_; intro v3 w3 hown3 hg3)
  have hb3 : Below w.heap.size w w3 := bel_grown hb2 hg3 (fun j hj => (hown2.lt j hj).1)
  rw [← flatK_append] at hown3
  have H3 := Lib.hid (And.intro hown3 hb3)
  clear hown2 hown3 hg3 hb2 hb3 h21
  rw [rounds_succ]
  go_wp2
  go_ret
  exact ⟨_, rfl, by rw [List.length_append]; exact H3.out.1, H3.out.2⟩

theorem or_any (a b : List Pc) (va vb : Value) (w : World) (ha : Row w va a.length (flatK .i32 a)) (hb : Row w vb b.length (flatK .i32 b)) (za : i32s a) (zb : i32s b) (hna : a.length ≤ 10000) (hnb : b.length ≤ 10000) :
    Calls Try.prog 35 #[va, vb] w fun e w' => ∃ u, e = .returned u ∧ w'.ownsRow w.heap.size 59 2 u (orF a b).length (flatK .i32 (orF a b)) ∧ Below w.heap.size w w' := by
  have Ha := Lib.hid ha
  have Hb := Lib.hid hb
  obtain ⟨oa, ca, rfl⟩ := ha.form
  obtain ⟨ob, cb, rfl⟩ := hb.form
  clear ha hb
  go_enter Try.func35, Try.ntmps35
  go_wp2_with fail
  refine (concat_any a b _ _ _ _ (Ha.out.below (bel_new (Below.refl _ _) _)) (Hb.out.below (bel_new (Below.refl _ _) _)) (by omega) (by omega) (by simp) (by simp)).mono ?_
  rintro e w1 ⟨u1, rfl, hown1, hb1⟩
  have hB1 : Below w.heap.size w w1 := bel_then (bel_new (Below.refl _ _) _) hb1
  have H1 := Lib.hid (And.intro hown1 hB1)
  clear hown1 hb1 hB1
  go_wp2_with fail
  refine (norm_any (a ++ b) _ _ (Row.owned H1.out.1) (i32_append za zb) (by rw [List.length_append]; omega)).mono ?_
  rintro e w2 ⟨u2, rfl, hown2, hb2⟩
  go_wp2
  go_ret
  exact ⟨_, rfl, owns_base hown2 H1.out.2.size, bel_then H1.out.2 hb2⟩

theorem and_any (a b : List Pc) (va vb : Value) (w : World) (ha : Row w va a.length (flatK .i32 a)) (hb : Row w vb b.length (flatK .i32 b)) (za : i32s a) (zb : i32s b) (hna : a.length ≤ 5000) (hnb : b.length ≤ 5000) :
    Calls Try.prog 37 #[va, vb] w fun e w' => ∃ u, e = .returned u ∧ w'.ownsRow w.heap.size 59 2 u (andF a b).length (flatK .i32 (andF a b)) ∧ Below w.heap.size w w' := by
  have l1 := nt_le a
  have l2 := nt_le b
  have l3 := nrm_le (nt a ++ nt b)
  rw [List.length_append] at l3
  go_enter Try.func37, Try.ntmps37
  go_wp2_with fail
  refine (not_any a va _ ha za (by omega)).mono ?_
  rintro e w1 ⟨u1, rfl, hown1, hb1⟩
  go_wp2_with fail
  refine (not_any b vb _ (hb.below hb1) zb (by omega)).mono ?_
  rintro e w2 ⟨u2, rfl, hown2, hb2⟩
  have hown12 := owns_below hown1 hb2
  go_wp2_with fail
  refine (or_any (nt a) (nt b) u1 u2 _ (Row.owned hown12) (Row.owned hown2) (i32_nt a) (i32_nt b) (by omega) (by omega)).mono ?_
  rintro e w3 ⟨u3, rfl, hown3, hb3⟩
  go_wp2_with fail
  refine (not_any (orF (nt a) (nt b)) u3 _ (Row.owned hown3) (i32_nrm _) (by unfold orF; omega)).mono ?_
  rintro e w4 ⟨u4, rfl, hown4, hb4⟩
  go_wp2
  go_ret
  exact ⟨_, rfl, owns_base hown4 (by have := hb1.size; have := hb2.size; have := hb3.size; omega), bel_then (bel_then (bel_then hb1 hb2) hb3) hb4⟩

/-! ### Count -/
theorem cnt_take (P : List Pc) (k : Nat) (h : k < P.length) : cnt (P.take (k + 1)) = cnt (P.take k) + ((P.getD k (0, 0)).2 - (P.getD k (0, 0)).1) := by
  have ha : ∀ (A : List Pc) (p : Pc), cnt (A ++ [p]) = cnt A + (p.2 - p.1) := by
    intro A p
    induction A with
    | nil => simp [cnt]
    | cons q A ih => simp only [List.cons_append, cnt, ih]; omega
  rw [take_one P (0, 0) k h, ha]
theorem cnt_bd (P : List Pc) (hok : ∀ q ∈ P, 0 ≤ q.1 ∧ q.1 < q.2 ∧ q.2 ≤ 1112064) : 0 ≤ cnt P ∧ cnt P ≤ 1112064 * P.length := by
  induction P with
  | nil => simp [cnt]
  | cons q P ih =>
    have h1 := hok q (by simp)
    have h2 := ih (fun r hr => hok r (by simp [hr]))
    simp only [cnt, List.length_cons]; omega
set_option maxHeartbeats 1000000 in
set_option maxRecDepth 1000000 in
theorem count_any (l : List Pc) (v : Value) (w : World) (hr : Row w v l.length (flatK .i32 l)) (hz : i32s l) (hn : l.length ≤ 100000) :
    Calls Try.prog 41 #[v] w fun e w' => e = .returned (.int .i64 (cntF l)) ∧ Below w.heap.size w w' := by
  have hle := pcs_le l
  have hok := ok_pcs l
  unfold cntF
  go_enter Try.func41, Try.ntmps41
  go_wp2_with fail
  refine (pieces_any l v _ hr hz hn).mono ?_
  rintro e w1 ⟨u1, rfl, hown1, hb1⟩
  obtain ⟨P, hP⟩ : ∃ P, P = pcs l := ⟨_, rfl⟩
  rw [← hP] at hle hok hown1
  have HR := Lib.hid (Row.owned hown1)
  obtain ⟨o1, c1, rfl⟩ := HR.out.form
  have Hok := Lib.hid hok
  have hPn : P.length ≤ 100000 := by omega
  have HP := Lib.hid hP
  clear hP hok hle hown1
  go_wp2_with fail
  go_loopw [3, 9] (fun n i wr => ∃ k : Nat, k ≤ P.length ∧ i = .int .i64 k ∧ n = .int .i64 (cnt (P.take k)) ∧ Below w1.heap.size w1 wr)
    (fun _ i _ => P.length - (intOf i).toNat)
  case atStart => exact ⟨0, Nat.zero_le _, rfl, rfl, Below.refl _ _⟩
  case round =>
    obtain ⟨k, hk, rfl, rfl, hbel⟩ := hrel
    have hcb := cnt_bd (P.take k) (fun q hq => Hok.out q (List.mem_of_mem_take hq))
    have hcl : (P.take k).length ≤ k := by rw [List.length_take]; omega
    by_cases hk2 : k < P.length
    · obtain ⟨b, off, cap', e, hlt⟩ := HR.out.head (by omega)
      simp only [Value.slice.injEq, true_and] at e
      obtain ⟨rfl, rfl⟩ := e
      obtain ⟨_, c1, c2⟩ := HR.out.pair hk2 rfl
      rw [← hbel.cell hlt] at c1 c2
      have hs := cnt_take P k hk2
      obtain ⟨q, hq⟩ : ∃ q, q = P.getD k (0, 0) := ⟨_, rfl⟩
      have hqb := Hok.out q (by rw [hq]; simp [List.getD, List.getElem?_eq_getElem hk2])
      rw [← hq] at c1 c2 hs
      obtain ⟨lo, hi'⟩ := q
      obtain ⟨N, hN⟩ : ∃ N, N = cnt (P.take k) := ⟨_, rfl⟩
      rw [← hN] at hs hcb ⊢
      simp only at c1 c2 hs hqb
      obtain ⟨q1, q2, q3⟩ := hqb
      obtain ⟨n1, n2⟩ := hcb
      have n3 : N ≤ 1112064 * 100000 := by omega
      have Hs := Lib.hid hs
      have HB := Lib.hid (And.intro hbel (And.intro hq hN))
      clear hs hq hN hbel n2
      go_wp2
      go_roundw
      case rel => exact ⟨k + 1, by omega, by go_num, by rw [Hs.out], bel_new HB.out.1 _⟩
      case measure => simp [intOf] <;> omega
    · have hkn : k = P.length := by omega
      subst hkn
      rw [List.take_length]
      go_wp2
      go_ret
      exact ⟨by rw [HP.out]; rfl, bel_then hb1 hbel⟩
end Go.Proofs.Ytjhfncmeiaogaaa
