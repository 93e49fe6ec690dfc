/- runes, the reference: Scalar, Has, May, Count. -/
import Derived.Test.YtjhfncmeiaogaaaRefRune4
import Derived.Test.YtjhfncmeiaogaaaRuneMath5
set_option linter.unusedVariables false
set_option linter.unusedSimpArgs false
namespace Go.Proofs.Ytjhfncmeiaogaaa
open Go.RowKit Ru

theorem refScalar_any (r : Int) (w : World) : Calls Try.prog 50 #[.int .i32 r] w fun e w' => e = .returned (.bool (scal r)) ∧ w = w' := by
  go_enter Try.func50, Try.ntmps50
  by_cases h1 : 0 ≤ r
  · by_cases h2 : r ≤ 1114111
    · by_cases h3 : r < 55296
      · go_wp2
        go_ret
        exact ⟨ret_bool (by first | exact scal_t (by omega) | exact scal_f (by omega)), rfl⟩
      · by_cases h4 : 57343 < r
        · go_wp2
          go_ret
          exact ⟨ret_bool (by first | exact scal_t (by omega) | exact scal_f (by omega)), rfl⟩
        · go_wp2
          go_ret
          exact ⟨ret_bool (by first | exact scal_t (by omega) | exact scal_f (by omega)), rfl⟩
    · go_wp2
      go_ret
      exact ⟨ret_bool (by first | exact scal_t (by omega) | exact scal_f (by omega)), rfl⟩
  · go_wp2
    go_ret
    exact ⟨ret_bool (by first | exact scal_t (by omega) | exact scal_f (by omega)), rfl⟩

set_option maxHeartbeats 1000000 in
theorem refMay_any (a : List Pc) (va : Value) (w : World) (ha : Row w va a.length (flatK .i32 a)) (za : i32s a) (na : a.length ≤ 5000) :
    Calls Try.prog 29 #[va] w fun e w' => e = .returned (.bool (mayB a)) ∧ Below w.heap.size w w' := by
  have hl := nrm_le a
  rw [may_eq]
  go_enter Try.func29, Try.ntmps29
  go_wp2_with (first
    | (go_at_call 32; refine (refNorm_any a va _ ha za na).mono ?_; rintro e w1 ⟨u1, rfl, hown1, hb1⟩)
    | (go_at_call 30; refine (refSame_any a (nrm a) _ _ _ (ha.below hb1) (Row.owned hown1) (by omega) (by omega)).mono ?_; rintro e w2 ⟨rfl, hb2⟩))
  go_ret
  exact ⟨rfl, bel_then hb1 hb2⟩

set_option maxHeartbeats 1000000 in
set_option maxRecDepth 1000000 in
theorem refHas_any (l : List Pc) (r : Int) (v : Value) (w : World) (hr : Row w v l.length (flatK .i32 l)) (hn : l.length ≤ 1000000) :
    Calls Try.prog 34 #[v, .int .i32 r] w fun e w' => e = .returned (.bool (has l r)) ∧ w' = w := by
  have Hr := Lib.hid hr
  obtain ⟨o, cap, rfl, hcap, hmax, _⟩ := hr
  obtain ⟨s, hs⟩ : ∃ s, s = scal r := ⟨_, rfl⟩
  have hh : has l r = (s && l.any fun x => decide (x.1 ≤ r) && decide (r ≤ x.2)) := by unfold has; rw [hs]
  rw [hh]
  clear hh
  go_enter Try.func34, Try.ntmps34
  cases s with
  | false =>
    have hs' : scal r = false := hs.symm
    clear hs
    go_wp2_with (go_at_call 50; refine (refScalar_any r _).mono ?_; rintro e w' ⟨rfl, rfl⟩)
    go_ret
    exact ⟨rfl, rfl⟩
  | true =>
    have hs' : scal r = true := hs.symm
    clear hs
    go_wp2_with (go_at_call 50; refine (refScalar_any r _).mono ?_; rintro e w' ⟨rfl, rfl⟩)
    go_loopw [5] (fun i wr => ∃ k : Nat, k ≤ l.length ∧ i = .int .i64 k ∧ wr = w ∧ ((l.take k).any fun x => decide (x.1 ≤ r) && decide (r ≤ x.2)) = false)
      (fun i _ => l.length - (intOf i).toNat)
    case atStart => exact ⟨0, Nat.zero_le _, rfl, rfl, rfl⟩
    case round =>
      obtain ⟨k, hk, rfl, rfl, hno⟩ := hrel
      by_cases hk2 : k < l.length
      · obtain ⟨b, off, cap', e, hlt⟩ := Hr.out.head (by omega)
        simp only [Value.slice.injEq, true_and] at e
        obtain ⟨rfl, rfl⟩ := e
        obtain ⟨_, c1, c2⟩ := Hr.out.pair hk2 rfl
        have ht := take_one l (0, 0) k hk2
        obtain ⟨q, hq⟩ : ∃ q, q = l.getD k (0, 0) := ⟨_, rfl⟩
        rw [← hq] at c1 c2 ht
        have hm : q ∈ l := by rw [hq]; simp [List.getD, List.getElem?_eq_getElem hk2]
        obtain ⟨a, c⟩ := q
        simp only at c1 c2
        have Hs := Lib.hid (And.intro ht (And.intro hno hm))
        clear ht hq hno hm
        by_cases h1 : a ≤ r
        · by_cases h2 : r ≤ c
          · go_wp2
            go_ret
            have h3 : (l.any fun x => decide (x.1 ≤ r) && decide (r ≤ x.2)) = true := List.any_eq_true.2 ⟨_, Hs.out.2.2, by simp [h1, h2]⟩
            exact ⟨by rw [h3]; rfl, by first | rfl | trivial⟩
          · go_wp2
            go_roundw
            case rel => exact ⟨k + 1, by omega, by go_num, by first | rfl | trivial, by rw [Hs.out.1]; have := Hs.out.2.1; simp only [List.any_append, List.any_cons, List.any_nil] at this ⊢; rw [this]; simp [h2]⟩
            case measure => simp [intOf] <;> omega
        · go_wp2
          go_roundw
          case rel => exact ⟨k + 1, by omega, by go_num, by first | rfl | trivial, by rw [Hs.out.1]; have := Hs.out.2.1; simp only [List.any_append, List.any_cons, List.any_nil] at this ⊢; rw [this]; simp [h1]⟩
          case measure => simp [intOf] <;> omega
      · have hkn : k = l.length := by omega
        subst hkn
        rw [List.take_length] at hno
        go_wp2
        go_ret
        exact ⟨by rw [hno]; rfl, rfl⟩

namespace Ru
theorem raw_nrm (l : List Pc) : raw (nrm l) = pcs l := by
  unfold raw nrm
  rw [map_pcOf_ok (ok_pcs l)]
  exact List.filter_eq_self.2 fun q hq => by simpa using (ok_pcs l q hq).2.1
end Ru
set_option maxHeartbeats 1000000 in
set_option maxRecDepth 1000000 in
theorem refCount_any (l : List Pc) (v : Value) (w : World) (hr : Row w v l.length (flatK .i32 l)) (hz : i32s l) (hn : l.length ≤ 5000) :
    Calls Try.prog 42 #[v] w fun e w' => e = .returned (.int .i64 (cntF l)) ∧ Below w.heap.size w w' := by
  have hle := pcs_le l
  have hnl := nrm_le l
  have hok := ok_pcs l
  unfold cntF
  go_enter Try.func42, Try.ntmps42
  go_wp2_with (first
    | (go_at_call 56; refine (refCells_any (nrm l) _ _ (Row.owned hown0) (i32_nrm l) (by omega)).mono ?_; rintro e w1 ⟨u1, rfl, hown1, hb1⟩)
    | (go_at_call 32; refine (refNorm_any l v _ hr hz hn).mono ?_; rintro e w0 ⟨u0, rfl, hown0, hb0⟩))
  rw [raw_nrm] at hown1
  have hB1 := bel_then hb0 hb1
  obtain ⟨P, hP⟩ : ∃ P, P = pcs l := ⟨_, rfl⟩
  rw [← hP] at hle hok hown1
  have HR := Lib.hid (Row.owned hown1)
  obtain ⟨o1, c1, rfl⟩ := HR.out.form
  have Hok := Lib.hid hok
  have hPn : P.length ≤ 100000 := by omega
  have HP := Lib.hid hP
  clear hP hok hle hown1 hown0 hb0 hb1
  go_wp2_with fail
  go_loopw [4, 5] (fun n i wr => ∃ k : Nat, k ≤ P.length ∧ i = .int .i64 k ∧ n = .int .i64 (cnt (P.take k)) ∧ Below w1.heap.size w1 wr)
    (fun _ i _ => P.length - (intOf i).toNat)
  case atStart => exact ⟨0, Nat.zero_le _, rfl, rfl, Below.refl _ _⟩
  case round =>
    obtain ⟨k, hk, rfl, rfl, hbel⟩ := hrel
    have hcb := cnt_bd (P.take k) (fun q hq => Hok.out q (List.mem_of_mem_take hq))
    have hcl : (P.take k).length ≤ k := by rw [List.length_take]; omega
    by_cases hk2 : k < P.length
    · obtain ⟨b, off, cap', e, hlt⟩ := HR.out.head (by omega)
      simp only [Value.slice.injEq, true_and] at e
      obtain ⟨rfl, rfl⟩ := e
      obtain ⟨_, c1, c2⟩ := HR.out.pair hk2 rfl
      rw [← hbel.cell hlt] at c1 c2
      have hs := cnt_take P k hk2
      obtain ⟨q, hq⟩ : ∃ q, q = P.getD k (0, 0) := ⟨_, rfl⟩
      have hqb := Hok.out q (by rw [hq]; simp [List.getD, List.getElem?_eq_getElem hk2])
      rw [← hq] at c1 c2 hs
      obtain ⟨lo, hi'⟩ := q
      obtain ⟨N, hN⟩ : ∃ N, N = cnt (P.take k) := ⟨_, rfl⟩
      rw [← hN] at hs hcb ⊢
      simp only at c1 c2 hs hqb
      obtain ⟨q1, q2, q3⟩ := hqb
      obtain ⟨n1, n2⟩ := hcb
      have n3 : N ≤ 1112064 * 100000 := by omega
      have w1' : IntKind.i64.wrap (N + hi') = N + hi' := iwrap (by omega)
      have w2' : IntKind.i64.wrap (N + hi' - lo) = N + hi' - lo := iwrap (by omega)
      have Hs := Lib.hid (show cnt (P.take (k + 1)) = N + hi' - lo by omega)
      have HB := Lib.hid (And.intro hbel (And.intro hq hN))
      clear hs hq hN hbel n2
      go_wp2_with fail
      go_quiet (fail)
      go_wp2_with fail
      go_roundw
      case rel => exact ⟨k + 1, by omega, by go_num, by rw [Hs.out], below_drewN HB.out.1 _⟩
      case measure => simp [intOf] <;> omega
    · have hkn : k = P.length := by omega
      subst hkn
      rw [List.take_length]
      go_wp2
      go_ret
      exact ⟨by rw [HP.out]; rfl, bel_then hB1 hbel⟩
end Go.Proofs.Ytjhfncmeiaogaaa
