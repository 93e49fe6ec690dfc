/- runes: RunesHave. -/
import Derived.Test.YtjhfncmeiaogaaaRuneLaw1
set_option linter.unusedVariables false
set_option linter.unusedSimpArgs false
namespace Go.Proofs.Ytjhfncmeiaogaaa
open Go.RowKit Ru

theorem u64_modR (a : Int) (m : Nat) (hm : 0 < m) (hm2 : m ≤ 1048576) : ∃ i : Nat, i < m ∧ (IntKind.u64.wrap a).tmod (m : Int) = (i : Int) := by
  have h0 : 0 ≤ IntKind.u64.wrap a := by unfold IntKind.wrap; simp [IntKind.bits, IntKind.signed]; omega
  have h1 := Int.tmod_nonneg (m : Int) h0
  have h2 := Int.tmod_lt_of_pos (IntKind.u64.wrap a) (show (0 : Int) < (m : Int) by omega)
  exact ⟨((IntKind.u64.wrap a).tmod (m : Int)).toNat, by omega, by omega⟩
theorem few_any (v : Value) (n : Nat) (cs : List Value) (w : World) (hr : Row w v n cs) : Calls Try.prog 26 #[v] w fun e w' => e = .returned (.bool (decide (n ≤ 30))) ∧ w = w' := by
  obtain ⟨o, c, rfl⟩ := hr.form
  clear hr
  by_cases h : n ≤ 30
  · go_enter Try.func26, Try.ntmps26
    go_wp2
    go_ret
    exact ⟨ret_bool (by simp; omega), rfl⟩
  · go_enter Try.func26, Try.ntmps26
    go_wp2
    go_ret
    exact ⟨ret_bool (by simp; omega), rfl⟩

set_option maxHeartbeats 10000000 in
set_option maxRecDepth 1000000 in
theorem runesHave_walk (a : List Pc) (va : Value) (b : List Pc) (vb : Value) (r0 near : Int) (w : World) (ha : Row w va a.length (flatK .i32 a)) (za : i32s a) (hb : Row w vb b.length (flatK .i32 b)) (zb : i32s b) (hr0 : -2147483648 ≤ r0 ∧ r0 ≤ 2147483647) (hnear : (Lit.int .i64 near).wf = true) :
    Calls Try.prog 11 #[va, vb, .int .i32 r0, .int .i64 near] w fun e w' => e = .returned (.bool true) ∧ Below w.heap.size w w' := by
  have Ha := Lib.hid ha
  have Hb := Lib.hid hb
  have HZ := Lib.hid (And.intro za zb)
  obtain ⟨oa, ca, rfl⟩ := ha.form
  obtain ⟨ob, cb, rfl⟩ := hb.form
  clear ha hb za zb hnear
  go_enter Try.func11, Try.ntmps11
  rcases Nat.lt_or_ge 30 a.length with hla | hla
  · have d1 : decide (a.length ≤ 30) = false := by simpa using hla
    go_wp2_with (first
      | (go_at_call_of 26 (Value.slice oa a.length ca); refine (few_any _ _ _ _ Ha.out).mono ?_; rintro e w' ⟨rfl, rfl⟩)
      | (go_at_call 27; refine (told5_any _).mono ?_; rintro e w2 ⟨rfl, hb⟩))
    go_ret
    exact ⟨rfl, hb⟩
  rcases Nat.lt_or_ge 30 b.length with hlb | hlb
  · have d1 : decide (a.length ≤ 30) = true := by simpa using hla
    have d2 : decide (b.length ≤ 30) = false := by simpa using hlb
    go_wp2_with (first
      | (go_at_call_of 26 (Value.slice oa a.length ca); refine (few_any _ _ _ _ Ha.out).mono ?_; rintro e w' ⟨rfl, rfl⟩)
      | (go_at_call 26; refine (few_any _ _ _ _ Hb.out).mono ?_; rintro e w' ⟨rfl, rfl⟩)
      | (go_at_call 27; refine (told5_any _).mono ?_; rintro e w2 ⟨rfl, hb⟩))
    go_ret
    exact ⟨rfl, hb⟩
  have d1 : decide (a.length ≤ 30) = true := by simpa using hla
  have d2 : decide (b.length ≤ 30) = true := by simpa using hlb
  go_upto_region 3 with (first
      | (go_at_call_of 26 (Value.slice oa a.length ca); refine (few_any _ _ _ _ Ha.out).mono ?_; rintro e w' ⟨rfl, rfl⟩)
      | (go_at_call 26; refine (few_any _ _ _ _ Hb.out).mono ?_; rintro e w' ⟨rfl, rfl⟩))
  go_cut [28] (fun s28 wx => ∃ t : Bool, s28 = .bool t ∧ (t = true → 0 < a.length) ∧ w = wx)
  case first =>
    by_cases h0 : 0 < a.length
    · go_wp2_with fail
      go_meet
      exact ⟨_, rfl, fun _ => h0, rfl⟩
    · go_wp2_with fail
      go_meet
      exact ⟨_, rfl, fun h => by simp at h, rfl⟩
  case rest =>
    obtain ⟨t, rfl, ht, rfl⟩ := hcut
    go_upto_if 28 with (fail)
    go_cut [2] (fun s2 wx => ∃ r : Int, s2 = .int .i32 r ∧ (-2147483648 ≤ r ∧ r ≤ 2147483647) ∧ w = wx)
    case first =>
      cases t with
      | false =>
        go_wp2_with fail
        go_meet
        exact ⟨_, rfl, hr0, rfl⟩
      | true =>
        have ht' := ht rfl
        obtain ⟨k, hk, ek⟩ := u64_modR near a.length ht' (by omega)
        obtain ⟨g, off, cap', e, hlt⟩ := Ha.out.head (by omega)
        simp only [Value.slice.injEq, true_and] at e
        obtain ⟨rfl, rfl⟩ := e
        obtain ⟨_, _, c2⟩ := Ha.out.pair (i := k) hk rfl
        obtain ⟨q, hq⟩ : ∃ q, q = a.getD k (0, 0) := ⟨_, rfl⟩
        have hqb := (HZ.out.1 q (by rw [hq]; simp [List.getD, List.getElem?_eq_getElem hk])).2
        rw [← hq] at c2
        obtain ⟨lo, hi'⟩ := q
        simp only at c2 hqb
        have Hq := Lib.hid (And.intro hq hqb)
        obtain ⟨q1, q2⟩ := hqb
        have hk0 : (0 : Int) ≤ (k : Int) := by omega
        have hk1 : (k : Int) < (a.length : Int) := by omega
        clear hq ht ht' d1 d2
        by_cases hmx : hi' < 1114111
        · go_wp2_with fail
          all_goals (go_meet; exact ⟨_, rfl, by omega, rfl⟩)
        · go_wp2_with fail
          all_goals (go_meet; exact ⟨_, rfl, by omega, rfl⟩)
    case rest =>
      obtain ⟨r, rfl, hr, rfl⟩ := hcut
      obtain ⟨X, hX⟩ : ∃ X, X = has a r := ⟨_, rfl⟩
      obtain ⟨Y, hY⟩ : ∃ Y, Y = has b r := ⟨_, rfl⟩
      have HXY := Lib.hid (And.intro hX hY)
      clear hX hY d1 d2 hr0
      go_upto_region 8 with (first
        | (go_at_call_of 33 (Value.slice oa a.length ca); refine (has_any a r _ _ (Ha.out.below (by repeat (first | exact Below.refl _ _ | assumption | (refine Below.drew ?_) | (refine below_drewN ?_ _) | (refine bel_new ?_ _) | (refine bel_then ?_ (by assumption))))) (by omega)).mono ?_; rintro e w1 ⟨rfl, hb⟩; have hB : Below w.heap.size w w1 := bel_then (by repeat (first | exact Below.refl _ _ | assumption | (refine Below.drew ?_) | (refine below_drewN ?_ _) | (refine bel_new ?_ _) | (refine bel_then ?_ (by assumption)))) hb; rw [← HXY.out.1])
        | (go_at_call 33; refine (has_any b r _ _ (Hb.out.below (by repeat (first | exact Below.refl _ _ | assumption | (refine Below.drew ?_) | (refine below_drewN ?_ _) | (refine bel_new ?_ _) | (refine bel_then ?_ (by assumption))))) (by omega)).mono ?_; rintro e w1 ⟨rfl, hb⟩; have hB : Below w.heap.size w w1 := bel_then (by repeat (first | exact Below.refl _ _ | assumption | (refine Below.drew ?_) | (refine below_drewN ?_ _) | (refine bel_new ?_ _) | (refine bel_then ?_ (by assumption)))) hb; rw [← HXY.out.2]))
      go_cut [11] (fun s11 wx => s11 = .bool (scal r) ∧ w1 = wx)
      case first =>
        by_cases h1 : 0 ≤ r
        · by_cases h2 : r ≤ 1114111
          · by_cases h3 : r < 55296
            · go_wp2_with fail
              go_meet
              exact ⟨by rw [← scal_t (r := r) (by omega)], rfl⟩
            · by_cases h4 : 57343 < r
              · go_wp2_with fail
                go_meet
                exact ⟨by rw [← scal_t (r := r) (by omega)], rfl⟩
              · go_wp2_with fail
                go_meet
                exact ⟨by rw [← scal_f (r := r) (by omega)], rfl⟩
          · go_wp2_with fail
            go_meet
            exact ⟨by rw [← scal_f (r := r) (by omega)], rfl⟩
        · go_wp2_with fail
          go_meet
          exact ⟨by rw [← scal_f (r := r) (by omega)], rfl⟩
      case rest =>
        obtain ⟨rfl, rfl⟩ := hcut
        have l1 := nrm_le a
        have l2 := nrm_le (a ++ b)
        rw [List.length_append] at l2
        have l3 := nt_le (orF (nt a) (nt b))
        have l4 := nt_le a
        have l5 := nt_le b
        have l6 := nrm_le (nt a ++ nt b)
        rw [List.length_append] at l6
        have p1 := has_nrm a r
        have p2 := has_or a b r
        have p3 := has_and a b r
        have p4 := has_nt a r
        rw [← HXY.out.1] at p1 p2 p3 p4
        rw [← HXY.out.2] at p2 p3
        obtain ⟨N1, hN1⟩ : ∃ N, N = nrm a := ⟨_, rfl⟩
        obtain ⟨N2, hN2⟩ : ∃ N, N = orF a b := ⟨_, rfl⟩
        obtain ⟨N3, hN3⟩ : ∃ N, N = andF a b := ⟨_, rfl⟩
        obtain ⟨N4, hN4⟩ : ∃ N, N = nt a := ⟨_, rfl⟩
        have m1 : N1.length ≤ 1000 := by rw [hN1]; omega
        have m2 : N2.length ≤ 1000 := by rw [hN2]; unfold orF; omega
        have m3 : N3.length ≤ 1000 := by rw [hN3]; unfold andF orF at *; omega
        have m4 : N4.length ≤ 1000 := by rw [hN4]; omega
        rw [← hN1] at p1
        rw [← hN2] at p2
        rw [← hN3] at p3
        rw [← hN4] at p4
        obtain ⟨S, hS⟩ : ∃ S, S = scal r := ⟨_, rfl⟩
        rw [← hS] at p4 ⊢
        have HN := Lib.hid (And.intro hN1 (And.intro hN2 (And.intro hN3 hN4)))
        have HP := Lib.hid (And.intro p1 (And.intro p2 (And.intro p3 p4)))
        have HB := Lib.hid hB
        clear l1 l2 l3 l4 l5 l6 p1 p2 p3 p4 hN1 hN2 hN3 hN4 hS hB hb
        cases X <;> cases Y <;> cases S
        all_goals (
          go_wp2_with (first
            | (go_at_call 27; refine (told5_any _).mono ?_; rintro e w2 ⟨rfl, hb⟩; have hB : Below w1.heap.size w1 w2 := bel_then (by repeat (first | exact Below.refl _ _ | assumption | (refine Below.drew ?_) | (refine below_drewN ?_ _) | (refine bel_new ?_ _) | (refine bel_then ?_ (by assumption)))) hb; clear hb)
            | (go_at_call 31; refine (norm_any a _ _ (Ha.out.below (bel_then HB.out (by repeat (first | exact Below.refl _ _ | assumption | (refine Below.drew ?_) | (refine below_drewN ?_ _) | (refine bel_new ?_ _) | (refine bel_then ?_ (by assumption)))))) HZ.out.1 (by omega)).mono ?_; rintro e w2 ⟨u2, rfl, hown, hb⟩; rw [← HN.out.1] at hown; obtain ⟨o2, c2, rfl⟩ := owns_slice hown; have hB : Below w1.heap.size w1 w2 := bel_then (by repeat (first | exact Below.refl _ _ | assumption | (refine Below.drew ?_) | (refine below_drewN ?_ _) | (refine bel_new ?_ _) | (refine bel_then ?_ (by assumption)))) hb; clear hb)
            | (go_at_call 35; refine (or_any a b _ _ _ (Ha.out.below (bel_then HB.out (by repeat (first | exact Below.refl _ _ | assumption | (refine Below.drew ?_) | (refine below_drewN ?_ _) | (refine bel_new ?_ _) | (refine bel_then ?_ (by assumption)))))) (Hb.out.below (bel_then HB.out (by repeat (first | exact Below.refl _ _ | assumption | (refine Below.drew ?_) | (refine below_drewN ?_ _) | (refine bel_new ?_ _) | (refine bel_then ?_ (by assumption)))))) HZ.out.1 HZ.out.2 (by omega) (by omega)).mono ?_; rintro e w2 ⟨u2, rfl, hown, hb⟩; rw [← HN.out.2.1] at hown; obtain ⟨o2, c2, rfl⟩ := owns_slice hown; have hB : Below w1.heap.size w1 w2 := bel_then (by repeat (first | exact Below.refl _ _ | assumption | (refine Below.drew ?_) | (refine below_drewN ?_ _) | (refine bel_new ?_ _) | (refine bel_then ?_ (by assumption)))) hb; clear hb)
            | (go_at_call 37; refine (and_any a b _ _ _ (Ha.out.below (bel_then HB.out (by repeat (first | exact Below.refl _ _ | assumption | (refine Below.drew ?_) | (refine below_drewN ?_ _) | (refine bel_new ?_ _) | (refine bel_then ?_ (by assumption)))))) (Hb.out.below (bel_then HB.out (by repeat (first | exact Below.refl _ _ | assumption | (refine Below.drew ?_) | (refine below_drewN ?_ _) | (refine bel_new ?_ _) | (refine bel_then ?_ (by assumption)))))) HZ.out.1 HZ.out.2 (by omega) (by omega)).mono ?_; rintro e w2 ⟨u2, rfl, hown, hb⟩; rw [← HN.out.2.2.1] at hown; obtain ⟨o2, c2, rfl⟩ := owns_slice hown; have hB : Below w1.heap.size w1 w2 := bel_then (by repeat (first | exact Below.refl _ _ | assumption | (refine Below.drew ?_) | (refine below_drewN ?_ _) | (refine bel_new ?_ _) | (refine bel_then ?_ (by assumption)))) hb; clear hb)
            | (go_at_call 39; refine (not_any a _ _ (Ha.out.below (bel_then HB.out (by repeat (first | exact Below.refl _ _ | assumption | (refine Below.drew ?_) | (refine below_drewN ?_ _) | (refine bel_new ?_ _) | (refine bel_then ?_ (by assumption)))))) HZ.out.1 (by omega)).mono ?_; rintro e w2 ⟨u2, rfl, hown, hb⟩; rw [← HN.out.2.2.2] at hown; obtain ⟨o2, c2, rfl⟩ := owns_slice hown; have hB : Below w1.heap.size w1 w2 := bel_then (by repeat (first | exact Below.refl _ _ | assumption | (refine Below.drew ?_) | (refine below_drewN ?_ _) | (refine bel_new ?_ _) | (refine bel_then ?_ (by assumption)))) hb; clear hb)
            | (go_at_call 33; refine (has_any _ r _ _ (Row.owned (by assumption)) (by omega)).mono ?_; rintro e w2 ⟨rfl, hb⟩; (first | rw [HP.out.1] | rw [HP.out.2.1] | rw [HP.out.2.2.1] | rw [HP.out.2.2.2]); have hB : Below w1.heap.size w1 w2 := bel_then (by repeat (first | exact Below.refl _ _ | assumption | (refine Below.drew ?_) | (refine below_drewN ?_ _) | (refine bel_new ?_ _) | (refine bel_then ?_ (by assumption)))) hb; clear hb hown))
          go_ret
          exact ⟨rfl, bel_then HB.out hB⟩)
end Go.Proofs.Ytjhfncmeiaogaaa
