/- runes: RunesOnes. -/
import Derived.Test.YtjhfncmeiaogaaaRuneTold
import Derived.Deep.DeepCutAuto
set_option linter.unusedVariables false
set_option linter.unusedSimpArgs false
namespace Go.Proofs.Ytjhfncmeiaogaaa
open Go.RowKit Ru

namespace Ru
theorem one_raw {r : Int} (h : scal r = true) : raw [(r, r)] = [(plc r, plc r + 1)] := by
  have e : pcOf (r, r) = (plc r, plc r + 1) := by unfold pcOf; rw [if_pos h]
  simp [raw, e]; omega
theorem none_raw {r : Int} (h : scal r = false) : raw [(r, r)] = [] := by
  have e : pcOf (r, r) = (plc r, plc r) := by unfold pcOf; rw [if_neg (by simp [h])]
  simp [raw, e]
theorem one_pcs {r : Int} (h : scal r = true) : pcs [(r, r)] = [(plc r, plc r + 1)] := by
  unfold pcs; rw [one_raw h]; rfl
theorem none_pcs {r : Int} (h : scal r = false) : pcs [(r, r)] = [] := by
  unfold pcs; rw [none_raw h]; rfl
theorem one_cnt {r : Int} (h : scal r = true) : cntF [(r, r)] = 1 := by
  unfold cntF; rw [one_pcs h]; simp only [cnt]; omega
theorem none_cnt {r : Int} (h : scal r = false) : cntF [(r, r)] = 0 := by
  unfold cntF; rw [none_pcs h]; rfl
theorem one_may {r : Int} (h : scal r = true) : mayB [(r, r)] = true := by
  simp [mayB, okR, h]
theorem none_may {r : Int} (h : scal r = false) : mayB [(r, r)] = false := by
  simp [mayB, okR, h]
theorem none_nrm {r : Int} (h : scal r = false) : nrm [(r, r)] = [] := by
  unfold nrm; rw [none_pcs h]; rfl
theorem one_ntc {r : Int} (h : scal r = true) : cntF (nt [(r, r)]) = 1112063 := by
  have := cntF_not [(r, r)]
  rw [cntF_nrm, one_cnt h] at this; omega
theorem none_ntc {r : Int} (h : scal r = false) : cntF (nt [(r, r)]) = 1112064 := by
  have := cntF_not [(r, r)]
  rw [cntF_nrm, none_cnt h] at this; omega
theorem one_has {r o : Int} (h : scal r = true) : has [(r, r)] o = decide (o = r) := by
  unfold has
  by_cases e : o = r
  · subst e; simp [h]
  · have : ¬ (r ≤ o ∧ o ≤ r) := by omega
    simp [e]
    intro h1 h2; omega
theorem one_hasr {r : Int} (h : scal r = true) : has (nt [(r, r)]) r = false := by
  rw [has_nt, one_has h]; simp
theorem one_haso {r o : Int} (h : scal r = true) : has (nt [(r, r)]) o = (scal o && !decide (o = r)) := by
  rw [has_nt, one_has h]
end Ru

theorem i32_of_wf {n : Int} (h : (Lit.int .i32 n).wf = true) : -2147483648 ≤ n ∧ n ≤ 2147483647 := by
  simpa [Lit.wf, IntKind.min, IntKind.max, IntKind.bits, IntKind.signed] using h
theorem i32s_of_wf {l : List (Int × Int)} (h : ∀ p ∈ l, (Lit.int .i32 p.1).wf = true ∧ (Lit.int .i32 p.2).wf = true) : i32s l := fun p hp => ⟨i32_of_wf (h p hp).1, i32_of_wf (h p hp).2⟩
set_option maxHeartbeats 4000000 in
set_option maxRecDepth 1000000 in
theorem runesOnes_walk (r o : Int) (hr : -2147483648 ≤ r ∧ r ≤ 2147483647) (ho : -2147483648 ≤ o ∧ o ≤ 2147483647) (w : World) :
    Calls Try.prog 14 #[.int .i32 r, .int .i32 o] w fun e w' => e = .returned (.bool true) ∧ Below w.heap.size w w' := by
  have ra : Row (w.alloc (.cells #[.int .i32 r, .int .i32 r] 59)) (.slice (some ⟨w.heap.size, 0, none⟩) 1 1) 1 (flatK .i32 [(r, r)]) := Row.litC w 59 .i32 [(r, r)] _ 1 _ rfl rfl rfl (by decide)
  have hB0 : Below w.heap.size w (w.alloc (.cells #[.int .i32 r, .int .i32 r] 59)) := bel_new (Below.refl _ _) _
  have H0 := Lib.hid (And.intro ra hB0)
  have Hz := Lib.hid (show i32s [(r, r)] by intro p hp; simp at hp; subst hp; exact ⟨hr, hr⟩)
  clear ra hB0
  go_enter Try.func14, Try.ntmps14
  go_upto_region 2 with (fail)
  go_cut [6] (fun s6 wx => s6 = .bool (scal r) ∧ wx = w.alloc (.cells #[.int .i32 r, .int .i32 r] 59))
  case first =>
    by_cases h1 : 0 ≤ r
    · by_cases h2 : r ≤ 1114111
      · by_cases h3 : r < 55296
        · go_wp2_with fail
          go_meet
          exact ⟨by rw [← scal_t (r := r) (by omega)], rfl⟩
        · by_cases h4 : 57343 < r
          · go_wp2_with fail
            go_meet
            exact ⟨by rw [← scal_t (r := r) (by omega)], rfl⟩
          · go_wp2_with fail
            go_meet
            exact ⟨by rw [← scal_f (r := r) (by omega)], rfl⟩
      · go_wp2_with fail
        go_meet
        exact ⟨by rw [← scal_f (r := r) (by omega)], rfl⟩
    · go_wp2_with fail
      go_meet
      exact ⟨by rw [← scal_f (r := r) (by omega)], rfl⟩
  case rest =>
    obtain ⟨rfl, rfl⟩ := hcut
    go_wp2_with fail
    refine (not_any [(r, r)] _ _ H0.out.1 Hz.out (by simp)).mono ?_
    rintro e w1 ⟨u1, rfl, hown1, hb1⟩
    have hn := nt_le [(r, r)]
    obtain ⟨N, hN⟩ : ∃ N, N = nt [(r, r)] := ⟨_, rfl⟩
    have zN : i32s N := by rw [hN]; exact i32_nt _
    rw [← hN] at hown1 hn
    have hn2 : N.length ≤ 2 := hn
    obtain ⟨on, cn, rfl⟩ := (Row.owned hown1).form
    have H1 := Lib.hid (And.intro (H0.out.1.below hb1) (And.intro (Row.owned hown1) (And.intro (bel_then H0.out.2 hb1) (And.intro zN hN))))
    clear hown1 hb1 hn zN hN
    by_cases hs : scal r = true
    · have q1 := one_cnt hs
      have q2 := one_may hs
      have q3 := one_has (o := o) hs
      have q4 := one_hasr hs
      have q5 := one_haso (o := o) hs
      have q6 := one_ntc hs
      rw [← H1.out.2.2.2.2] at q4 q5 q6
      have HQ := Lib.hid (And.intro q1 (And.intro q2 (And.intro q3 (And.intro q4 (And.intro q5 q6)))))
      clear q1 q2 q3 q4 q5 q6
      go_upto_region 6 with (fail)
      go_cut [8] (fun s8 wx => s8 = .bool (scal o) ∧ w1 = wx)
      case first =>
        by_cases h1 : 0 ≤ o
        · by_cases h2 : o ≤ 1114111
          · by_cases h3 : o < 55296
            · go_wp2_with fail
              go_meet
              exact ⟨by rw [← scal_t (r := o) (by omega)], rfl⟩
            · by_cases h4 : 57343 < o
              · go_wp2_with fail
                go_meet
                exact ⟨by rw [← scal_t (r := o) (by omega)], rfl⟩
              · go_wp2_with fail
                go_meet
                exact ⟨by rw [← scal_f (r := o) (by omega)], rfl⟩
          · go_wp2_with fail
            go_meet
            exact ⟨by rw [← scal_f (r := o) (by omega)], rfl⟩
        · go_wp2_with fail
          go_meet
          exact ⟨by rw [← scal_f (r := o) (by omega)], rfl⟩
      case rest =>
        obtain ⟨rfl, rfl⟩ := hcut
        by_cases hso : scal o = true
        · by_cases hor : o = r
          · have d1 : decide (o = r) = true := by simp [hor]
            have HO := Lib.hid hor
            clear hor
            go_wp2_with (first
                | (go_at_call 27; refine (told5_any _).mono ?_; rintro e w2 ⟨rfl, hb⟩; have hB : Below w1.heap.size w1 w2 := bel_then (by repeat (first | exact Below.refl _ _ | assumption | (refine Below.drew ?_) | (refine below_drewN ?_ _) | (refine bel_new ?_ _) | (refine bel_then ?_ (by assumption)))) hb)
                | (go_at_call 28; refine (mayR_any [(r, r)] _ _ (H1.out.1.below (by repeat (first | exact Below.refl _ _ | assumption | (refine Below.drew ?_) | (refine below_drewN ?_ _) | (refine bel_new ?_ _) | (refine bel_then ?_ (by assumption))))) Hz.out (by simp)).mono ?_; rintro e w2 ⟨rfl, hb⟩; have hB : Below w1.heap.size w1 w2 := bel_then (by repeat (first | exact Below.refl _ _ | assumption | (refine Below.drew ?_) | (refine below_drewN ?_ _) | (refine bel_new ?_ _) | (refine bel_then ?_ (by assumption)))) hb; rw [HQ.out.2.1])
                | (go_at_call_of 41 (Value.slice (some ⟨w.heap.size, 0, none⟩) 1 1); refine (count_any [(r, r)] _ _ (H1.out.1.below (by repeat (first | exact Below.refl _ _ | assumption | (refine Below.drew ?_) | (refine below_drewN ?_ _) | (refine bel_new ?_ _) | (refine bel_then ?_ (by assumption))))) Hz.out (by simp)).mono ?_; rintro e w2 ⟨rfl, hb⟩; have hB : Below w1.heap.size w1 w2 := bel_then (by repeat (first | exact Below.refl _ _ | assumption | (refine Below.drew ?_) | (refine below_drewN ?_ _) | (refine bel_new ?_ _) | (refine bel_then ?_ (by assumption)))) hb; rw [HQ.out.1])
                | (go_at_call 41; refine (count_any N _ _ (H1.out.2.1.below (by repeat (first | exact Below.refl _ _ | assumption | (refine Below.drew ?_) | (refine below_drewN ?_ _) | (refine bel_new ?_ _) | (refine bel_then ?_ (by assumption))))) H1.out.2.2.2.1 (by omega)).mono ?_; rintro e w2 ⟨rfl, hb⟩; have hB : Below w1.heap.size w1 w2 := bel_then (by repeat (first | exact Below.refl _ _ | assumption | (refine Below.drew ?_) | (refine below_drewN ?_ _) | (refine bel_new ?_ _) | (refine bel_then ?_ (by assumption)))) hb; rw [HQ.out.2.2.2.2.2])
                | (go_at_call_of 33 (Value.slice (some ⟨w.heap.size, 0, none⟩) 1 1); refine (has_any [(r, r)] o _ _ (H1.out.1.below (by repeat (first | exact Below.refl _ _ | assumption | (refine Below.drew ?_) | (refine below_drewN ?_ _) | (refine bel_new ?_ _) | (refine bel_then ?_ (by assumption))))) (by simp)).mono ?_; rintro e w2 ⟨rfl, hb⟩; have hB : Below w1.heap.size w1 w2 := bel_then (by repeat (first | exact Below.refl _ _ | assumption | (refine Below.drew ?_) | (refine below_drewN ?_ _) | (refine bel_new ?_ _) | (refine bel_then ?_ (by assumption)))) hb; rw [HQ.out.2.2.1])
                | (go_at_call_of 33 (Value.int .i32 r); refine (has_any N r _ _ (H1.out.2.1.below (by repeat (first | exact Below.refl _ _ | assumption | (refine Below.drew ?_) | (refine below_drewN ?_ _) | (refine bel_new ?_ _) | (refine bel_then ?_ (by assumption))))) (by omega)).mono ?_; rintro e w2 ⟨rfl, hb⟩; have hB : Below w1.heap.size w1 w2 := bel_then (by repeat (first | exact Below.refl _ _ | assumption | (refine Below.drew ?_) | (refine below_drewN ?_ _) | (refine bel_new ?_ _) | (refine bel_then ?_ (by assumption)))) hb; rw [HQ.out.2.2.2.1])
                | (go_at_call 33; refine (has_any N o _ _ (H1.out.2.1.below (by repeat (first | exact Below.refl _ _ | assumption | (refine Below.drew ?_) | (refine below_drewN ?_ _) | (refine bel_new ?_ _) | (refine bel_then ?_ (by assumption))))) (by omega)).mono ?_; rintro e w2 ⟨rfl, hb⟩; have hB : Below w1.heap.size w1 w2 := bel_then (by repeat (first | exact Below.refl _ _ | assumption | (refine Below.drew ?_) | (refine below_drewN ?_ _) | (refine bel_new ?_ _) | (refine bel_then ?_ (by assumption)))) hb; rw [HQ.out.2.2.2.2.1]))
            go_ret
            exact ⟨rfl, bel_then H1.out.2.2.1 hB⟩
          · have d1 : decide (o = r) = false := by simp [hor]
            have HO := Lib.hid hor
            clear hor
            go_wp2_with (first
                | (go_at_call 27; refine (told5_any _).mono ?_; rintro e w2 ⟨rfl, hb⟩; have hB : Below w1.heap.size w1 w2 := bel_then (by repeat (first | exact Below.refl _ _ | assumption | (refine Below.drew ?_) | (refine below_drewN ?_ _) | (refine bel_new ?_ _) | (refine bel_then ?_ (by assumption)))) hb)
                | (go_at_call 28; refine (mayR_any [(r, r)] _ _ (H1.out.1.below (by repeat (first | exact Below.refl _ _ | assumption | (refine Below.drew ?_) | (refine below_drewN ?_ _) | (refine bel_new ?_ _) | (refine bel_then ?_ (by assumption))))) Hz.out (by simp)).mono ?_; rintro e w2 ⟨rfl, hb⟩; have hB : Below w1.heap.size w1 w2 := bel_then (by repeat (first | exact Below.refl _ _ | assumption | (refine Below.drew ?_) | (refine below_drewN ?_ _) | (refine bel_new ?_ _) | (refine bel_then ?_ (by assumption)))) hb; rw [HQ.out.2.1])
                | (go_at_call_of 41 (Value.slice (some ⟨w.heap.size, 0, none⟩) 1 1); refine (count_any [(r, r)] _ _ (H1.out.1.below (by repeat (first | exact Below.refl _ _ | assumption | (refine Below.drew ?_) | (refine below_drewN ?_ _) | (refine bel_new ?_ _) | (refine bel_then ?_ (by assumption))))) Hz.out (by simp)).mono ?_; rintro e w2 ⟨rfl, hb⟩; have hB : Below w1.heap.size w1 w2 := bel_then (by repeat (first | exact Below.refl _ _ | assumption | (refine Below.drew ?_) | (refine below_drewN ?_ _) | (refine bel_new ?_ _) | (refine bel_then ?_ (by assumption)))) hb; rw [HQ.out.1])
                | (go_at_call 41; refine (count_any N _ _ (H1.out.2.1.below (by repeat (first | exact Below.refl _ _ | assumption | (refine Below.drew ?_) | (refine below_drewN ?_ _) | (refine bel_new ?_ _) | (refine bel_then ?_ (by assumption))))) H1.out.2.2.2.1 (by omega)).mono ?_; rintro e w2 ⟨rfl, hb⟩; have hB : Below w1.heap.size w1 w2 := bel_then (by repeat (first | exact Below.refl _ _ | assumption | (refine Below.drew ?_) | (refine below_drewN ?_ _) | (refine bel_new ?_ _) | (refine bel_then ?_ (by assumption)))) hb; rw [HQ.out.2.2.2.2.2])
                | (go_at_call_of 33 (Value.slice (some ⟨w.heap.size, 0, none⟩) 1 1); refine (has_any [(r, r)] o _ _ (H1.out.1.below (by repeat (first | exact Below.refl _ _ | assumption | (refine Below.drew ?_) | (refine below_drewN ?_ _) | (refine bel_new ?_ _) | (refine bel_then ?_ (by assumption))))) (by simp)).mono ?_; rintro e w2 ⟨rfl, hb⟩; have hB : Below w1.heap.size w1 w2 := bel_then (by repeat (first | exact Below.refl _ _ | assumption | (refine Below.drew ?_) | (refine below_drewN ?_ _) | (refine bel_new ?_ _) | (refine bel_then ?_ (by assumption)))) hb; rw [HQ.out.2.2.1])
                | (go_at_call_of 33 (Value.int .i32 r); refine (has_any N r _ _ (H1.out.2.1.below (by repeat (first | exact Below.refl _ _ | assumption | (refine Below.drew ?_) | (refine below_drewN ?_ _) | (refine bel_new ?_ _) | (refine bel_then ?_ (by assumption))))) (by omega)).mono ?_; rintro e w2 ⟨rfl, hb⟩; have hB : Below w1.heap.size w1 w2 := bel_then (by repeat (first | exact Below.refl _ _ | assumption | (refine Below.drew ?_) | (refine below_drewN ?_ _) | (refine bel_new ?_ _) | (refine bel_then ?_ (by assumption)))) hb; rw [HQ.out.2.2.2.1])
                | (go_at_call 33; refine (has_any N o _ _ (H1.out.2.1.below (by repeat (first | exact Below.refl _ _ | assumption | (refine Below.drew ?_) | (refine below_drewN ?_ _) | (refine bel_new ?_ _) | (refine bel_then ?_ (by assumption))))) (by omega)).mono ?_; rintro e w2 ⟨rfl, hb⟩; have hB : Below w1.heap.size w1 w2 := bel_then (by repeat (first | exact Below.refl _ _ | assumption | (refine Below.drew ?_) | (refine below_drewN ?_ _) | (refine bel_new ?_ _) | (refine bel_then ?_ (by assumption)))) hb; rw [HQ.out.2.2.2.2.1]))
            go_ret
            exact ⟨by have h := HO.out; simp [h], bel_then H1.out.2.2.1 hB⟩
        · have hso' : scal o = false := by simpa using hso
          have hor : ¬ o = r := fun e => by rw [e] at hso; exact hso hs
          have d1 : decide (o = r) = false := by simp [hor]
          have HO := Lib.hid hor
          clear hor hso
          go_wp2_with (first
              | (go_at_call 27; refine (told5_any _).mono ?_; rintro e w2 ⟨rfl, hb⟩; have hB : Below w1.heap.size w1 w2 := bel_then (by repeat (first | exact Below.refl _ _ | assumption | (refine Below.drew ?_) | (refine below_drewN ?_ _) | (refine bel_new ?_ _) | (refine bel_then ?_ (by assumption)))) hb)
              | (go_at_call 28; refine (mayR_any [(r, r)] _ _ (H1.out.1.below (by repeat (first | exact Below.refl _ _ | assumption | (refine Below.drew ?_) | (refine below_drewN ?_ _) | (refine bel_new ?_ _) | (refine bel_then ?_ (by assumption))))) Hz.out (by simp)).mono ?_; rintro e w2 ⟨rfl, hb⟩; have hB : Below w1.heap.size w1 w2 := bel_then (by repeat (first | exact Below.refl _ _ | assumption | (refine Below.drew ?_) | (refine below_drewN ?_ _) | (refine bel_new ?_ _) | (refine bel_then ?_ (by assumption)))) hb; rw [HQ.out.2.1])
              | (go_at_call_of 41 (Value.slice (some ⟨w.heap.size, 0, none⟩) 1 1); refine (count_any [(r, r)] _ _ (H1.out.1.below (by repeat (first | exact Below.refl _ _ | assumption | (refine Below.drew ?_) | (refine below_drewN ?_ _) | (refine bel_new ?_ _) | (refine bel_then ?_ (by assumption))))) Hz.out (by simp)).mono ?_; rintro e w2 ⟨rfl, hb⟩; have hB : Below w1.heap.size w1 w2 := bel_then (by repeat (first | exact Below.refl _ _ | assumption | (refine Below.drew ?_) | (refine below_drewN ?_ _) | (refine bel_new ?_ _) | (refine bel_then ?_ (by assumption)))) hb; rw [HQ.out.1])
              | (go_at_call 41; refine (count_any N _ _ (H1.out.2.1.below (by repeat (first | exact Below.refl _ _ | assumption | (refine Below.drew ?_) | (refine below_drewN ?_ _) | (refine bel_new ?_ _) | (refine bel_then ?_ (by assumption))))) H1.out.2.2.2.1 (by omega)).mono ?_; rintro e w2 ⟨rfl, hb⟩; have hB : Below w1.heap.size w1 w2 := bel_then (by repeat (first | exact Below.refl _ _ | assumption | (refine Below.drew ?_) | (refine below_drewN ?_ _) | (refine bel_new ?_ _) | (refine bel_then ?_ (by assumption)))) hb; rw [HQ.out.2.2.2.2.2])
              | (go_at_call_of 33 (Value.slice (some ⟨w.heap.size, 0, none⟩) 1 1); refine (has_any [(r, r)] o _ _ (H1.out.1.below (by repeat (first | exact Below.refl _ _ | assumption | (refine Below.drew ?_) | (refine below_drewN ?_ _) | (refine bel_new ?_ _) | (refine bel_then ?_ (by assumption))))) (by simp)).mono ?_; rintro e w2 ⟨rfl, hb⟩; have hB : Below w1.heap.size w1 w2 := bel_then (by repeat (first | exact Below.refl _ _ | assumption | (refine Below.drew ?_) | (refine below_drewN ?_ _) | (refine bel_new ?_ _) | (refine bel_then ?_ (by assumption)))) hb; rw [HQ.out.2.2.1])
              | (go_at_call_of 33 (Value.int .i32 r); refine (has_any N r _ _ (H1.out.2.1.below (by repeat (first | exact Below.refl _ _ | assumption | (refine Below.drew ?_) | (refine below_drewN ?_ _) | (refine bel_new ?_ _) | (refine bel_then ?_ (by assumption))))) (by omega)).mono ?_; rintro e w2 ⟨rfl, hb⟩; have hB : Below w1.heap.size w1 w2 := bel_then (by repeat (first | exact Below.refl _ _ | assumption | (refine Below.drew ?_) | (refine below_drewN ?_ _) | (refine bel_new ?_ _) | (refine bel_then ?_ (by assumption)))) hb; rw [HQ.out.2.2.2.1])
              | (go_at_call 33; refine (has_any N o _ _ (H1.out.2.1.below (by repeat (first | exact Below.refl _ _ | assumption | (refine Below.drew ?_) | (refine below_drewN ?_ _) | (refine bel_new ?_ _) | (refine bel_then ?_ (by assumption))))) (by omega)).mono ?_; rintro e w2 ⟨rfl, hb⟩; have hB : Below w1.heap.size w1 w2 := bel_then (by repeat (first | exact Below.refl _ _ | assumption | (refine Below.drew ?_) | (refine below_drewN ?_ _) | (refine bel_new ?_ _) | (refine bel_then ?_ (by assumption)))) hb; rw [HQ.out.2.2.2.2.1]))
          go_ret
          exact ⟨by have h := HO.out; simp [h], bel_then H1.out.2.2.1 hB⟩
    · have hs' : scal r = false := by simpa using hs
      have q1 := none_cnt hs'
      have q2 := none_may hs'
      have q3 := none_nrm hs'
      have q6 := none_ntc hs'
      rw [← H1.out.2.2.2.2] at q6
      have HQ := Lib.hid (And.intro q1 (And.intro q2 (And.intro q3 q6)))
      clear q1 q2 q3 q6 hs
      go_wp2_with (first
        | (go_at_call 27; refine (told5_any _).mono ?_; rintro e w2 ⟨rfl, hb⟩; have hB : Below w1.heap.size w1 w2 := bel_then (by repeat (first | exact Below.refl _ _ | assumption | (refine Below.drew ?_) | (refine below_drewN ?_ _) | (refine bel_new ?_ _) | (refine bel_then ?_ (by assumption)))) hb)
        | (go_at_call 28; refine (mayR_any [(r, r)] _ _ (H1.out.1.below (by repeat (first | exact Below.refl _ _ | assumption | (refine Below.drew ?_) | (refine below_drewN ?_ _) | (refine bel_new ?_ _) | (refine bel_then ?_ (by assumption))))) Hz.out (by simp)).mono ?_; rintro e w2 ⟨rfl, hb⟩; have hB : Below w1.heap.size w1 w2 := bel_then (by repeat (first | exact Below.refl _ _ | assumption | (refine Below.drew ?_) | (refine below_drewN ?_ _) | (refine bel_new ?_ _) | (refine bel_then ?_ (by assumption)))) hb; rw [HQ.out.2.1])
        | (go_at_call 31; refine (norm_any [(r, r)] _ _ (H1.out.1.below (by repeat (first | exact Below.refl _ _ | assumption | (refine Below.drew ?_) | (refine below_drewN ?_ _) | (refine bel_new ?_ _) | (refine bel_then ?_ (by assumption))))) Hz.out (by simp)).mono ?_; rintro e w2 ⟨u2, rfl, hown2, hb⟩; rw [HQ.out.2.2.1] at hown2; obtain ⟨o2, c2, rfl⟩ := owns_slice hown2; have hB : Below w1.heap.size w1 w2 := bel_then (by repeat (first | exact Below.refl _ _ | assumption | (refine Below.drew ?_) | (refine below_drewN ?_ _) | (refine bel_new ?_ _) | (refine bel_then ?_ (by assumption)))) hb; clear hown2)
        | (go_at_call_of 41 (Value.slice (some ⟨w.heap.size, 0, none⟩) 1 1); refine (count_any [(r, r)] _ _ (H1.out.1.below (by repeat (first | exact Below.refl _ _ | assumption | (refine Below.drew ?_) | (refine below_drewN ?_ _) | (refine bel_new ?_ _) | (refine bel_then ?_ (by assumption))))) Hz.out (by simp)).mono ?_; rintro e w2 ⟨rfl, hb⟩; have hB : Below w1.heap.size w1 w2 := bel_then (by repeat (first | exact Below.refl _ _ | assumption | (refine Below.drew ?_) | (refine below_drewN ?_ _) | (refine bel_new ?_ _) | (refine bel_then ?_ (by assumption)))) hb; rw [HQ.out.1])
        | (go_at_call 41; refine (count_any N _ _ (H1.out.2.1.below (by repeat (first | exact Below.refl _ _ | assumption | (refine Below.drew ?_) | (refine below_drewN ?_ _) | (refine bel_new ?_ _) | (refine bel_then ?_ (by assumption))))) H1.out.2.2.2.1 (by omega)).mono ?_; rintro e w2 ⟨rfl, hb⟩; have hB : Below w1.heap.size w1 w2 := bel_then (by repeat (first | exact Below.refl _ _ | assumption | (refine Below.drew ?_) | (refine below_drewN ?_ _) | (refine bel_new ?_ _) | (refine bel_then ?_ (by assumption)))) hb; rw [HQ.out.2.2.2]))
      go_ret
      exact ⟨rfl, bel_then H1.out.2.2.1 hB⟩
end Go.Proofs.Ytjhfncmeiaogaaa
