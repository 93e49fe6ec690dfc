/- Scroll: the walks of ScrollBack, ScrollWindows, ScrollBars, ScrollSteps. -/
import Derived.Test.YtnggfdjohejfgaaScrollLaw1
import Derived.Test.YtnggfdjohejfgaaTintLaw2
set_option linter.unusedVariables false
set_option linter.unusedSimpArgs false
namespace Go.Proofs.Ytnggfdjohejfgaa
open Go.RowKit Fl

theorem u64_mod (a : Int) (m : Nat) (hm : 0 < m) (hm2 : m ≤ 1048576) : ∃ i : Nat, i < m ∧ (IntKind.u64.wrap a).tmod (m : Int) = (i : Int) := by
  have h0 : 0 ≤ IntKind.u64.wrap a := by unfold IntKind.wrap; simp [IntKind.bits, IntKind.signed]; omega
  have h1 := Int.tmod_nonneg (m : Int) h0
  have h2 := Int.tmod_lt_of_pos (IntKind.u64.wrap a) (show (0 : Int) < (m : Int) by omega)
  exact ⟨((IntKind.u64.wrap a).tmod (m : Int)).toNat, by omega, by omega⟩
theorem kept_one (a : Nat) (h : a < 1048576) : kept (1 + (a : Int)) = 1 + a := by unfold kept; omega
theorem eq_refl' {p : Nat} (h : p ≤ ONE) : (FloatKind.f64.format.order p p == some .eq) = true := by
  have := (p_facts h).2.2.1
  cases e : FloatKind.f64.format.order p p with
  | none => rw [e] at this; simp at this
  | some o => rw [e] at this; cases o <;> simp_all

theorem one_le_lt {a : Nat} (h : a ≤ ONE) : a < 2 * S := by
  have := ONE_lt
  have := INF_lt_S
  omega
/-! ### ScrollBack -/
theorem back_line {a k : Nat} (h : k ≤ a) (ha : a < 100000) : tnear (tplace (k : Int) (1 + (a : Int))) (kept (1 + (a : Int)) - 1) = k ∧ tplace (k : Int) (1 + (a : Int)) ≤ ONE := by
  have hk := kept_one a (by omega)
  have hc : ck (k : Int) a = k := by unfold ck; omega
  have e : kept (1 + (a : Int)) - 1 = a := by omega
  unfold tplace
  rw [e, hc]
  by_cases h0 : a = 0
  · subst h0
    have : k = 0 := by omega
    subst this
    rw [if_pos (by omega)]
    refine ⟨near_zero (tpart_small (Nat.zero_le _)) (by rw [B_num]; omega), Nat.zero_le _⟩
  · rw [if_neg (by omega)]
    have hp := place_le h (by omega) (by omega)
    exact ⟨back h (by omega) (by omega) (tpart_small hp), hp⟩
theorem scrollBack_walk (lines line : Int) (w1 : (Lit.int .i64 lines).wf = true) (w2 : (Lit.int .i64 line).wf = true) (w : World) :
    Calls Try.prog 9 #[.int .i64 lines, .int .i64 line] w fun e w' => e = .returned (.bool true) ∧ Below w.heap.size w w' := by
  clear w1 w2
  obtain ⟨a, ha, e1'⟩ := u64_mod lines 100000 (by decide) (by decide)
  obtain ⟨k, hk, e2'⟩ := u64_mod line (1 + a) (by omega) (by omega)
  have e1 : (IntKind.u64.wrap lines).tmod 100000 = (a : Int) := e1'
  have e2 : (IntKind.u64.wrap line).tmod (1 + (a : Int)) = (k : Int) := by rw [← e2']; congr 1
  have a0 : (0 : Int) ≤ (a : Int) := by omega
  have a1 : (a : Int) < 100000 := by omega
  have k0 : (0 : Int) ≤ (k : Int) := by omega
  have k1 : (k : Int) < 100000 := by omega
  obtain ⟨b1, b2⟩ := back_line (show k ≤ a by omega) ha
  have hp := one_le_lt b2
  have B1 := Lib.hid b1
  obtain ⟨l1, l2⟩ := l_facts b2
  clear e1' e2' hk b1 b2
  go_enter Try.func9, Try.ntmps9
  go_wp2_with (first | (go_at_call 39; refine (told2_any _).mono ?_; rintro e w1 ⟨rfl, hb1⟩) | (go_at_call 42; refine (place_any _ _ _).mono ?_; rintro e w1 ⟨rfl, hb1⟩) | (go_at_call 40; refine (line_any _ _ hp _).mono ?_; rintro e w1 ⟨rfl, hb1⟩; rw [B1.out]))
  go_ret
  exact ⟨rfl, (by repeat (first | exact Below.refl _ _ | (refine bnew ?_ _) | (refine Below.drew ?_) | (refine below_drewN ?_ _) | (refine bthen ?_ (by assumption))))⟩

/-! ### ScrollBars -/
theorem le_facts {p c : Nat} (hp : p ≤ INF) (hc : c ≤ INF) (h : p ≤ c) : ((FloatKind.f64.format.order p c == some .lt) || (FloatKind.f64.format.order p c == some .eq)) = true := by
  have hn := small_ok hp
  have hs := small_sval hp
  have e1 := c_lt (c := c) hn hc _ rfl
  have e2 := c_eq (c := c) hn hc _ rfl
  rw [e1, e2, hs]
  have := val_le h
  by_cases e : val p < val c
  · simp [e]
  · have : val p = val c := by omega
    simp [this]
theorem gt0_facts {p : Nat} (hp : p ≤ INF) (h : 0 < p) : (FloatKind.f64.format.order p 0 == some .gt) = true := by
  have hn := small_ok hp
  refine c_gt (c := 0) hn (Nat.zero_le _) true ?_
  rw [small_sval hp, val_zero]
  have := val_lt h
  rw [val_zero] at this
  simp; omega
theorem lt1_facts {p : Nat} (h : p < ONE) : (FloatKind.f64.format.order p 4607182418800017408 == some .lt) = true := by
  have hO := ONE_lt
  have hn := small_ok (show p ≤ INF by omega)
  refine c_lt (c := ONE) hn (Nat.le_of_lt ONE_lt) true ?_
  rw [small_sval (by omega)]
  have := val_lt h
  simp; omega
set_option maxHeartbeats 1000000 in
theorem scrollBars_walk (f : Nat) (lines rows : Int) (wf : (Lit.float .f64 f).wf = true) (w1 : (Lit.int .i64 lines).wf = true) (w2 : (Lit.int .i64 rows).wf = true) (w : World) :
    Calls Try.prog 11 #[.float .f64 f, .int .i64 lines, .int .i64 rows] w fun e w' => e = .returned (.bool true) ∧ Below w.heap.size w w' := by
  have hf : f < 2 * S := by rw [S_num]; simpa [Lit.wf] using wf
  clear w1 w2 wf
  obtain ⟨a, ha, e1'⟩ := u64_mod lines 10000 (by decide) (by decide)
  obtain ⟨b, hb, e2'⟩ := u64_mod rows 10000 (by decide) (by decide)
  have e1 : (IntKind.u64.wrap lines).tmod 10000 = (a : Int) := e1'
  have e2 : (IntKind.u64.wrap rows).tmod 10000 = (b : Int) := e2'
  have a0 : (0 : Int) ≤ (a : Int) := by omega
  have a1 : (a : Int) < 10000 := by omega
  have b0 : (0 : Int) ≤ (b : Int) := by omega
  have b1 : (b : Int) < 10000 := by omega
  have ka := kept_one a (by omega)
  have kb := kept_one b (by omega)
  have r0 := refl0
  have r1 := refl1
  by_cases h : a ≤ b
  · have q1 : barA f (1 + (a : Int)) (1 + (b : Int)) = 0 := by unfold barA; rw [if_pos (by omega)]
    have q2 : barB (1 + (a : Int)) (1 + (b : Int)) = 4607182418800017408 := by unfold barB; rw [if_pos (by omega)]; rfl
    have h' : (1 : Int) + (a : Int) ≤ 1 + (b : Int) := by omega
    have Q1 := Lib.hid q1
    have Q2 := Lib.hid q2
    clear e1' e2' ka kb q1 q2
    go_enter Try.func11, Try.ntmps11
    go_wp2_with (first | (go_at_call 39; refine (told2_any _).mono ?_; rintro e w1 ⟨rfl, hb1⟩) | (go_at_call 37; refine (bar_any _ _ _ hf _).mono ?_; rintro e w1 ⟨rfl, hb1⟩; rw [Q1.out, Q2.out]))
    go_ret
    exact ⟨rfl, (by repeat (first | exact Below.refl _ _ | (refine bnew ?_ _) | (refine Below.drew ?_) | (refine below_drewN ?_ _) | (refine bthen ?_ (by assumption))))⟩
  · have h' : (1 : Int) + (b : Int) < 1 + (a : Int) := by omega
    have q1 : barA f (1 + (a : Int)) (1 + (b : Int)) = mulW (tpart f) (subW ONE (divW (fint (1 + b)) (fint (1 + a)))) := by unfold barA; rw [if_neg (by omega), ka, kb]
    have q2 : barB (1 + (a : Int)) (1 + (b : Int)) = divW (fint (1 + b)) (fint (1 + a)) := by unfold barB; rw [if_neg (by omega), ka, kb]
    obtain ⟨l1, l2⟩ := bar_len (r := 1 + b) (n := 1 + a) (by omega) (by omega) (by omega)
    obtain ⟨s1, s2⟩ := bar_sum hf l1 l2
    generalize divW (fint (1 + b)) (fint (1 + a)) = l at *
    generalize mulW (tpart f) (subW ONE l) = p at *
    have hO := ONE_lt
    have f1 := (l_facts s1).1
    have f2 := gt0_facts (show l ≤ INF by omega) l2
    have f3 := lt1_facts l1
    have f4 : ((FloatKind.f64.format.order (addW p l) 4607182418800017409 == some .lt) || (FloatKind.f64.format.order (addW p l) 4607182418800017409 == some .eq)) = true := le_facts (c := ONE + 1) (by omega) (by omega) s2
    have m1 := r_add (x := p) (y := l) (fin_small (by omega)) (fin_small (by omega))
    have Q1 := Lib.hid q1
    have Q2 := Lib.hid q2
    clear e1' e2' ka kb q1 q2 hO s1 s2 l1 l2
    go_enter Try.func11, Try.ntmps11
    go_wp2_with (first | (go_at_call 39; refine (told2_any _).mono ?_; rintro e w1 ⟨rfl, hb1⟩) | (go_at_call 37; refine (bar_any _ _ _ hf _).mono ?_; rintro e w1 ⟨rfl, hb1⟩; rw [Q1.out, Q2.out]) | (simp only [m1]))
    go_ret
    exact ⟨rfl, (by repeat (first | exact Below.refl _ _ | (refine bnew ?_ _) | (refine Below.drew ?_) | (refine below_drewN ?_ _) | (refine bthen ?_ (by assumption))))⟩

/-! ### ScrollSteps -/
theorem tstep_le {f g : Nat} (hf : f < 2 * S) : tstep f g ≤ ONE := by
  have h1 := tpart_le f hf
  have h2 := tpart_le (addW (tpart f) g) (addW_lt _ _)
  unfold tstep
  split
  · exact h1
  · split
    · exact Nat.zero_le _
    · split
      · exact Nat.le_refl _
      · exact h2
theorem tstep_fin {f g : Nat} (hg : rung g ≤ ONE) : tstep f g = tpart (addW (tpart f) g) := by
  have hO := ONE_lt
  have := sval_fin_lt (show rung g < INF by omega)
  unfold tstep
  rw [if_neg (by omega), if_neg (by omega), if_neg (by omega)]
theorem tstep_exact {x y z : Nat} (hx : x ≤ ONE) (hy : rung y ≤ ONE) (hz : z ≤ ONE) (h : sval x + sval y = val z) : tstep x y = z := by
  rw [tstep_fin hy, tpart_small hx, addW_exact hx hz h, tpart_small hz]
theorem inf1_at (w : World) : Calls Try.prog 33 #[.int .i64 1] w fun e w' => e = .returned (.float .f64 9218868437227405312) ∧ w = w' := by
  have e2 := ext_from
  go_enter Try.func33, Try.ntmps33
  go_wp2
  go_ret
  exact ⟨rfl, rfl⟩
theorem inf0_at (w : World) : Calls Try.prog 33 #[.int .i64 (-1)] w fun e w' => e = .returned (.float .f64 18442240474082181120) ∧ w = w' := by
  have e2 := ext_from
  go_enter Try.func33, Try.ntmps33
  go_wp2
  go_ret
  exact ⟨rfl, rfl⟩
theorem rung_nan : INF < rung 9221120237041090561 := by unfold rung; rw [INF_num, S_num]; decide
theorem sval_pinf : sval 9218868437227405312 = val INF ∧ ¬ INF < rung 9218868437227405312 := by
  have h : (9218868437227405312 : Nat) = INF := INF_num.symm
  rw [h]
  exact ⟨small_sval (Nat.le_refl _), small_ok (Nat.le_refl _)⟩
theorem sval_ninf : sval 18442240474082181120 = -(val INF : Int) ∧ ¬ INF < rung 18442240474082181120 := by
  have h : (18442240474082181120 : Nat) = Ieee.double.word true INF := by rw [word_true, S_num, INF_num]
  rw [h]
  exact ⟨by rw [sval_word INF_lt_S]; rfl, by rw [rung_word INF_lt_S]; omega⟩
set_option maxHeartbeats 1000000 in
theorem scrollSteps_walk (a b : Int) (f : Nat) (w1 : (Lit.int .i64 a).wf = true) (w2 : (Lit.int .i64 b).wf = true) (wf : (Lit.float .f64 f).wf = true) (w : World) :
    Calls Try.prog 12 #[.int .i64 a, .int .i64 b, .float .f64 f] w fun e w' => e = .returned (.bool true) ∧ Below w.heap.size w w' := by
  have hf : f < 2 * S := by rw [S_num]; simpa [Lit.wf] using wf
  clear w1 w2 wf
  obtain ⟨i, hi, e1'⟩ := u64_mod a 65 (by decide) (by decide)
  obtain ⟨j, hj, e2'⟩ := u64_mod b 65 (by decide) (by decide)
  have e1 : (IntKind.u64.wrap a).tmod 65 = (i : Int) := e1'
  have e2 : (IntKind.u64.wrap b).tmod 65 = (j : Int) := e2'
  clear e1' e2'
  have hO := ONE_lt
  have hS := INF_lt_S
  have hI := val_INF_pos
  have d1 : ∀ t w, (binOp .quo t (.float .f64 (floatOfInt .f64 (i : Int))) (.float .f64 4634204016564240384)).run Try.prog w = .ok (.float .f64 (q64 i)) w := by
    obtain ⟨h1, h2⟩ := q64_div i hi
    obtain ⟨q, hq⟩ := Option.isSome_iff_exists.1 h1
    rw [hq] at h2
    have : q = q64 i := h2
    subst this
    exact fun t w => run_float_arith w .quo t .f64 _ _ _ hq
  have d2 : ∀ t w, (binOp .quo t (.float .f64 (floatOfInt .f64 (j : Int))) (.float .f64 4634204016564240384)).run Try.prog w = .ok (.float .f64 (q64 j)) w := by
    obtain ⟨h1, h2⟩ := q64_div j hj
    obtain ⟨q, hq⟩ := Option.isSome_iff_exists.1 h1
    rw [hq] at h2
    have : q = q64 j := h2
    subst this
    exact fun t w => run_float_arith w .quo t .f64 _ _ _ hq
  have pi := q64_le (show i ≤ 64 by omega)
  have pj := q64_le (show j ≤ 64 by omega)
  have m1 := r_sub (x := q64 j) (y := q64 i) (fin_small (by omega)) (fin_small (by omega))
  obtain ⟨v1, v2⟩ := q64_sub i j (by omega) (by omega)
  have lq := subW_lt (q64 j) (q64 i)
  obtain ⟨o1, o2⟩ := opp_opp lq
  have t1 : tstep (q64 i) (subW (q64 j) (q64 i)) = q64 j := tstep_exact pi v2 pj (by rw [v1, small_sval (by omega)]; omega)
  have t2 : tstep (q64 j) (opp (subW (q64 j) (q64 i))) = q64 i := tstep_exact pj (by omega) pi (by rw [o1, v1, small_sval (by omega)]; omega)
  have t3 : tstep (q64 i) 9221120237041090561 = q64 i := by unfold tstep; rw [if_pos rung_nan, tpart_small pi]
  have t4 : tstep (q64 i) 9218868437227405312 = 4607182418800017408 := by
    unfold tstep; rw [if_neg sval_pinf.2, sval_pinf.1, if_neg (by omega), if_pos (by omega)]; rfl
  have t5 : tstep (q64 i) 18442240474082181120 = 0 := by
    unfold tstep; rw [if_neg sval_ninf.2, sval_ninf.1, if_pos (by omega)]
  have ts := tstep_le (g := subW (q64 j) (q64 i)) hf
  obtain ⟨l1, l2⟩ := l_facts ts
  have lo : opp (subW (q64 j) (q64 i)) < 2 * S := by
    have h1 := word_of _ lq
    rw [h1, opp_word (rung_lt _)]; exact word_range _ (rung_lt _)
  have li : q64 i < 2 * S := by omega
  have lj : q64 j < 2 * S := by omega
  have rp := eq_refl' pi
  have r0 := refl0
  have r1 := refl1
  have en := run_neg
  have T1 := Lib.hid t1
  have T2 := Lib.hid t2
  have T3 := Lib.hid t3
  have T4 := Lib.hid t4
  have T5 := Lib.hid t5
  clear t1 t2 t3 t4 t5 v1 v2 o1 o2 pi pj hO hS hI ts
  go_enter Try.func12, Try.ntmps12
  go_wp2_with (first | (go_at_call 39; refine (told2_any _).mono ?_; rintro e w1 ⟨rfl, hb1⟩) | (simp only [d1]) | (simp only [d2]) | (simp only [m1]) | (go_at_call 31; refine (mathNaN_any _).mono ?_; rintro e w1 ⟨rfl, rfl⟩) | (go_at_call_of 33 (Value.int .i64 1); refine (inf1_at _).mono ?_; rintro e w' ⟨rfl, rfl⟩) | (go_at_call 33; refine (inf0_at _).mono ?_; rintro e w' ⟨rfl, rfl⟩) | (go_at_call_of 44 (Value.float .f64 f); refine (step_any _ _ hf lq _).mono ?_; rintro e w1 ⟨rfl, rfl⟩) | (go_at_call_of 44 (Value.float .f64 (subW (q64 j) (q64 i))); refine (step_any _ _ li lq _).mono ?_; rintro e w1 ⟨rfl, rfl⟩; rw [T1.out]) | (go_at_call_of 44 (Value.float .f64 (opp (subW (q64 j) (q64 i)))); refine (step_any _ _ lj lo _).mono ?_; rintro e w1 ⟨rfl, rfl⟩; rw [T2.out]) | (go_at_call_of 44 (Value.float .f64 9221120237041090561); refine (step_any _ _ li (lt2S (by decide)) _).mono ?_; rintro e w1 ⟨rfl, rfl⟩; rw [T3.out]) | (go_at_call_of 44 (Value.float .f64 9218868437227405312); refine (step_any _ _ li (lt2S (by decide)) _).mono ?_; rintro e w1 ⟨rfl, rfl⟩; rw [T4.out]) | (go_at_call_of 44 (Value.float .f64 18442240474082181120); refine (step_any _ _ li (lt2S (by decide)) _).mono ?_; rintro e w1 ⟨rfl, rfl⟩; rw [T5.out]))
  go_ret
  exact ⟨rfl, (by repeat (first | exact Below.refl _ _ | (refine bnew ?_ _) | (refine Below.drew ?_) | (refine below_drewN ?_ _) | (refine bthen ?_ (by assumption))))⟩
end Go.Proofs.Ytnggfdjohejfgaa
