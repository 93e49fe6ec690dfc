/- Scroll: the law's own examples, and ScrollAsks. -/
import Derived.Test.YtnggfdjohejfgaaScrollWalks
import Derived.Test.YtnggfdjohejfgaaTold1
set_option linter.unusedVariables false
set_option linter.unusedSimpArgs false
namespace Go.Proofs.Ytnggfdjohejfgaa
open Go.RowKit Fl

theorem u_1 : winA 4602678819172646912 10 4 = 3 ∧ winB 4602678819172646912 10 4 = 7 := by decide +kernel
theorem u_2 : winA 4619567317775286272 3 9 = 0 ∧ winB 4619567317775286272 3 9 = 3 := by decide +kernel
theorem u_3 : barA 4607182418800017408 4 1 = 4604930618986332160 ∧ barB 4 1 = 4598175219545276416 := by decide +kernel
theorem u_4 : tnear 4602678819172646912 (kept 3 - 1) = 1 := by decide +kernel
theorem u_5 : tplace 1 3 = 4602678819172646912 := by decide +kernel
theorem u_6 : tstep 4602678819172646912 9221120237041090561 = 4602678819172646912 := by decide +kernel
theorem u_7 : tplace 4 1 = 0 := by decide +kernel
theorem u_8 : tnear 9221120237041090561 (kept 9 - 1) = 0 := by decide +kernel
theorem reflh : (FloatKind.f64.format.order 4602678819172646912 4602678819172646912 == some .eq) = true := by decide +kernel
theorem refl34 : (FloatKind.f64.format.order 4604930618986332160 4604930618986332160 == some .eq) = true := by decide +kernel
theorem told2_any (w : World) : Calls Try.prog 39 #[] w fun e w' => e = .returned (.bool true) ∧ Below w.heap.size w w' := by
  have r0 := refl0
  have rq := reflq
  have rh := reflh
  have r3 := refl34
  go_enter Try.func39, Try.ntmps39
  go_wp2_with fail
  refine (window_any _ _ _ (lt2S (by decide)) _).mono ?_
  rintro e w1 ⟨rfl, hb1⟩
  rw [u_1.1, u_1.2]
  go_wp2_with fail
  refine (window_any _ _ _ (lt2S (by decide)) _).mono ?_
  rintro e w2 ⟨rfl, hb2⟩
  rw [u_2.1, u_2.2]
  go_wp2_with fail
  refine (bar_any _ _ _ (lt2S (by decide)) _).mono ?_
  rintro e w3 ⟨rfl, hb3⟩
  rw [u_3.1, u_3.2]
  go_wp2_with fail
  refine (line_any _ _ (lt2S (by decide)) _).mono ?_
  rintro e w4 ⟨rfl, hb4⟩
  rw [u_4]
  go_wp2_with fail
  refine (place_any _ _ _).mono ?_
  rintro e w5 ⟨rfl, hb5⟩
  rw [u_5]
  go_wp2_with fail
  refine (mathNaN_any _).mono ?_
  rintro e _ ⟨rfl, rfl⟩
  go_wp2_with fail
  refine (step_any _ _ (lt2S (by decide)) (lt2S (by decide)) _).mono ?_
  rintro e _ ⟨rfl, rfl⟩
  rw [u_6]
  go_wp2_with fail
  refine (place_any _ _ _).mono ?_
  rintro e w6 ⟨rfl, hb6⟩
  rw [u_7]
  go_wp2_with fail
  refine (mathNaN_any _).mono ?_
  rintro e _ ⟨rfl, rfl⟩
  go_wp2_with fail
  refine (line_any _ _ (lt2S (by decide)) _).mono ?_
  rintro e w7 ⟨rfl, hb7⟩
  rw [u_8]
  go_wp2_with fail
  go_ret
  exact ⟨rfl, (by repeat (first | exact Below.refl _ _ | (refine bnew ?_ _) | (refine Below.drew ?_) | (refine below_drewN ?_ _) | (refine bthen ?_ (by assumption))))⟩

theorem divW_lt {a b : Nat} (ha : a < INF) (hb : b < INF) (h0 : b ≠ 0) : divW a b < 2 * S := by
  have h := floatBits_wf (op := .quo) (k := .f64) (x := a) (y := b) (r := divW a b) (div_fin ha hb h0)
  rw [S_num]; simpa [Lit.wf] using h
theorem tplace_lt (line lines : Int) : tplace line lines < 2 * S := by
  have := S_pos
  have k := kept_le lines
  have j := ck_le line (kept lines - 1)
  unfold tplace
  split
  · omega
  · exact divW_lt (fint_fin (by omega)) (fint_fin (by omega)) (fint_ne (by omega) (by omega))
theorem tstep_lt {f g : Nat} (hf : f < 2 * S) (hg : g < 2 * S) : tstep f g < 2 * S := by
  have := S_pos
  have := ONE_lt
  have := INF_lt_S
  have := tpart_le f hf
  have := tpart_le (addW (tpart f) g) (addW_lt _ _)
  unfold tstep
  split
  · omega
  · split
    · omega
    · split <;> omega
theorem barA_lt (f : Nat) (lines rows : Int) : barA f lines rows < 2 * S := by
  have := S_pos
  unfold barA
  split
  · omega
  · exact mulW_lt _ _
theorem barB_lt (lines rows : Int) : barB lines rows < 2 * S := by
  have := ONE_lt
  have := INF_lt_S
  have k := kept_le lines
  have k' := kept_le rows
  unfold barB
  split
  · omega
  · exact divW_lt (fint_fin (by omega)) (fint_fin (by omega)) (fint_ne (by omega) (by omega))
theorem tsame_self (a : Nat) : tsame a a = true := by
  unfold tsame
  by_cases h : INF < rung a <;> simp [h]
set_option maxRecDepth 100000 in
set_option maxHeartbeats 1000000 in
theorem scrollAsks_walk (f g : Nat) (line lines rows : Int) (wf : (Lit.float .f64 f).wf = true) (wg : (Lit.float .f64 g).wf = true) (w1 : (Lit.int .i64 line).wf = true) (w2 : (Lit.int .i64 lines).wf = true) (w3 : (Lit.int .i64 rows).wf = true) (w : World) :
    Calls Try.prog 8 #[.float .f64 f, .float .f64 g, .int .i64 line, .int .i64 lines, .int .i64 rows] w fun e w' => e = .returned (.bool true) ∧ Below w.heap.size w w' := by
  have hf : f < 2 * S := by rw [S_num]; simpa [Lit.wf] using wf
  have hg : g < 2 * S := by rw [S_num]; simpa [Lit.wf] using wg
  clear wf wg w1 w2 w3
  have s1 := tsame_self (tplace line lines)
  have s2 := tsame_self (tstep f g)
  have s3 := tsame_self (barA f lines rows)
  have s4 := tsame_self (barB lines rows)
  have l1 := tplace_lt line lines
  have l2 := tstep_lt hf hg
  have l3 := barA_lt f lines rows
  have l4 := barB_lt lines rows
  go_enter Try.func8, Try.ntmps8
  go_wp2_with (first | (go_at_call 39; refine (told2_any _).mono ?_; rintro e w1 ⟨rfl, hb1⟩) | (go_at_call 35; refine (window_any _ _ _ hf _).mono ?_; rintro e w1 ⟨rfl, hb1⟩) | (go_at_call 36; refine (refWindow_any _ _ _ hf _).mono ?_; rintro e w1 ⟨rfl, hb1⟩) | (go_at_call 37; refine (bar_any _ _ _ hf _).mono ?_; rintro e w1 ⟨rfl, hb1⟩) | (go_at_call 38; refine (refBar_any _ _ _ hf _).mono ?_; rintro e w1 ⟨rfl, hb1⟩) | (go_at_call 40; refine (line_any _ _ hf _).mono ?_; rintro e w1 ⟨rfl, hb1⟩) | (go_at_call 41; refine (refLine_any _ _ hf _).mono ?_; rintro e w1 ⟨rfl, hb1⟩) | (go_at_call 42; refine (place_any _ _ _).mono ?_; rintro e w1 ⟨rfl, hb1⟩) | (go_at_call 43; refine (refPlace_any _ _ _).mono ?_; rintro e w1 ⟨rfl, hb1⟩) | (go_at_call 44; refine (step_any _ _ hf hg _).mono ?_; rintro e w1 ⟨rfl, rfl⟩) | (go_at_call 45; refine (refStep_any _ _ hf hg _).mono ?_; rintro e w1 ⟨rfl, rfl⟩) | (go_at_call_of 14 (Value.float .f64 (tplace line lines)); refine (refFloat_any _ _ l1 l1 _).mono ?_; rintro e w1 ⟨rfl, rfl⟩; rw [s1]) | (go_at_call_of 14 (Value.float .f64 (tstep f g)); refine (refFloat_any _ _ l2 l2 _).mono ?_; rintro e w1 ⟨rfl, rfl⟩; rw [s2]) | (go_at_call_of 14 (Value.float .f64 (barA f lines rows)); refine (refFloat_any _ _ l3 l3 _).mono ?_; rintro e w1 ⟨rfl, rfl⟩; rw [s3]) | (go_at_call 14; refine (refFloat_any _ _ l4 l4 _).mono ?_; rintro e w1 ⟨rfl, rfl⟩; rw [s4]))
  go_ret
  exact ⟨rfl, (by repeat (first | exact Below.refl _ _ | (refine bnew ?_ _) | (refine Below.drew ?_) | (refine below_drewN ?_ _) | (refine bthen ?_ (by assumption))))⟩
end Go.Proofs.Ytnggfdjohejfgaa
