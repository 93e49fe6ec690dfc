/- Scroll: the walk of ScrollWindows. -/
import Derived.Test.YtnggfdjohejfgaaScrollLaw2
import Derived.Test.YtnggfdjohejfgaaTintLaws
set_option linter.unusedVariables false
set_option linter.unusedSimpArgs false
namespace Go.Proofs.Ytnggfdjohejfgaa
open Go.RowKit Fl

set_option maxRecDepth 100000 in
set_option maxHeartbeats 4000000 in
theorem scrollWindows_walk (f g : Nat) (lines rows : Int) (wf : (Lit.float .f64 f).wf = true) (wg : (Lit.float .f64 g).wf = true) (w1 : (Lit.int .i64 lines).wf = true) (w2 : (Lit.int .i64 rows).wf = true) (w : World) :
    Calls Try.prog 10 #[.float .f64 f, .float .f64 g, .int .i64 lines, .int .i64 rows] w fun e w' => e = .returned (.bool true) ∧ Below w.heap.size w w' := by
  have hf : f < 2 * S := by rw [S_num]; simpa [Lit.wf] using wf
  have hg : g < 2 * S := by rw [S_num]; simpa [Lit.wf] using wg
  clear w1 w2 wf wg
  obtain ⟨a, ha, e1'⟩ := u64_mod lines 10000 (by decide) (by decide)
  obtain ⟨b, hb, e2'⟩ := u64_mod rows 10000 (by decide) (by decide)
  have e1 : (IntKind.u64.wrap lines).tmod 10000 = (a : Int) := e1'
  have e2 : (IntKind.u64.wrap rows).tmod 10000 = (b : Int) := e2'
  have a0 : (0 : Int) ≤ (a : Int) := by omega
  have a1 : (a : Int) < 10000 := by omega
  have b0 : (0 : Int) ≤ (b : Int) := by omega
  have b1 : (b : Int) < 10000 := by omega
  have ka := kept_one a (by omega)
  have kb := kept_one b (by omega)
  have hB := B_num
  clear e1' e2'
  have hmono : ¬ INF < rung f → ¬ INF < rung g → sval f ≤ sval g → winA f (1 + (a : Int)) (1 + (b : Int)) ≤ winA g (1 + (a : Int)) (1 + (b : Int)) := by
    intro n1 n2 h
    unfold winA
    split
    · exact Nat.le_refl _
    · exact near_mono n1 n2 hf hg h (by omega) (tpart_mono n1 n2 hf hg h)
  have x1 : winA 0 (1 + (a : Int)) (1 + (b : Int)) = 0 := by
    unfold winA
    split
    · rfl
    · exact near_zero (tpart_small (Nat.zero_le _)) (by omega)
  have y1 : winB 4607182418800017408 (1 + (a : Int)) (1 + (b : Int)) = 1 + a := by
    unfold winB
    rw [ka, kb]
    split
    · rfl
    · rw [near_one (f := 4607182418800017408) (tpart_small (p := ONE) (Nat.le_refl _)) (by omega)]; omega
  have X1 := Lib.hid x1
  have Y1' : (winB 4607182418800017408 (1 + (a : Int)) (1 + (b : Int)) : Int) = 1 + (a : Int) := by omega
  have Y1 := Lib.hid Y1'
  have p0 : (0 : Int) ≤ (winA f (1 + (a : Int)) (1 + (b : Int)) : Int) := by omega
  by_cases h : a ≤ b
  · have p1 : (winB f (1 + (a : Int)) (1 + (b : Int)) : Int) = 1 + (a : Int) := by unfold winB; rw [if_pos (by omega)]; omega
    have p2 : (winA f (1 + (a : Int)) (1 + (b : Int)) : Int) = 0 := by unfold winA; rw [if_pos (by omega)]; rfl
    have p3 : (1 : Int) + (a : Int) ≤ 1 + (b : Int) := by omega
    have pa : (winB f (1 + (a : Int)) (1 + (b : Int)) : Int) ≤ 1 + (a : Int) := by omega
    have pb : (winB f (1 + (a : Int)) (1 + (b : Int)) : Int) - (winA f (1 + (a : Int)) (1 + (b : Int)) : Int) = 1 + (a : Int) := by omega
    have pc : (winB f (1 + (a : Int)) (1 + (b : Int)) : Int) ≤ 10000 := by omega
    clear hB x1 y1 Y1' h ka kb p1 p2
    by_cases n1 : INF < rung f
    · have f1 := y_eq n1
      clear n1 hmono
      go_enter Try.func10, Try.ntmps10
      go_wp2_with (first | (go_at_call 39; refine (told2_any _).mono ?_; rintro e w1 ⟨rfl, hb1⟩) | (go_at_call_of 35 (Value.float .f64 0); refine (window_any _ _ _ (lt2S (by decide)) _).mono ?_; rintro e w1 ⟨rfl, hb1⟩; rw [X1.out]) | (go_at_call_of 35 (Value.float .f64 4607182418800017408); refine (window_any _ _ _ (lt2S (by decide)) _).mono ?_; rintro e w1 ⟨rfl, hb1⟩; rw [Y1.out]) | (go_at_call_of 35 (Value.float .f64 f); refine (window_any _ _ _ hf _).mono ?_; rintro e w1 ⟨rfl, hb1⟩) | (go_at_call_of 35 (Value.float .f64 g); refine (window_any _ _ _ hg _).mono ?_; rintro e w1 ⟨rfl, hb1⟩))
      go_ret
      exact ⟨rfl, (by repeat (first | exact Below.refl _ _ | (refine bnew ?_ _) | (refine Below.drew ?_) | (refine below_drewN ?_ _) | (refine bthen ?_ (by assumption))))⟩
    · have f1 := n_eq n1
      by_cases n2 : INF < rung g
      · have f2 := y_eq n2
        clear n1 n2 hmono
        go_enter Try.func10, Try.ntmps10
        go_wp2_with (first | (go_at_call 39; refine (told2_any _).mono ?_; rintro e w1 ⟨rfl, hb1⟩) | (go_at_call_of 35 (Value.float .f64 0); refine (window_any _ _ _ (lt2S (by decide)) _).mono ?_; rintro e w1 ⟨rfl, hb1⟩; rw [X1.out]) | (go_at_call_of 35 (Value.float .f64 4607182418800017408); refine (window_any _ _ _ (lt2S (by decide)) _).mono ?_; rintro e w1 ⟨rfl, hb1⟩; rw [Y1.out]) | (go_at_call_of 35 (Value.float .f64 f); refine (window_any _ _ _ hf _).mono ?_; rintro e w1 ⟨rfl, hb1⟩) | (go_at_call_of 35 (Value.float .f64 g); refine (window_any _ _ _ hg _).mono ?_; rintro e w1 ⟨rfl, hb1⟩))
        go_ret
        exact ⟨rfl, (by repeat (first | exact Below.refl _ _ | (refine bnew ?_ _) | (refine Below.drew ?_) | (refine below_drewN ?_ _) | (refine bthen ?_ (by assumption))))⟩
      · have f2 := n_eq n2
        have k2 := ford_eq n1 n2
        unfold ford at k2
        by_cases h3 : sval g < sval f
        · have k4 : (FloatKind.f64.format.order f g == some .gt) = true := by rw [k2, isgt]; simpa using h3
          clear n1 n2 hmono k2 h3
          go_enter Try.func10, Try.ntmps10
          go_wp2_with (first | (go_at_call 39; refine (told2_any _).mono ?_; rintro e w1 ⟨rfl, hb1⟩) | (go_at_call_of 35 (Value.float .f64 0); refine (window_any _ _ _ (lt2S (by decide)) _).mono ?_; rintro e w1 ⟨rfl, hb1⟩; rw [X1.out]) | (go_at_call_of 35 (Value.float .f64 4607182418800017408); refine (window_any _ _ _ (lt2S (by decide)) _).mono ?_; rintro e w1 ⟨rfl, hb1⟩; rw [Y1.out]) | (go_at_call_of 35 (Value.float .f64 f); refine (window_any _ _ _ hf _).mono ?_; rintro e w1 ⟨rfl, hb1⟩) | (go_at_call_of 35 (Value.float .f64 g); refine (window_any _ _ _ hg _).mono ?_; rintro e w1 ⟨rfl, hb1⟩))
          go_ret
          exact ⟨rfl, (by repeat (first | exact Below.refl _ _ | (refine bnew ?_ _) | (refine Below.drew ?_) | (refine below_drewN ?_ _) | (refine bthen ?_ (by assumption))))⟩
        · have k4 : (FloatKind.f64.format.order f g == some .gt) = false := by rw [k2, isgt]; simpa using h3
          have k5 := hmono n1 n2 (by omega)
          have k6 : (winA f (1 + (a : Int)) (1 + (b : Int)) : Int) ≤ (winA g (1 + (a : Int)) (1 + (b : Int)) : Int) := by omega
          clear n1 n2 hmono k2 h3 k5
          go_enter Try.func10, Try.ntmps10
          go_wp2_with (first | (go_at_call 39; refine (told2_any _).mono ?_; rintro e w1 ⟨rfl, hb1⟩) | (go_at_call_of 35 (Value.float .f64 0); refine (window_any _ _ _ (lt2S (by decide)) _).mono ?_; rintro e w1 ⟨rfl, hb1⟩; rw [X1.out]) | (go_at_call_of 35 (Value.float .f64 4607182418800017408); refine (window_any _ _ _ (lt2S (by decide)) _).mono ?_; rintro e w1 ⟨rfl, hb1⟩; rw [Y1.out]) | (go_at_call_of 35 (Value.float .f64 f); refine (window_any _ _ _ hf _).mono ?_; rintro e w1 ⟨rfl, hb1⟩) | (go_at_call_of 35 (Value.float .f64 g); refine (window_any _ _ _ hg _).mono ?_; rintro e w1 ⟨rfl, hb1⟩))
          go_ret
          exact ⟨rfl, (by repeat (first | exact Below.refl _ _ | (refine bnew ?_ _) | (refine Below.drew ?_) | (refine below_drewN ?_ _) | (refine bthen ?_ (by assumption))))⟩
  · have hn := near_le (f := f) (n := (1 + a) - (1 + b)) hf (by omega)
    have p1 : winB f (1 + (a : Int)) (1 + (b : Int)) = tnear f ((1 + a) - (1 + b)) + (1 + b) := by unfold winB; rw [if_neg (by omega), ka, kb]
    have p2 : winA f (1 + (a : Int)) (1 + (b : Int)) = tnear f ((1 + a) - (1 + b)) := by unfold winA; rw [if_neg (by omega), ka, kb]
    have p3 : (1 : Int) + (b : Int) < 1 + (a : Int) := by omega
    have pa : (winB f (1 + (a : Int)) (1 + (b : Int)) : Int) ≤ 1 + (a : Int) := by omega
    have pb : (winB f (1 + (a : Int)) (1 + (b : Int)) : Int) - (winA f (1 + (a : Int)) (1 + (b : Int)) : Int) = 1 + (b : Int) := by omega
    have pc : (winB f (1 + (a : Int)) (1 + (b : Int)) : Int) ≤ 10000 := by omega
    clear hB x1 y1 Y1' h ka kb p1 p2 hn
    by_cases n1 : INF < rung f
    · have f1 := y_eq n1
      clear n1 hmono
      go_enter Try.func10, Try.ntmps10
      go_wp2_with (first | (go_at_call 39; refine (told2_any _).mono ?_; rintro e w1 ⟨rfl, hb1⟩) | (go_at_call_of 35 (Value.float .f64 0); refine (window_any _ _ _ (lt2S (by decide)) _).mono ?_; rintro e w1 ⟨rfl, hb1⟩; rw [X1.out]) | (go_at_call_of 35 (Value.float .f64 4607182418800017408); refine (window_any _ _ _ (lt2S (by decide)) _).mono ?_; rintro e w1 ⟨rfl, hb1⟩; rw [Y1.out]) | (go_at_call_of 35 (Value.float .f64 f); refine (window_any _ _ _ hf _).mono ?_; rintro e w1 ⟨rfl, hb1⟩) | (go_at_call_of 35 (Value.float .f64 g); refine (window_any _ _ _ hg _).mono ?_; rintro e w1 ⟨rfl, hb1⟩))
      go_ret
      exact ⟨rfl, (by repeat (first | exact Below.refl _ _ | (refine bnew ?_ _) | (refine Below.drew ?_) | (refine below_drewN ?_ _) | (refine bthen ?_ (by assumption))))⟩
    · have f1 := n_eq n1
      by_cases n2 : INF < rung g
      · have f2 := y_eq n2
        clear n1 n2 hmono
        go_enter Try.func10, Try.ntmps10
        go_wp2_with (first | (go_at_call 39; refine (told2_any _).mono ?_; rintro e w1 ⟨rfl, hb1⟩) | (go_at_call_of 35 (Value.float .f64 0); refine (window_any _ _ _ (lt2S (by decide)) _).mono ?_; rintro e w1 ⟨rfl, hb1⟩; rw [X1.out]) | (go_at_call_of 35 (Value.float .f64 4607182418800017408); refine (window_any _ _ _ (lt2S (by decide)) _).mono ?_; rintro e w1 ⟨rfl, hb1⟩; rw [Y1.out]) | (go_at_call_of 35 (Value.float .f64 f); refine (window_any _ _ _ hf _).mono ?_; rintro e w1 ⟨rfl, hb1⟩) | (go_at_call_of 35 (Value.float .f64 g); refine (window_any _ _ _ hg _).mono ?_; rintro e w1 ⟨rfl, hb1⟩))
        go_ret
        exact ⟨rfl, (by repeat (first | exact Below.refl _ _ | (refine bnew ?_ _) | (refine Below.drew ?_) | (refine below_drewN ?_ _) | (refine bthen ?_ (by assumption))))⟩
      · have f2 := n_eq n2
        have k2 := ford_eq n1 n2
        unfold ford at k2
        by_cases h3 : sval g < sval f
        · have k4 : (FloatKind.f64.format.order f g == some .gt) = true := by rw [k2, isgt]; simpa using h3
          clear n1 n2 hmono k2 h3
          go_enter Try.func10, Try.ntmps10
          go_wp2_with (first | (go_at_call 39; refine (told2_any _).mono ?_; rintro e w1 ⟨rfl, hb1⟩) | (go_at_call_of 35 (Value.float .f64 0); refine (window_any _ _ _ (lt2S (by decide)) _).mono ?_; rintro e w1 ⟨rfl, hb1⟩; rw [X1.out]) | (go_at_call_of 35 (Value.float .f64 4607182418800017408); refine (window_any _ _ _ (lt2S (by decide)) _).mono ?_; rintro e w1 ⟨rfl, hb1⟩; rw [Y1.out]) | (go_at_call_of 35 (Value.float .f64 f); refine (window_any _ _ _ hf _).mono ?_; rintro e w1 ⟨rfl, hb1⟩) | (go_at_call_of 35 (Value.float .f64 g); refine (window_any _ _ _ hg _).mono ?_; rintro e w1 ⟨rfl, hb1⟩))
          go_ret
          exact ⟨rfl, (by repeat (first | exact Below.refl _ _ | (refine bnew ?_ _) | (refine Below.drew ?_) | (refine below_drewN ?_ _) | (refine bthen ?_ (by assumption))))⟩
        · have k4 : (FloatKind.f64.format.order f g == some .gt) = false := by rw [k2, isgt]; simpa using h3
          have k5 := hmono n1 n2 (by omega)
          have k6 : (winA f (1 + (a : Int)) (1 + (b : Int)) : Int) ≤ (winA g (1 + (a : Int)) (1 + (b : Int)) : Int) := by omega
          clear n1 n2 hmono k2 h3 k5
          go_enter Try.func10, Try.ntmps10
          go_wp2_with (first | (go_at_call 39; refine (told2_any _).mono ?_; rintro e w1 ⟨rfl, hb1⟩) | (go_at_call_of 35 (Value.float .f64 0); refine (window_any _ _ _ (lt2S (by decide)) _).mono ?_; rintro e w1 ⟨rfl, hb1⟩; rw [X1.out]) | (go_at_call_of 35 (Value.float .f64 4607182418800017408); refine (window_any _ _ _ (lt2S (by decide)) _).mono ?_; rintro e w1 ⟨rfl, hb1⟩; rw [Y1.out]) | (go_at_call_of 35 (Value.float .f64 f); refine (window_any _ _ _ hf _).mono ?_; rintro e w1 ⟨rfl, hb1⟩) | (go_at_call_of 35 (Value.float .f64 g); refine (window_any _ _ _ hg _).mono ?_; rintro e w1 ⟨rfl, hb1⟩))
          go_ret
          exact ⟨rfl, (by repeat (first | exact Below.refl _ _ | (refine bnew ?_ _) | (refine Below.drew ?_) | (refine below_drewN ?_ _) | (refine bthen ?_ (by assumption))))⟩
end Go.Proofs.Ytnggfdjohejfgaa
