/- The walks over package tint's functions of colours. -/
import Derived.Test.YtdpnpfgejfhcgaaTintWalks
import Derived.Deep.RegionHeld3
import Derived.WalkSpells
import Derived.Deep.DeepCutAuto
set_option linter.unusedVariables false
set_option linter.unusedSimpArgs false
namespace Go.Proofs.Ytdpnpfgejfhcgaa
open Go.RowKit Fl

theorem bcell {W w1 : World} (hb : Below W.heap.size W w1) : (∀ b o, b < W.heap.size → w1.cell? ⟨b, o, none⟩ = W.cell? ⟨b, o, none⟩) ∧ (∀ b o, b < W.heap.size → w1.frozen? ⟨b, o, none⟩ = W.frozen? ⟨b, o, none⟩) :=
  ⟨fun b o h => hb.cell (p := ⟨b, o, none⟩) h, fun b o h => hb.frozen (p := ⟨b, o, none⟩) h⟩
theorem ret_bool {a b : Bool} (h : a = b) : Ending.returned (.bool a) = .returned (.bool b) := by rw [h]
theorem bnew {w b : World} (h : Below w.heap.size w b) (o : Obj) : Below w.heap.size w (b.alloc o) := h.alloc h.size o
theorem bthen {w a b : World} (h : Below w.heap.size w a) (k : Below a.heap.size a b) : Below w.heap.size w b := h.trans (k.mono h.size)

theorem light_any (r g b : Nat) (hr : r < 2 * S) (hg : g < 2 * S) (hb : b < 2 * S) (w : World) :
    Calls Try.prog 21 #[.agg #[.float .f64 r, .float .f64 g, .float .f64 b]] w fun e w' => e = .returned (.float .f64 (tlight r g b)) ∧ Below w.heap.size w w' := by
  have h1 := mul_one_le (Nat.le_of_lt Q_lt.1) (tpart_le r hr)
  have h2 := mul_one_le (Nat.le_of_lt Q_lt.2.1) (tpart_le g hg)
  have h3 := mul_one_le (Nat.le_of_lt Q_lt.2.2.1) (tpart_le b hb)
  have h4 := tlight_12 hr hg
  have hq := Q_lt
  have m1 := r_mul (x := 4598175219545276416) (fin_small Q_lt.1) (fin_small (tpart_lt r hr))
  have m2 := r_mul (x := 4603804719079489536) (fin_small Q_lt.2.1) (fin_small (tpart_lt g hg))
  have m3 := r_mul (x := 4593671619917905920) (fin_small Q_lt.2.2.1) (fin_small (tpart_lt b hb))
  have m4 := r_add (x := mulW 4598175219545276416 (tpart r)) (y := mulW 4603804719079489536 (tpart g)) (fin_small (show mulW Q1 (tpart r) < INF by omega)) (fin_small (show mulW Q2 (tpart g) < INF by omega))
  have m5 := r_add (x := addW (mulW 4598175219545276416 (tpart r)) (mulW 4603804719079489536 (tpart g))) (y := mulW 4593671619917905920 (tpart b)) (fin_small (show addW (mulW Q1 (tpart r)) (mulW Q2 (tpart g)) < INF by omega)) (fin_small (show mulW Q3 (tpart b) < INF by omega))
  clear h1 h2 h3 h4 hq
  go_enter Try.func21, Try.ntmps21
  go_wp2_with fail
  refine (fit_any r g b hr hg hb _).mono ?_
  rintro e w1 ⟨rfl, hb1⟩
  go_wp2_with (first | (simp only [m1]) | (simp only [m2]) | (simp only [m3]) | (simp only [m4]) | (simp only [m5]))
  skip
  go_ret
  exact ⟨ret_float rfl, bnew (bthen (bnew (Below.refl _ _) _) hb1) _⟩
theorem refLight_any (r g b : Nat) (hr : r < 2 * S) (hg : g < 2 * S) (hb : b < 2 * S) (w : World) :
    Calls Try.prog 22 #[.agg #[.float .f64 r, .float .f64 g, .float .f64 b]] w fun e w' => e = .returned (.float .f64 (tlight r g b)) ∧ Below w.heap.size w w' := by
  have h1 := mul_one_le (Nat.le_of_lt Q_lt.1) (tpart_le r hr)
  have h2 := mul_one_le (Nat.le_of_lt Q_lt.2.1) (tpart_le g hg)
  have h3 := mul_one_le (Nat.le_of_lt Q_lt.2.2.1) (tpart_le b hb)
  have h4 := tlight_12 hr hg
  have hq := Q_lt
  have m1 := r_mul (x := 4598175219545276416) (fin_small Q_lt.1) (fin_small (tpart_lt r hr))
  have m2 := r_mul (x := 4603804719079489536) (fin_small Q_lt.2.1) (fin_small (tpart_lt g hg))
  have m3 := r_mul (x := 4593671619917905920) (fin_small Q_lt.2.2.1) (fin_small (tpart_lt b hb))
  have m4 := r_add (x := mulW 4598175219545276416 (tpart r)) (y := mulW 4603804719079489536 (tpart g)) (fin_small (show mulW Q1 (tpart r) < INF by omega)) (fin_small (show mulW Q2 (tpart g) < INF by omega))
  have m5 := r_add (x := addW (mulW 4598175219545276416 (tpart r)) (mulW 4603804719079489536 (tpart g))) (y := mulW 4593671619917905920 (tpart b)) (fin_small (show addW (mulW Q1 (tpart r)) (mulW Q2 (tpart g)) < INF by omega)) (fin_small (show mulW Q3 (tpart b) < INF by omega))
  clear h1 h2 h3 h4 hq
  go_enter Try.func22, Try.ntmps22
  go_wp2_with fail
  refine (refFit_any r g b hr hg hb _).mono ?_
  rintro e w1 ⟨rfl, hb1⟩
  go_wp2_with (first | (simp only [m1]) | (simp only [m2]) | (simp only [m3]) | (simp only [m4]) | (simp only [m5]))
  go_quiet (fail)
  go_wp2_with (first | (simp only [m1]) | (simp only [m2]) | (simp only [m3]) | (simp only [m4]) | (simp only [m5]))
  go_ret
  exact ⟨ret_float rfl, below_drewN (bnew (bthen (bnew (Below.refl _ _) _) hb1) _) _⟩

theorem andNot_top {a : Nat} (h : a < 2 * S) : (bits .andNot .u64 (a : Int) 9223372036854775808).toNat = rung a := by
  have hS := S_num
  have := u64_andNot_nat a 9223372036854775808 (by omega) (by omega)
  rw [show ((9223372036854775808 : Nat) : Int) = 9223372036854775808 from rfl] at this
  rw [this, Int.toNat_natCast, show (18446744073709551615 - 9223372036854775808 : Nat) = 2 ^ 63 - 1 from rfl, Nat.and_two_pow_sub_one_eq_mod]
  unfold rung; rw [S_pow]
theorem abs_any (a : Nat) (h : a < 2 * S) (w : World) :
    Calls Try.prog 36 #[.float .f64 a] w fun e w' => e = .returned (.float .f64 (rung a)) ∧ w = w' := by
  have e1 := ext_bits
  have e2 := ext_from
  have e3 := Lib.hid (andNot_top h)
  go_enter Try.func36, Try.ntmps36
  go_wp2
  go_ret
  exact ⟨ret_float e3.out, rfl⟩

theorem refFloat_any (a b : Nat) (ha : a < 2 * S) (hb : b < 2 * S) (w : World) :
    Calls Try.prog 9 #[.float .f64 a, .float .f64 b] w fun e w' => e = .returned (.bool (tsame a b)) ∧ w = w' := by
  have e1 := ext_bits
  have e2 := ext_from
  by_cases h1 : INF < rung a
  · have f1 := y_eq h1
    by_cases h2 : INF < rung b
    · have f2 := y_eq h2
      have hq := Lib.hid (show tsame a b = true by unfold tsame; simp [h1, h2])
      go_enter Try.func9, Try.ntmps9
      go_wp2
      go_ret
      exact ⟨ret_bool hq.out.symm, rfl⟩
    · have f2 := n_eq h2
      have hne : (((a : Nat) : Int) == ((b : Nat) : Int)) = false := by
        simp only [beq_eq_false_iff_ne, ne_eq, Int.natCast_inj]; rintro rfl; exact h2 h1
      have hne2 : ¬ a = b := by rintro rfl; exact h2 h1
      have hq := Lib.hid (show tsame a b = false by unfold tsame; simp [h1, h2])
      go_enter Try.func9, Try.ntmps9
      go_wp2
      go_ret
      exact ⟨ret_bool hq.out.symm, rfl⟩
  · have f1 := n_eq h1
    by_cases he : a = b
    · subst he
      have hq := Lib.hid (show tsame a a = true by unfold tsame; simp [h1])
      go_enter Try.func9, Try.ntmps9
      go_wp2
      go_ret
      exact ⟨ret_bool hq.out.symm, rfl⟩
    · have hne : (((a : Nat) : Int) == ((b : Nat) : Int)) = false := by simp; omega
      have hq := Lib.hid (show tsame a b = false by
        unfold tsame
        by_cases h2 : INF < rung b <;> simp [h1, h2, he])
      go_enter Try.func9, Try.ntmps9
      go_wp2
      go_ret
      exact ⟨ret_bool hq.out.symm, rfl⟩

theorem wrap_neg {a : Nat} (h : a < 2 * S) : decide (wrap64 (a : Int) < 0) = decide (S ≤ a) := by
  have hS := S_num
  rw [decide_eq_decide]
  unfold wrap64
  omega
set_option maxRecDepth 100000 in
theorem identical_any (a b : Nat) (ha : a < 2 * S) (hb : b < 2 * S) (w : World) :
    Calls Try.prog 37 #[.float .f64 a, .float .f64 b] w fun e w' => e = .returned (.bool (tsame a b)) ∧ w = w' := by
  have e1 := ext_bits
  by_cases h1 : INF < rung a
  · have f1 := y_eq h1
    by_cases h2 : INF < rung b
    · have f2 := y_eq h2
      have hq := Lib.hid (show tsame a b = true by unfold tsame; simp [h1, h2])
      go_enter Try.func37, Try.ntmps37
      go_wp2
      go_ret
      exact ⟨ret_bool hq.out.symm, rfl⟩
    · have f2 := n_eq h2
      have hq := Lib.hid (show tsame a b = false by unfold tsame; simp [h1, h2])
      go_enter Try.func37, Try.ntmps37
      go_wp2
      go_ret
      exact ⟨ret_bool hq.out.symm, rfl⟩
  · have f1 := n_eq h1
    by_cases h2 : INF < rung b
    · have f2 := y_eq h2
      have hq := Lib.hid (show tsame a b = false by unfold tsame; simp [h1, h2])
      go_enter Try.func37, Try.ntmps37
      go_wp2
      go_ret
      exact ⟨ret_bool hq.out.symm, rfl⟩
    · have f2 := n_eq h2
      have k1 := tsame_prog h1 h2 ha hb
      have k2 := ford_eq h1 h2
      have w1 := wrap_neg ha
      have w2 := wrap_neg hb
      have hq := Lib.hid (show tsame a b = decide (a = b) by unfold tsame; simp [h1, h2])
      by_cases h3 : sval a = sval b
      · have k3 : FloatKind.f64.format.order a b = some .eq := by unfold ford at k2; rw [k2, cmp_eq h3]
        have k4 : (FloatKind.f64.format.order a b == some .eq) = true := by rw [k3]; rfl
        rw [show decide (sval a = sval b) = true by simpa using h3, Bool.true_and] at k1
        have K1 := Lib.hid k1
        clear k2
        have W1 := Lib.hid w1
        have W2 := Lib.hid w2
        clear k3 h3 h1 h2 ha hb k1 w1 w2
        go_enter Try.func37, Try.ntmps37
        go_wp2
        go_ret
        exact ⟨ret_bool (by rw [hq.out, ← K1.out, ← W1.out, ← W2.out]), rfl⟩
      · have k4 : (FloatKind.f64.format.order a b == some .eq) = false := by
          unfold ford at k2; rw [k2, iseq]; simpa using h3
        rw [show decide (sval a = sval b) = false by simpa using h3, Bool.false_and] at k1
        have K1 := Lib.hid k1
        clear k2 w1 w2 h3 h1 h2 ha hb k1
        go_enter Try.func37, Try.ntmps37
        go_wp2
        go_ret
        exact ⟨ret_bool (by rw [hq.out, ← K1.out]), rfl⟩

/-- A whole colour held against another. -/
def csame (r g b r' g' b' : Nat) : Bool := tsame r r' && (tsame g g' && tsame b b')
set_option maxRecDepth 100000 in
theorem same_any (r g b r' g' b' : Nat) (hr : r < 2 * S) (hg : g < 2 * S) (hb : b < 2 * S) (hr' : r' < 2 * S) (hg' : g' < 2 * S) (hb' : b' < 2 * S) (w : World) :
    Calls Try.prog 25 #[.agg #[.float .f64 r, .float .f64 g, .float .f64 b], .agg #[.float .f64 r', .float .f64 g', .float .f64 b']] w fun e w' => e = .returned (.bool (csame r g b r' g' b')) ∧ Below w.heap.size w w' := by
  have hq := Lib.hid (show csame r g b r' g' b' = (tsame r r' && (tsame g g' && tsame b b')) from rfl)
  cases h1 : tsame r r' <;> cases h2 : tsame g g' <;> cases h3 : tsame b b'
  all_goals
    have H1 := Lib.hid h1
    have H2 := Lib.hid h2
    have H3 := Lib.hid h3
    go_enter Try.func25, Try.ntmps25
    go_wp2_with (first | (go_at_call 37; refine (identical_any _ _ (by assumption) (by assumption) _).mono ?_; rintro e w' ⟨rfl, rfl⟩))
    go_ret
    exact ⟨ret_bool (by rw [hq.out, H1.out, H2.out, H3.out]; rfl), bnew (bnew (Below.refl _ _) _) _⟩
set_option maxRecDepth 100000 in
theorem refSame_any (r g b r' g' b' : Nat) (hr : r < 2 * S) (hg : g < 2 * S) (hb : b < 2 * S) (hr' : r' < 2 * S) (hg' : g' < 2 * S) (hb' : b' < 2 * S) (w : World) :
    Calls Try.prog 12 #[.agg #[.float .f64 r, .float .f64 g, .float .f64 b], .agg #[.float .f64 r', .float .f64 g', .float .f64 b']] w fun e w' => e = .returned (.bool (csame r g b r' g' b')) ∧ Below w.heap.size w w' := by
  have hq := Lib.hid (show csame r g b r' g' b' = (tsame r r' && (tsame g g' && tsame b b')) from rfl)
  cases h1 : tsame r r' <;> cases h2 : tsame g g' <;> cases h3 : tsame b b'
  all_goals
    have H1 := Lib.hid h1
    have H2 := Lib.hid h2
    have H3 := Lib.hid h3
    go_enter Try.func12, Try.ntmps12
    go_wp2_with (first | (go_at_call 9; refine (refFloat_any _ _ (by assumption) (by assumption) _).mono ?_; rintro e w' ⟨rfl, rfl⟩))
    go_ret
    exact ⟨ret_bool (by rw [hq.out, H1.out, H2.out, H3.out]; rfl), bnew (bnew (Below.refl _ _) _) _⟩
theorem far_any (r g b r' g' b' : Nat) (hr : r < 2 * S) (hg : g < 2 * S) (hb : b < 2 * S) (hr' : r' < 2 * S) (hg' : g' < 2 * S) (hb' : b' < 2 * S) (w : World) :
    Calls Try.prog 23 #[.agg #[.float .f64 r, .float .f64 g, .float .f64 b], .agg #[.float .f64 r', .float .f64 g', .float .f64 b']] w fun e w' => e = .returned (.float .f64 (tfar (tlight r g b) (tlight r' g' b'))) ∧ Below w.heap.size w w' := by
  have l1 := tlight_le hr hg hb
  have l2 := tlight_le hr' hg' hb'
  have hO := ONE_lt
  have m1 := r_sub (x := tlight r g b) (y := tlight r' g' b') (fin_small (by omega)) (fin_small (by omega))
  have hs := subW_lt (tlight r g b) (tlight r' g' b')
  clear l1 l2 hO
  go_enter Try.func23, Try.ntmps23
  go_wp2_with fail
  go_region_held3 (fun w' => w'.cell? ⟨w.heap.size, 0, none⟩ = some (.float .f64 r) ∧ w'.cell? ⟨w.heap.size, 1, none⟩ = some (.float .f64 g) ∧ w'.cell? ⟨w.heap.size, 2, none⟩ = some (.float .f64 b) ∧ w'.cell? ⟨w.heap.size + 1, 0, none⟩ = some (.float .f64 r') ∧ w'.cell? ⟨w.heap.size + 1, 1, none⟩ = some (.float .f64 g') ∧ w'.cell? ⟨w.heap.size + 1, 2, none⟩ = some (.float .f64 b')) (first | (refine ⟨?_, ?_, ?_, ?_, ?_, ?_⟩ <;> exact cell_later (by assumption) (by first | (simp; done) | simp [*, go_sem])) | go_keep)
    (first | (go_at_call 36; refine (abs_any _ hs _).mono ?_; rintro e w1 ⟨rfl, rfl⟩) | (go_at_call_of 21 (Value.agg #[Value.float .f64 r', Value.float .f64 g', Value.float .f64 b']); refine (light_any r' g' b' hr' hg' hb' _).mono ?_; rintro e w1 ⟨rfl, hb1⟩) | (go_at_call_of 21 (Value.agg #[Value.float .f64 r, Value.float .f64 g, Value.float .f64 b]); refine (light_any r g b hr hg hb _).mono ?_; rintro e w1 ⟨rfl, hb1⟩))
  go_wp2_with fail
  go_ret
  exact ⟨ret_float rfl, (by repeat (first | exact Below.refl _ _ | (refine bnew ?_ _) | (refine Below.drew ?_) | (refine below_drewN ?_ _) | (refine bthen ?_ (by assumption))))⟩
theorem refFar_any (r g b r' g' b' : Nat) (hr : r < 2 * S) (hg : g < 2 * S) (hb : b < 2 * S) (hr' : r' < 2 * S) (hg' : g' < 2 * S) (hb' : b' < 2 * S) (w : World) :
    Calls Try.prog 24 #[.agg #[.float .f64 r, .float .f64 g, .float .f64 b], .agg #[.float .f64 r', .float .f64 g', .float .f64 b']] w fun e w' => e = .returned (.float .f64 (tfar (tlight r g b) (tlight r' g' b'))) ∧ Below w.heap.size w w' := by
  have l1 := tlight_le hr hg hb
  have l2 := tlight_le hr' hg' hb'
  have hO := ONE_lt
  have m1 := r_sub (x := tlight r g b) (y := tlight r' g' b') (fin_small (by omega)) (fin_small (by omega))
  have hs := subW_lt (tlight r g b) (tlight r' g' b')
  clear l1 l2 hO
  go_enter Try.func24, Try.ntmps24
  go_wp2_with fail
  go_region_held3 (fun w' => w'.cell? ⟨w.heap.size, 0, none⟩ = some (.float .f64 r) ∧ w'.cell? ⟨w.heap.size, 1, none⟩ = some (.float .f64 g) ∧ w'.cell? ⟨w.heap.size, 2, none⟩ = some (.float .f64 b) ∧ w'.cell? ⟨w.heap.size + 1, 0, none⟩ = some (.float .f64 r') ∧ w'.cell? ⟨w.heap.size + 1, 1, none⟩ = some (.float .f64 g') ∧ w'.cell? ⟨w.heap.size + 1, 2, none⟩ = some (.float .f64 b')) (first | (refine ⟨?_, ?_, ?_, ?_, ?_, ?_⟩ <;> exact cell_later (by assumption) (by first | (simp; done) | simp [*, go_sem])) | go_keep)
    (first | (go_at_call 36; refine (abs_any _ hs _).mono ?_; rintro e w1 ⟨rfl, rfl⟩) | (go_at_call_of 22 (Value.agg #[Value.float .f64 r', Value.float .f64 g', Value.float .f64 b']); refine (refLight_any r' g' b' hr' hg' hb' _).mono ?_; rintro e w1 ⟨rfl, hb1⟩) | (go_at_call_of 22 (Value.agg #[Value.float .f64 r, Value.float .f64 g, Value.float .f64 b]); refine (refLight_any r g b hr hg hb _).mono ?_; rintro e w1 ⟨rfl, hb1⟩))
  go_wp2_with fail
  go_ret
  exact ⟨ret_float rfl, (by repeat (first | exact Below.refl _ _ | (refine bnew ?_ _) | (refine Below.drew ?_) | (refine below_drewN ?_ _) | (refine bthen ?_ (by assumption))))⟩

theorem between_any (a b u : Nat) (ha : a ≤ ONE) (hb : b ≤ ONE) (hu : u ≤ ONE) (w : World) :
    Calls Try.prog 33 #[.float .f64 a, .float .f64 b, .float .f64 u] w fun e w' => e = .returned (.float .f64 (tbetween a b u)) ∧ w' = w := by
  have hO := ONE_lt
  have d1 := rung_sub hb ha
  have d2 := rung_mul d1 hu
  have m1 := r_sub (x := b) (y := a) (fin_small (by omega)) (fin_small (by omega))
  have m2 := r_mul (x := subW b a) (y := u) (by omega) (fin_small (by omega))
  have m3 := r_add (x := a) (y := mulW (subW b a) u) (fin_small (by omega)) (by omega)
  clear hO d1 d2
  go_enter Try.func33, Try.ntmps33
  go_wp2_with (first | (simp only [m1]) | (simp only [m2]) | (simp only [m3]))
  go_ret
  exact ⟨ret_float rfl, rfl⟩
theorem refOne_any (a b u : Nat) (ha : a ≤ ONE) (hb : b ≤ ONE) (hu : u ≤ ONE) (w : World) :
    Calls Try.prog 34 #[.float .f64 a, .float .f64 b, .float .f64 u] w fun e w' => e = .returned (.float .f64 (tbetween a b u)) ∧ w' = w := by
  have hO := ONE_lt
  have d1 := rung_sub hb ha
  have d2 := rung_mul d1 hu
  have m1 := r_sub (x := b) (y := a) (fin_small (by omega)) (fin_small (by omega))
  have m2 := r_mul (x := subW b a) (y := u) (by omega) (fin_small (by omega))
  have m3 := r_add (x := a) (y := mulW (subW b a) u) (fin_small (by omega)) (by omega)
  clear hO d1 d2
  go_enter Try.func34, Try.ntmps34
  go_wp2_with (first | (simp only [m1]) | (simp only [m2]) | (simp only [m3]))
  go_ret
  exact ⟨ret_float rfl, rfl⟩

/-- One part of a mix. -/
def tmix (a b t : Nat) : Nat := if tpart t = 0 then a else if tpart t = ONE then b else tbetween (tpart a) (tpart b) (tpart t)
set_option maxHeartbeats 8000000 in
theorem mix_mid (r g b r' g' b' t : Nat) (hr : r < 2 * S) (hg : g < 2 * S) (hb : b < 2 * S) (hr' : r' < 2 * S) (hg' : g' < 2 * S) (hb' : b' < 2 * S) (ht : t < 2 * S) (w : World) (h0 : ¬ tpart t = 0) (h1 : ¬ tpart t = ONE) :
    Calls Try.prog 15 #[.agg #[.float .f64 r, .float .f64 g, .float .f64 b], .agg #[.float .f64 r', .float .f64 g', .float .f64 b'], .float .f64 t] w fun e w' => e = .returned (.agg #[.float .f64 (tmix r r' t), .float .f64 (tmix g g' t), .float .f64 (tmix b b' t)]) ∧ Below w.heap.size w w' := by
  have hu := tpart_le t ht
  have hO := ONE_lt
  have hn : ¬ INF < rung (tpart t) := small_ok (by omega)
  have c0 : (FloatKind.f64.format.order (tpart t) 0 == some .eq) = false := by
    rw [f_nought_eq hn, small_sval (by omega)]
    simp only [decide_eq_false_iff_not]
    intro h
    have := val_lt (r := 0) (s := tpart t) (by omega)
    rw [val_zero] at this
    omega
  have c1 : (FloatKind.f64.format.order (tpart t) 4607182418800017408 == some .eq) = false := by
    rw [f_one_eq hn, small_sval (by omega)]
    simp only [decide_eq_false_iff_not]
    intro h
    exact h1 (val_inj (by omega))
  have q1 := Lib.hid (show tmix r r' t = tbetween (tpart r) (tpart r') (tpart t) by unfold tmix; rw [if_neg h0, if_neg h1])
  have q2 := Lib.hid (show tmix g g' t = tbetween (tpart g) (tpart g') (tpart t) by unfold tmix; rw [if_neg h0, if_neg h1])
  have q3 := Lib.hid (show tmix b b' t = tbetween (tpart b) (tpart b') (tpart t) by unfold tmix; rw [if_neg h0, if_neg h1])
  have p1 := tpart_le r hr
  have p2 := tpart_le g hg
  have p3 := tpart_le b hb
  have p4 := tpart_le r' hr'
  have p5 := tpart_le g' hg'
  have p6 := tpart_le b' hb'
  clear h0 h1 hO hn
  go_enter Try.func15, Try.ntmps15
  go_upto_region 6 with (go_at_call 10; refine (part_any _ ht _).mono ?_; rintro e w' ⟨rfl, rfl⟩)
  go_cut [8, 9] (fun s8 s9 wx => ∃ gg hh : Nat, s8 = .pointer (some ⟨gg, 0, none⟩) ∧ s9 = .pointer (some ⟨hh, 0, none⟩) ∧ wx.cell? ⟨gg, 0, none⟩ = some (.float .f64 (tpart r)) ∧ wx.cell? ⟨gg, 1, none⟩ = some (.float .f64 (tpart g)) ∧ wx.cell? ⟨gg, 2, none⟩ = some (.float .f64 (tpart b)) ∧ wx.cell? ⟨hh, 0, none⟩ = some (.float .f64 (tpart r')) ∧ wx.cell? ⟨hh, 1, none⟩ = some (.float .f64 (tpart g')) ∧ wx.cell? ⟨hh, 2, none⟩ = some (.float .f64 (tpart b')) ∧ wx.cell? ⟨w.heap.size + 2, 0, none⟩ = some (.float .f64 0) ∧ wx.cell? ⟨w.heap.size + 2, 1, none⟩ = some (.float .f64 0) ∧ wx.cell? ⟨w.heap.size + 2, 2, none⟩ = some (.float .f64 0) ∧ wx.frozen? ⟨w.heap.size + 2, 0, none⟩ = false ∧ wx.frozen? ⟨w.heap.size + 2, 1, none⟩ = false ∧ wx.frozen? ⟨w.heap.size + 2, 2, none⟩ = false ∧ Below w.heap.size w wx)
  case first =>
    go_region_held3 (fun w' => w'.cell? ⟨w.heap.size, 0, none⟩ = some (.float .f64 r) ∧ w'.cell? ⟨w.heap.size, 1, none⟩ = some (.float .f64 g) ∧ w'.cell? ⟨w.heap.size, 2, none⟩ = some (.float .f64 b) ∧ w'.cell? ⟨w.heap.size + 1, 0, none⟩ = some (.float .f64 r') ∧ w'.cell? ⟨w.heap.size + 1, 1, none⟩ = some (.float .f64 g') ∧ w'.cell? ⟨w.heap.size + 1, 2, none⟩ = some (.float .f64 b'))
      (first | (simp [go_sem]; done) | (simp [*, go_sem]; done) | go_keep)
      (first | (go_at_call_of 13 (Value.agg #[Value.float .f64 r', Value.float .f64 g', Value.float .f64 b']); refine (fit_exact r' g' b' hr' hg' hb' _).mono ?_; rintro e _ ⟨rfl, rfl⟩) | (go_at_call_of 13 (Value.agg #[Value.float .f64 r, Value.float .f64 g, Value.float .f64 b]); refine (fit_exact r g b hr hg hb _).mono ?_; rintro e _ ⟨rfl, rfl⟩))
    all_goals (go_wp2_with fail; go_meet; exact ⟨_, _, rfl, rfl, by simp [go_sem], by simp [go_sem], by simp [go_sem], by simp [go_sem], by simp [go_sem], by simp [go_sem], by simp [go_sem], by simp [go_sem], by simp [go_sem], by simp [go_sem], by simp [go_sem], by simp [go_sem], (by repeat (first | exact Below.refl _ _ | (refine bnew ?_ _) | (refine Below.drew ?_) | (refine below_drewN ?_ _) | (refine Below.setCell ?_ (by first | (simp; done) | (simp; omega)) _) | (refine bthen ?_ (by assumption)) | assumption))⟩)
  case rest =>
    obtain ⟨gg, hh, rfl, rfl, k0, k1, k2, k3, k4, k5, k6, k7, k8, k9, ka, kb, kw⟩ := hcut
    go_wp2_with fail
    refine still_tail 19 (by kernel_rfl) (by kernel_rfl) ?_
    simp only [List.take_succ_cons, List.take_zero, List.drop_succ_cons, List.drop_zero]
    repeat (first | still_step | still_call (between_any _ _ _ (by assumption) (by assumption) (by assumption) _))
    refine wpStill_nil ?_
    go_wp2_with fail
    exact bodyPost_ret (v := .agg #[.float .f64 (tbetween (tpart r) (tpart r') (tpart t)), .float .f64 (tbetween (tpart g) (tpart g') (tpart t)), .float .f64 (tbetween (tpart b) (tpart b') (tpart t))]) (by simp [results, Try.results15, go_sem, *]) rfl ⟨by rw [q1.out, q2.out, q3.out], (by repeat (first | exact Below.refl _ _ | (refine bnew ?_ _) | (refine Below.drew ?_) | (refine below_drewN ?_ _) | (refine Below.setCell ?_ (by first | (simp; done) | (simp; omega)) _) | (refine bthen ?_ (by assumption)) | assumption))⟩
set_option maxHeartbeats 8000000 in
theorem refMix_mid (r g b r' g' b' t : Nat) (hr : r < 2 * S) (hg : g < 2 * S) (hb : b < 2 * S) (hr' : r' < 2 * S) (hg' : g' < 2 * S) (hb' : b' < 2 * S) (ht : t < 2 * S) (w : World) (h0 : ¬ tpart t = 0) (h1 : ¬ tpart t = ONE) :
    Calls Try.prog 16 #[.agg #[.float .f64 r, .float .f64 g, .float .f64 b], .agg #[.float .f64 r', .float .f64 g', .float .f64 b'], .float .f64 t] w fun e w' => e = .returned (.agg #[.float .f64 (tmix r r' t), .float .f64 (tmix g g' t), .float .f64 (tmix b b' t)]) ∧ Below w.heap.size w w' := by
  have hu := tpart_le t ht
  have hO := ONE_lt
  have hn : ¬ INF < rung (tpart t) := small_ok (by omega)
  have c0 : (FloatKind.f64.format.order (tpart t) 0 == some .eq) = false := by
    rw [f_nought_eq hn, small_sval (by omega)]
    simp only [decide_eq_false_iff_not]
    intro h
    have := val_lt (r := 0) (s := tpart t) (by omega)
    rw [val_zero] at this
    omega
  have c1 : (FloatKind.f64.format.order (tpart t) 4607182418800017408 == some .eq) = false := by
    rw [f_one_eq hn, small_sval (by omega)]
    simp only [decide_eq_false_iff_not]
    intro h
    exact h1 (val_inj (by omega))
  have q1 := Lib.hid (show tmix r r' t = tbetween (tpart r) (tpart r') (tpart t) by unfold tmix; rw [if_neg h0, if_neg h1])
  have q2 := Lib.hid (show tmix g g' t = tbetween (tpart g) (tpart g') (tpart t) by unfold tmix; rw [if_neg h0, if_neg h1])
  have q3 := Lib.hid (show tmix b b' t = tbetween (tpart b) (tpart b') (tpart t) by unfold tmix; rw [if_neg h0, if_neg h1])
  have p1 := tpart_le r hr
  have p2 := tpart_le g hg
  have p3 := tpart_le b hb
  have p4 := tpart_le r' hr'
  have p5 := tpart_le g' hg'
  have p6 := tpart_le b' hb'
  clear h0 h1 hO hn
  go_enter Try.func16, Try.ntmps16
  go_upto_region 6 with (go_at_call 11; refine (refPart_any _ _).mono ?_; rintro e w' ⟨rfl, rfl⟩)
  go_cut [8, 9] (fun s8 s9 wx => ∃ gg hh : Nat, s8 = .pointer (some ⟨gg, 0, none⟩) ∧ s9 = .pointer (some ⟨hh, 0, none⟩) ∧ wx.cell? ⟨gg, 0, none⟩ = some (.float .f64 (tpart r)) ∧ wx.cell? ⟨gg, 1, none⟩ = some (.float .f64 (tpart g)) ∧ wx.cell? ⟨gg, 2, none⟩ = some (.float .f64 (tpart b)) ∧ wx.cell? ⟨hh, 0, none⟩ = some (.float .f64 (tpart r')) ∧ wx.cell? ⟨hh, 1, none⟩ = some (.float .f64 (tpart g')) ∧ wx.cell? ⟨hh, 2, none⟩ = some (.float .f64 (tpart b')) ∧ wx.cell? ⟨w.heap.size + 2, 0, none⟩ = some (.float .f64 0) ∧ wx.cell? ⟨w.heap.size + 2, 1, none⟩ = some (.float .f64 0) ∧ wx.cell? ⟨w.heap.size + 2, 2, none⟩ = some (.float .f64 0) ∧ wx.frozen? ⟨w.heap.size + 2, 0, none⟩ = false ∧ wx.frozen? ⟨w.heap.size + 2, 1, none⟩ = false ∧ wx.frozen? ⟨w.heap.size + 2, 2, none⟩ = false ∧ Below w.heap.size w wx)
  case first =>
    go_region_held3 (fun w' => w'.cell? ⟨w.heap.size, 0, none⟩ = some (.float .f64 r) ∧ w'.cell? ⟨w.heap.size, 1, none⟩ = some (.float .f64 g) ∧ w'.cell? ⟨w.heap.size, 2, none⟩ = some (.float .f64 b) ∧ w'.cell? ⟨w.heap.size + 1, 0, none⟩ = some (.float .f64 r') ∧ w'.cell? ⟨w.heap.size + 1, 1, none⟩ = some (.float .f64 g') ∧ w'.cell? ⟨w.heap.size + 1, 2, none⟩ = some (.float .f64 b'))
      (first | (simp [go_sem]; done) | (simp [*, go_sem]; done) | go_keep)
      (first | (go_at_call_of 14 (Value.agg #[Value.float .f64 r', Value.float .f64 g', Value.float .f64 b']); refine (refFit_exact r' g' b' hr' hg' hb' _).mono ?_; rintro e _ ⟨rfl, rfl⟩) | (go_at_call_of 14 (Value.agg #[Value.float .f64 r, Value.float .f64 g, Value.float .f64 b]); refine (refFit_exact r g b hr hg hb _).mono ?_; rintro e _ ⟨rfl, rfl⟩))
    all_goals (go_wp2_with fail; go_meet; exact ⟨_, _, rfl, rfl, by simp [go_sem], by simp [go_sem], by simp [go_sem], by simp [go_sem], by simp [go_sem], by simp [go_sem], by simp [go_sem], by simp [go_sem], by simp [go_sem], by simp [go_sem], by simp [go_sem], by simp [go_sem], (by repeat (first | exact Below.refl _ _ | (refine bnew ?_ _) | (refine Below.drew ?_) | (refine below_drewN ?_ _) | (refine Below.setCell ?_ (by first | (simp; done) | (simp; omega)) _) | (refine bthen ?_ (by assumption)) | assumption))⟩)
  case rest =>
    obtain ⟨gg, hh, rfl, rfl, k0, k1, k2, k3, k4, k5, k6, k7, k8, k9, ka, kb, kw⟩ := hcut
    go_wp2_with fail
    refine still_tail 19 (by kernel_rfl) (by kernel_rfl) ?_
    simp only [List.take_succ_cons, List.take_zero, List.drop_succ_cons, List.drop_zero]
    repeat (first | still_step | still_call (refOne_any _ _ _ (by assumption) (by assumption) (by assumption) _))
    refine wpStill_nil ?_
    go_wp2_with fail
    exact bodyPost_ret (v := .agg #[.float .f64 (tbetween (tpart r) (tpart r') (tpart t)), .float .f64 (tbetween (tpart g) (tpart g') (tpart t)), .float .f64 (tbetween (tpart b) (tpart b') (tpart t))]) (by simp [results, Try.results16, go_sem, *]) rfl ⟨by rw [q1.out, q2.out, q3.out], (by repeat (first | exact Below.refl _ _ | (refine bnew ?_ _) | (refine Below.drew ?_) | (refine below_drewN ?_ _) | (refine Below.setCell ?_ (by first | (simp; done) | (simp; omega)) _) | (refine bthen ?_ (by assumption)) | assumption))⟩
theorem mix_end0 (r g b r' g' b' t : Nat) (ht : t < 2 * S) (w : World) (h0 : tpart t = 0) :
    Calls Try.prog 15 #[.agg #[.float .f64 r, .float .f64 g, .float .f64 b], .agg #[.float .f64 r', .float .f64 g', .float .f64 b'], .float .f64 t] w fun e w' => e = .returned (.agg #[.float .f64 (tmix r r' t), .float .f64 (tmix g g' t), .float .f64 (tmix b b' t)]) ∧ Below w.heap.size w w' := by
  have hn : ¬ INF < rung 0 := small_ok (Nat.zero_le _)
  have c0 : (FloatKind.f64.format.order (tpart t) 0 == some .eq) = true := by
    rw [h0, f_nought_eq hn, small_sval (Nat.zero_le _), val_zero]; rfl
  have q1 := Lib.hid (show tmix r r' t = r by unfold tmix; rw [if_pos h0])
  have q2 := Lib.hid (show tmix g g' t = g by unfold tmix; rw [if_pos h0])
  have q3 := Lib.hid (show tmix b b' t = b by unfold tmix; rw [if_pos h0])
  clear hn h0
  go_enter Try.func15, Try.ntmps15
  go_wp2_with (first | (go_at_call 10; refine (part_any _ ht _).mono ?_; rintro e w' ⟨rfl, rfl⟩))
  exact bodyPost_ret (v := .agg #[.float .f64 r, .float .f64 g, .float .f64 b]) (by simp [results, Try.results15, go_sem]) rfl ⟨by rw [q1.out, q2.out, q3.out], (by repeat (first | exact Below.refl _ _ | (refine bnew ?_ _) | (refine Below.drew ?_) | (refine below_drewN ?_ _) | (refine bthen ?_ (by assumption))))⟩
theorem mix_end1 (r g b r' g' b' t : Nat) (ht : t < 2 * S) (w : World) (h1 : tpart t = ONE) :
    Calls Try.prog 15 #[.agg #[.float .f64 r, .float .f64 g, .float .f64 b], .agg #[.float .f64 r', .float .f64 g', .float .f64 b'], .float .f64 t] w fun e w' => e = .returned (.agg #[.float .f64 (tmix r r' t), .float .f64 (tmix g g' t), .float .f64 (tmix b b' t)]) ∧ Below w.heap.size w w' := by
  have hn : ¬ INF < rung ONE := small_ok (Nat.le_of_lt ONE_lt)
  have c0 : (FloatKind.f64.format.order (tpart t) 0 == some .eq) = false := by
    rw [h1, f_nought_eq hn, small_sval (Nat.le_of_lt ONE_lt)]
    have := val_lt (r := 0) (s := ONE) (by decide)
    rw [val_zero] at this
    simp only [decide_eq_false_iff_not]; omega
  have c1 : (FloatKind.f64.format.order (tpart t) 4607182418800017408 == some .eq) = true := by
    rw [h1, f_one_eq hn, small_sval (Nat.le_of_lt ONE_lt)]; simp
  have q1 := Lib.hid (show tmix r r' t = r' by unfold tmix; rw [if_neg (by rw [h1]; decide), if_pos h1])
  have q2 := Lib.hid (show tmix g g' t = g' by unfold tmix; rw [if_neg (by rw [h1]; decide), if_pos h1])
  have q3 := Lib.hid (show tmix b b' t = b' by unfold tmix; rw [if_neg (by rw [h1]; decide), if_pos h1])
  clear hn h1
  go_enter Try.func15, Try.ntmps15
  go_wp2_with (first | (go_at_call 10; refine (part_any _ ht _).mono ?_; rintro e w' ⟨rfl, rfl⟩))
  exact bodyPost_ret (v := .agg #[.float .f64 r', .float .f64 g', .float .f64 b']) (by simp [results, Try.results15, go_sem]) rfl ⟨by rw [q1.out, q2.out, q3.out], (by repeat (first | exact Below.refl _ _ | (refine bnew ?_ _) | (refine Below.drew ?_) | (refine below_drewN ?_ _) | (refine bthen ?_ (by assumption))))⟩
theorem mix_any (r g b r' g' b' t : Nat) (hr : r < 2 * S) (hg : g < 2 * S) (hb : b < 2 * S) (hr' : r' < 2 * S) (hg' : g' < 2 * S) (hb' : b' < 2 * S) (ht : t < 2 * S) (w : World) :
    Calls Try.prog 15 #[.agg #[.float .f64 r, .float .f64 g, .float .f64 b], .agg #[.float .f64 r', .float .f64 g', .float .f64 b'], .float .f64 t] w fun e w' => e = .returned (.agg #[.float .f64 (tmix r r' t), .float .f64 (tmix g g' t), .float .f64 (tmix b b' t)]) ∧ Below w.heap.size w w' := by
  by_cases h0 : tpart t = 0
  · exact mix_end0 r g b r' g' b' t ht w h0
  · by_cases h1 : tpart t = ONE
    · exact mix_end1 r g b r' g' b' t ht w h1
    · exact mix_mid r g b r' g' b' t hr hg hb hr' hg' hb' ht w h0 h1
theorem refMix_end0 (r g b r' g' b' t : Nat) (ht : t < 2 * S) (w : World) (h0 : tpart t = 0) :
    Calls Try.prog 16 #[.agg #[.float .f64 r, .float .f64 g, .float .f64 b], .agg #[.float .f64 r', .float .f64 g', .float .f64 b'], .float .f64 t] w fun e w' => e = .returned (.agg #[.float .f64 (tmix r r' t), .float .f64 (tmix g g' t), .float .f64 (tmix b b' t)]) ∧ Below w.heap.size w w' := by
  have hn : ¬ INF < rung 0 := small_ok (Nat.zero_le _)
  have c0 : (FloatKind.f64.format.order (tpart t) 0 == some .eq) = true := by
    rw [h0, f_nought_eq hn, small_sval (Nat.zero_le _), val_zero]; rfl
  have q1 := Lib.hid (show tmix r r' t = r by unfold tmix; rw [if_pos h0])
  have q2 := Lib.hid (show tmix g g' t = g by unfold tmix; rw [if_pos h0])
  have q3 := Lib.hid (show tmix b b' t = b by unfold tmix; rw [if_pos h0])
  clear hn h0
  go_enter Try.func16, Try.ntmps16
  go_wp2_with (first | (go_at_call 11; refine (refPart_any _ _).mono ?_; rintro e w' ⟨rfl, rfl⟩))
  exact bodyPost_ret (v := .agg #[.float .f64 r, .float .f64 g, .float .f64 b]) (by simp [results, Try.results16, go_sem]) rfl ⟨by rw [q1.out, q2.out, q3.out], (by repeat (first | exact Below.refl _ _ | (refine bnew ?_ _) | (refine Below.drew ?_) | (refine below_drewN ?_ _) | (refine bthen ?_ (by assumption))))⟩
theorem refMix_end1 (r g b r' g' b' t : Nat) (ht : t < 2 * S) (w : World) (h1 : tpart t = ONE) :
    Calls Try.prog 16 #[.agg #[.float .f64 r, .float .f64 g, .float .f64 b], .agg #[.float .f64 r', .float .f64 g', .float .f64 b'], .float .f64 t] w fun e w' => e = .returned (.agg #[.float .f64 (tmix r r' t), .float .f64 (tmix g g' t), .float .f64 (tmix b b' t)]) ∧ Below w.heap.size w w' := by
  have hn : ¬ INF < rung ONE := small_ok (Nat.le_of_lt ONE_lt)
  have c0 : (FloatKind.f64.format.order (tpart t) 0 == some .eq) = false := by
    rw [h1, f_nought_eq hn, small_sval (Nat.le_of_lt ONE_lt)]
    have := val_lt (r := 0) (s := ONE) (by decide)
    rw [val_zero] at this
    simp only [decide_eq_false_iff_not]; omega
  have c1 : (FloatKind.f64.format.order (tpart t) 4607182418800017408 == some .eq) = true := by
    rw [h1, f_one_eq hn, small_sval (Nat.le_of_lt ONE_lt)]; simp
  have q1 := Lib.hid (show tmix r r' t = r' by unfold tmix; rw [if_neg (by rw [h1]; decide), if_pos h1])
  have q2 := Lib.hid (show tmix g g' t = g' by unfold tmix; rw [if_neg (by rw [h1]; decide), if_pos h1])
  have q3 := Lib.hid (show tmix b b' t = b' by unfold tmix; rw [if_neg (by rw [h1]; decide), if_pos h1])
  clear hn h1
  go_enter Try.func16, Try.ntmps16
  go_wp2_with (first | (go_at_call 11; refine (refPart_any _ _).mono ?_; rintro e w' ⟨rfl, rfl⟩))
  exact bodyPost_ret (v := .agg #[.float .f64 r', .float .f64 g', .float .f64 b']) (by simp [results, Try.results16, go_sem]) rfl ⟨by rw [q1.out, q2.out, q3.out], (by repeat (first | exact Below.refl _ _ | (refine bnew ?_ _) | (refine Below.drew ?_) | (refine below_drewN ?_ _) | (refine bthen ?_ (by assumption))))⟩
theorem refMix_any (r g b r' g' b' t : Nat) (hr : r < 2 * S) (hg : g < 2 * S) (hb : b < 2 * S) (hr' : r' < 2 * S) (hg' : g' < 2 * S) (hb' : b' < 2 * S) (ht : t < 2 * S) (w : World) :
    Calls Try.prog 16 #[.agg #[.float .f64 r, .float .f64 g, .float .f64 b], .agg #[.float .f64 r', .float .f64 g', .float .f64 b'], .float .f64 t] w fun e w' => e = .returned (.agg #[.float .f64 (tmix r r' t), .float .f64 (tmix g g' t), .float .f64 (tmix b b' t)]) ∧ Below w.heap.size w w' := by
  by_cases h0 : tpart t = 0
  · exact refMix_end0 r g b r' g' b' t ht w h0
  · by_cases h1 : tpart t = ONE
    · exact refMix_end1 r g b r' g' b' t ht w h1
    · exact refMix_mid r g b r' g' b' t hr hg hb hr' hg' hb' ht w h0 h1

theorem of_some : ∀ n : Nat, n < 256 → (Ieee.double.div (FloatKind.f64.nearest (n : Int)) C255).isSome = true := by decide +kernel
theorem of_any (n : Nat) (h : n < 256) (w : World) :
    Calls Try.prog 19 #[.int .u8 n] w fun e w' => e = .returned (.float .f64 (tof n)) ∧ w = w' := by
  obtain ⟨q, hq⟩ := Option.isSome_iff_exists.1 (of_some n h)
  have m1 : ∀ t w, (binOp .quo t (.float .f64 (floatOfInt .f64 (n : Int))) (.float .f64 4643176031446892544)).run Try.prog w = .ok (.float .f64 q) w := fun t w => run_float_arith w .quo t .f64 _ _ q hq
  have e1 := Lib.hid (show tof n = q by unfold tof; exact congrArg (fun x => Option.getD x 0) hq)
  clear hq
  go_enter Try.func19, Try.ntmps19
  go_wp2_with (simp only [m1])
  go_ret
  exact ⟨ret_float e1.out.symm, rfl⟩
theorem refOf_any (n : Nat) (h : n < 256) (w : World) :
    Calls Try.prog 20 #[.int .u8 n] w fun e w' => e = .returned (.float .f64 (tof n)) ∧ w = w' := by
  obtain ⟨q, hq⟩ := Option.isSome_iff_exists.1 (of_some n h)
  have m1 : ∀ t w, (binOp .quo t (.float .f64 (floatOfInt .f64 (n : Int))) (.float .f64 4643176031446892544)).run Try.prog w = .ok (.float .f64 q) w := fun t w => run_float_arith w .quo t .f64 _ _ q hq
  have e1 := Lib.hid (show tof n = q by unfold tof; exact congrArg (fun x => Option.getD x 0) hq)
  clear hq
  go_enter Try.func20, Try.ntmps20
  go_wp2_with (simp only [m1])
  go_ret
  exact ⟨ret_float e1.out.symm, rfl⟩
theorem mathNaN_any (w : World) : Calls Try.prog 26 #[] w fun e w' => e = .returned (.float .f64 9221120237041090561) ∧ w = w' := by
  have e2 := ext_from
  go_enter Try.func26, Try.ntmps26
  go_wp2
  go_ret
  exact ⟨rfl, rfl⟩
theorem copy_any (w : World) : Calls Try.prog 29 #[.float .f64 0, .float .f64 13830554455654793216] w fun e w' => e = .returned (.float .f64 9223372036854775808) ∧ w = w' := by
  have e1 := ext_bits
  have e2 := ext_from
  have e3 := Lib.hid (show (bits .or .u64 (bits .andNot .u64 ((0 : Nat) : Int) 9223372036854775808) (bits .and .u64 ((13830554455654793216 : Nat) : Int) 9223372036854775808)).toNat = 9223372036854775808 by decide +kernel)
  go_enter Try.func29, Try.ntmps29
  go_wp2
  go_ret
  exact ⟨ret_float e3.out, rfl⟩

/-! ### What the law's own examples come to -/
theorem t_1 : tbyte 4602678819172646912 = 128 := by decide +kernel
theorem t_2 : tpart 9221120237041090561 = 0 := by decide +kernel
theorem t_3 : tpart 4611686018427387904 = 4607182418800017408 := by decide +kernel
theorem t_4 : tlight 4607182418800017408 4607182418800017408 4607182418800017408 = 4607182418800017408 := by decide +kernel
theorem t_5 : tmix 0 4607182418800017408 4598175219545276416 = 4598175219545276416 := by decide +kernel
theorem t_6 : tof 255 = 4607182418800017408 := by decide +kernel
theorem t_7 : tfar (tlight 4607182418800017408 4607182418800017408 4607182418800017408) (tlight 0 0 0) = 4607182418800017408 := by decide +kernel
theorem t_8 : csame 9221120237041090561 0 0 9221120237041090561 0 0 = true := by decide +kernel
theorem t_9 : csame 0 0 0 9223372036854775808 0 0 = false := by decide +kernel
theorem t_10 : tpart 4613937818241073152 = 4607182418800017408 := by decide +kernel
end Go.Proofs.Ytdpnpfgejfhcgaa
