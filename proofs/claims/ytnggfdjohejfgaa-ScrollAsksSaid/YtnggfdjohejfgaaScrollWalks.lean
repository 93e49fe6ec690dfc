/- The walks over package scroll and its reference. -/
import Derived.Test.YtnggfdjohejfgaaTintWalks2
import Derived.Test.YtnggfdjohejfgaaScrollLemmas
import Derived.Deep.RegionWith
set_option linter.unusedVariables false
set_option linter.unusedSimpArgs false
namespace Go.Proofs.Ytnggfdjohejfgaa
open Go.RowKit Fl

theorem r_int_float (n : Nat) : ∀ w, (convert 3 22 (.int .i64 (n : Int))).run Try.prog w = .ok (.float .f64 (fint n)) w := by
  intro w
  have h := run_convert_int_float (P := Try.prog) w 3 22 .i64 .f64 (n : Int) (by rw [Try.underlying3]; rfl) Try.underlying22
  rw [h]; unfold floatOfInt; rw [fint_eq]
theorem r_i64 {x : Nat} (h : x < INF) (h2 : whole x ≤ 1048576) : ∀ w, (convert 22 3 (.float .f64 x)).run Try.prog w = .ok (.int .i64 (whole x)) w :=
  fun w => run_convert_float_int w 22 3 .f64 .i64 x (whole x : Int) (by rw [Try.underlying22]; rfl) Try.underlying3 (by
    unfold floatToIntVal; rw [toInt_pos h]; simp only []; rw [if_pos]; exact ⟨by show (-9223372036854775808 : Int) ≤ _; omega, by show _ ≤ (9223372036854775807 : Int); omega⟩)

theorem nearest_any (f n : Nat) (hf : f < 2 * S) (hn : n ≤ 1048576) (w : World) :
    Calls Try.prog 56 #[.float .f64 f, .int .i64 n] w fun e w' => e = .returned (.int .i64 (tnear f n)) ∧ w = w' := by
  have hB := B_num
  have c1 := r_int_float n
  have h1 := near_mul hf (show n < 2 * B by omega)
  have h2 := near_add hf (show 2 * n + 1 < 2 * B by omega)
  have h3 := near_fin hf (show 2 * n + 1 < 2 * B by omega)
  have h4 := near_le hf (show 2 * n + 1 < 2 * B by omega)
  have h5 := fint_lt (show n < 2 * B by omega)
  have m1 := r_mul (y := fint n) (fin_small (tpart_lt f hf)) (fin_small h5)
  have m2 := r_add (x := mulW (tpart f) (fint n)) (y := 4602678819172646912) (fin_small (by omega)) (fin_small HALF_lt)
  have m3 := ext_floor (addW (mulW (tpart f) (fint n)) 4602678819172646912) h3
  have e0 : whole (rq 0 (whole (addW (mulW (tpart f) (fint n)) 4602678819172646912) * 2 ^ K)) = tnear f n := whole_floor (show tnear f n < 2 * B by omega)
  have e1 : rq 0 (whole (addW (mulW (tpart f) (fint n)) 4602678819172646912) * 2 ^ K) < INF := fint_lt (show tnear f n < 2 * B by omega)
  have m4 := r_i64 e1 (by omega)
  rw [e0] at m4
  clear h1 h2 h3 h4 h5 hB e0 e1 hn
  go_enter Try.func56, Try.ntmps56
  go_wp2_with (first | (go_at_call 15; refine (part_any _ (by assumption) _).mono ?_; rintro e w' ⟨rfl, rfl⟩) | (simp only [c1]) | (simp only [m1]) | (simp only [m2]) | (simp only [m3]) | (simp only [m4]) | go_in)
  go_ret
  exact ⟨rfl, rfl⟩
theorem refNear_any (f n : Nat) (hf : f < 2 * S) (hn : n ≤ 1048576) (w : World) :
    Calls Try.prog 58 #[.float .f64 f, .int .i64 n] w fun e w' => e = .returned (.int .i64 (tnear f n)) ∧ w = w' := by
  have hB := B_num
  have c1 := r_int_float n
  have h1 := near_mul hf (show n < 2 * B by omega)
  have h3 := near_fin hf (show 2 * n + 1 < 2 * B by omega)
  have h4 := near_le hf (show 2 * n + 1 < 2 * B by omega)
  have h5 := fint_lt (show n < 2 * B by omega)
  have m1 := r_mul (y := fint n) (fin_small (tpart_lt f hf)) (fin_small h5)
  have m2 := r_add (x := mulW (tpart f) (fint n)) (y := 4602678819172646912) (fin_small (by omega)) (fin_small HALF_lt)
  have m4 := r_i64 (x := addW (mulW (tpart f) (fint n)) 4602678819172646912) h3 (show tnear f n ≤ 1048576 by omega)
  clear h1 h3 h4 h5 hB hn
  go_enter Try.func58, Try.ntmps58
  go_wp2_with (first | (go_at_call 16; refine (refPart_any _ _).mono ?_; rintro e w' ⟨rfl, rfl⟩) | (simp only [c1]) | (simp only [m1]) | (simp only [m2]) | (simp only [m4]) | go_in)
  go_ret
  exact ⟨rfl, rfl⟩
theorem nearest_at (f : Nat) (z : Int) (n : Nat) (hz : z = n) (hf : f < 2 * S) (hn : n ≤ 1048576) (w : World) :
    Calls Try.prog 56 #[.float .f64 f, .int .i64 z] w fun e w' => e = .returned (.int .i64 (tnear f n)) ∧ w = w' := by
  subst hz; exact nearest_any f n hf hn w
theorem refNear_at (f : Nat) (z : Int) (n : Nat) (hz : z = n) (hf : f < 2 * S) (hn : n ≤ 1048576) (w : World) :
    Calls Try.prog 58 #[.float .f64 f, .int .i64 z] w fun e w' => e = .returned (.int .i64 (tnear f n)) ∧ w = w' := by
  subst hz; exact refNear_any f n hf hn w

/-- lines and rows, as they count -/
def kept (l : Int) : Nat := (min (max l 1) 1048576).toNat
theorem kept_lo {l : Int} (h : l < 1) : kept l = 1 := by unfold kept; omega
theorem kept_in {l : Int} (h : 1 ≤ l) (h2 : l ≤ 1048576) : (kept l : Int) = l := by unfold kept; omega
theorem kept_mid {k : Nat} (h : 1 ≤ k) (h2 : k ≤ 1048576) : kept (k : Int) = k := by unfold kept; omega
theorem kept_hi {l : Int} (h : 1048576 < l) : kept l = 1048576 := by unfold kept; omega
theorem kept_le (l : Int) : 1 ≤ kept l ∧ kept l ≤ 1048576 := by unfold kept; omega
theorem kept_cases (l : Int) : l < 1 ∨ (∃ k : Nat, 1 ≤ k ∧ k ≤ 1048576 ∧ l = (k : Int)) ∨ 1048576 < l := by
  by_cases h : l < 1
  · exact .inl h
  · by_cases h2 : 1048576 < l
    · exact .inr (.inr h2)
    · exact .inr (.inl ⟨l.toNat, by omega, by omega, by omega⟩)
theorem ret_int {k : IntKind} {a b : Int} (h : a = b) : Ending.returned (.int k a) = .returned (.int k b) := by rw [h]
/-- what the closure answers, and the reference's own -/
theorem clamp_any (n lo hi : Int) (p q : Addr) (w : World) (h2 : w.cell? p = some (.int .i64 lo)) (h3 : w.cell? q = some (.int .i64 hi)) :
    Calls Try.prog 61 #[.int .i64 n, .pointer (some p), .pointer (some q)] w fun e w' => e = .returned (.int .i64 (max lo (min hi n))) ∧ w = w' := by
  by_cases c1 : n < hi
  · have m1 := Lib.hid (show min hi n = n by omega)
    by_cases c2 : lo < n
    · have m2 := Lib.hid (show max lo n = n by omega)
      go_enter Try.func61, Try.ntmps61
      go_wp2
      go_ret
      exact ⟨ret_int (by rw [m1.out, m2.out]), rfl⟩
    · have m2 := Lib.hid (show max lo n = lo by omega)
      go_enter Try.func61, Try.ntmps61
      go_wp2
      go_ret
      exact ⟨ret_int (by rw [m1.out, m2.out]), rfl⟩
  · have m1 := Lib.hid (show min hi n = hi by omega)
    by_cases c2 : lo < hi
    · have m2 := Lib.hid (show max lo hi = hi by omega)
      go_enter Try.func61, Try.ntmps61
      go_wp2
      go_ret
      exact ⟨ret_int (by rw [m1.out, m2.out]), rfl⟩
    · have m2 := Lib.hid (show max lo hi = lo by omega)
      go_enter Try.func61, Try.ntmps61
      go_wp2
      go_ret
      exact ⟨ret_int (by rw [m1.out, m2.out]), rfl⟩
theorem within_any (lo hi : Int) (w : World) :
    Calls Try.prog 55 #[.int .i64 lo, .int .i64 hi] w fun e w' => e = .returned (.func (Fn.func 61) #[] #[.pointer (some ⟨w.heap.size, 0, none⟩), .pointer (some ⟨w.heap.size + 1, 0, none⟩)]) ∧ (w.alloc (.cells #[.int .i64 lo] 3)).alloc (.cells #[.int .i64 hi] 3) = w' := by
  go_enter Try.func55, Try.ntmps55
  go_wp2
  go_ret
  exact ⟨rfl, rfl⟩
theorem refKept_any (l : Int) (w : World) :
    Calls Try.prog 57 #[.int .i64 l] w fun e w' => e = .returned (.int .i64 (kept l)) ∧ w = w' := by
  by_cases h : l < 1
  · have hk := Lib.hid (show (kept l : Int) = 1 by rw [kept_lo h]; rfl)
    go_enter Try.func57, Try.ntmps57
    go_wp2
    go_ret
    exact ⟨ret_int hk.out.symm, rfl⟩
  · by_cases h2 : l ≤ 1048576
    · have hk := Lib.hid (kept_in (show 1 ≤ l by omega) h2)
      go_enter Try.func57, Try.ntmps57
      go_wp2
      go_ret
      exact ⟨ret_int hk.out.symm, rfl⟩
    · have hk := Lib.hid (show (kept l : Int) = 1048576 by unfold kept; omega)
      go_enter Try.func57, Try.ntmps57
      go_wp2
      go_ret
      exact ⟨ret_int hk.out.symm, rfl⟩
theorem clamp_kept (l : Int) : max 1 (min 1048576 l) = (kept l : Int) := by unfold kept; omega
theorem line_any (f : Nat) (l : Int) (hf : f < 2 * S) (w : World) :
    Calls Try.prog 40 #[.float .f64 f, .int .i64 l] w fun e w' => e = .returned (.int .i64 (tnear f (kept l - 1))) ∧ Below w.heap.size w w' := by
  obtain ⟨k1, k2⟩ := kept_le l
  go_enter Try.func40, Try.ntmps40
  go_wp2_with (first | (go_at_call 55; refine (within_any _ _ _).mono ?_; rintro e w' ⟨rfl, rfl⟩) | (go_at_call 61; refine (clamp_any l 1 1048576 _ _ _ (by simp) (by simp)).mono ?_; rintro e w' ⟨rfl, rfl⟩; rw [clamp_kept]) | (go_at_call 56; refine (nearest_at f _ (kept l - 1) (by omega) hf (by omega) _).mono ?_; rintro e w' ⟨rfl, rfl⟩) | go_in)
  go_ret
  exact ⟨rfl, (by repeat (first | exact Below.refl _ _ | (refine bnew ?_ _) | (refine Below.drew ?_) | (refine below_drewN ?_ _) | (refine bthen ?_ (by assumption))))⟩
theorem refLine_any (f : Nat) (l : Int) (hf : f < 2 * S) (w : World) :
    Calls Try.prog 41 #[.float .f64 f, .int .i64 l] w fun e w' => e = .returned (.int .i64 (tnear f (kept l - 1))) ∧ Below w.heap.size w w' := by
  obtain ⟨k1, k2⟩ := kept_le l
  go_enter Try.func41, Try.ntmps41
  go_wp2_with (first | (go_at_call 57; refine (refKept_any l _).mono ?_; rintro e w' ⟨rfl, rfl⟩) | (go_at_call 58; refine (refNear_at f _ (kept l - 1) (by omega) hf (by omega) _).mono ?_; rintro e w' ⟨rfl, rfl⟩) | go_in)
  go_ret
  exact ⟨rfl, (by repeat (first | exact Below.refl _ _ | (refine bnew ?_ _) | (refine Below.drew ?_) | (refine below_drewN ?_ _) | (refine bthen ?_ (by assumption))))⟩

/-- a line, as it counts -/
def ck (line : Int) (L : Nat) : Nat := (min (max line 0) (L : Int)).toNat
theorem ck_le (line : Int) (L : Nat) : ck line L ≤ L := by unfold ck; omega
theorem r_div {a b : Nat} (ha : a < INF) (hb : b < INF) (h0 : b ≠ 0) : ∀ t w, (binOp .quo t (.float .f64 a) (.float .f64 b)).run Try.prog w = .ok (.float .f64 (divW a b)) w :=
  fun t w => run_float_arith w .quo t .f64 a b _ (div_fin ha hb h0)
theorem fint_ne {n : Nat} (h : 1 ≤ n) (h2 : n ≤ 1048576) : fint n ≠ 0 := by
  intro e
  have hB := B_num
  have := val_fint (show n < 2 * B by omega)
  rw [e, val_zero] at this
  have := Nat.mul_pos h (Nat.two_pow_pos K)
  omega
theorem fint_fin {n : Nat} (h2 : n ≤ 1048576) : fint n < INF := by
  have hB := B_num
  exact fint_lt (by omega)
def tplace (line lines : Int) : Nat := if kept lines = 1 then 0 else divW (fint (ck line (kept lines - 1))) (fint (kept lines - 1))
theorem clamp_ck (line : Int) (L : Nat) : max 0 (min (L : Int) line) = (ck line L : Int) := by unfold ck; omega
theorem f_int (n : Nat) : floatOfInt .f64 (n : Int) = fint n := by unfold floatOfInt; exact fint_eq n
set_option maxRecDepth 100000 in
theorem place_any (line lines : Int) (w : World) :
    Calls Try.prog 42 #[.int .i64 line, .int .i64 lines] w fun e w' => e = .returned (.float .f64 (tplace line lines)) ∧ Below w.heap.size w w' := by
  obtain ⟨k1, k2⟩ := kept_le lines
  obtain ⟨L, hL⟩ : ∃ L, L = kept lines - 1 := ⟨_, rfl⟩
  have eL : (kept lines : Int) - 1 = (L : Int) := by omega
  by_cases h0 : L = 0
  · have Q := Lib.hid (show tplace line lines = 0 by unfold tplace; rw [if_pos (by omega)])
    subst h0
    clear hL
    go_enter Try.func42, Try.ntmps42
    go_wp2_with (first | (go_at_call 55; refine (within_any _ _ _).mono ?_; rintro e w' ⟨rfl, rfl⟩) | (go_at_call 61; refine (clamp_any lines 1 1048576 _ _ _ (by simp) (by simp)).mono ?_; rintro e w' ⟨rfl, rfl⟩; rw [clamp_kept]) | go_in)
    go_ret
    exact ⟨ret_float Q.out.symm, (by repeat (first | exact Below.refl _ _ | (refine bnew ?_ _) | (refine Below.drew ?_) | (refine below_drewN ?_ _) | (refine bthen ?_ (by assumption))))⟩
  · have hj := ck_le line L
    have Q := Lib.hid (show tplace line lines = divW (fint (ck line L)) (fint L) by unfold tplace; rw [if_neg (by omega), ← hL])
    have d1 := r_div (a := fint (ck line L)) (b := fint L) (fint_fin (by omega)) (fint_fin (by omega)) (fint_ne (by omega) (by omega))
    have c1 := f_int (ck line L)
    have c2 := f_int L
    have ne : ((L : Int) == 0) = false := by simp; omega
    clear hL hj
    go_enter Try.func42, Try.ntmps42
    go_wp2_with (first | (go_at_call 55; refine (within_any _ _ _).mono ?_; rintro e w' ⟨rfl, rfl⟩) | (go_at_call_of 61 (Value.int .i64 lines); refine (clamp_any lines 1 1048576 _ _ _ (by simp) (by simp)).mono ?_; rintro e w' ⟨rfl, rfl⟩; rw [clamp_kept]) | (go_at_call 61; refine (clamp_any line 0 L _ _ _ (by simp [go_sem]) (by simp [go_sem])).mono ?_; rintro e w' ⟨rfl, rfl⟩; rw [clamp_ck]) | (simp only [d1]) | go_in)
    go_ret
    exact ⟨ret_float Q.out.symm, (by repeat (first | exact Below.refl _ _ | (refine bnew ?_ _) | (refine Below.drew ?_) | (refine below_drewN ?_ _) | (refine bthen ?_ (by assumption))))⟩
set_option maxRecDepth 100000 in
theorem refPlace_any (line lines : Int) (w : World) :
    Calls Try.prog 43 #[.int .i64 line, .int .i64 lines] w fun e w' => e = .returned (.float .f64 (tplace line lines)) ∧ Below w.heap.size w w' := by
  obtain ⟨k1, k2⟩ := kept_le lines
  have i1 : (1 : Int) ≤ (kept lines : Int) := by omega
  have i2 : (kept lines : Int) ≤ 1048576 := by omega
  by_cases h0 : kept lines = 1
  · have Q := Lib.hid (show tplace line lines = 0 by unfold tplace; rw [if_pos h0])
    have ne : ((kept lines : Int) == 1) = true := by simp; omega
    clear h0 k1 k2
    go_enter Try.func43, Try.ntmps43
    go_wp2_with (first | (go_at_call 57; refine (refKept_any lines _).mono ?_; rintro e w' ⟨rfl, rfl⟩) | go_in)
    go_ret
    exact ⟨ret_float Q.out.symm, (by repeat (first | exact Below.refl _ _ | (refine bnew ?_ _) | (refine Below.drew ?_) | (refine below_drewN ?_ _) | (refine bthen ?_ (by assumption))))⟩
  · have hj := ck_le line (kept lines - 1)
    have Q := Lib.hid (show tplace line lines = divW (fint (ck line (kept lines - 1))) (fint (kept lines - 1)) by unfold tplace; rw [if_neg h0])
    have d1 := r_div (a := fint (ck line (kept lines - 1))) (b := fint (kept lines - 1)) (fint_fin (by omega)) (fint_fin (by omega)) (fint_ne (by omega) (by omega))
    have ne : ((kept lines : Int) == 1) = false := by simp; omega
    have i3 : (0 : Int) < (kept lines : Int) - 1 := by omega
    have c2 : floatOfInt .f64 ((kept lines : Int) - 1) = fint (kept lines - 1) := by rw [← f_int]; congr 1; omega
    by_cases a1 : line < 0
    · have c1 : floatOfInt .f64 0 = fint (ck line (kept lines - 1)) := by rw [← f_int]; congr 1; unfold ck; omega
      clear hj k1 k2 h0
      go_enter Try.func43, Try.ntmps43
      go_wp2_with (first | (go_at_call 57; refine (refKept_any lines _).mono ?_; rintro e w' ⟨rfl, rfl⟩) | (simp only [d1]) | go_in)
      go_ret
      exact ⟨ret_float Q.out.symm, (by repeat (first | exact Below.refl _ _ | (refine bnew ?_ _) | (refine Below.drew ?_) | (refine below_drewN ?_ _) | (refine bthen ?_ (by assumption))))⟩
    · have a3 : 0 ≤ line := by omega
      by_cases a2 : line ≤ (kept lines : Int) - 1
      · have c1 : floatOfInt .f64 line = fint (ck line (kept lines - 1)) := by rw [← f_int]; congr 1; unfold ck; omega
        clear hj k1 k2 h0
        go_enter Try.func43, Try.ntmps43
        go_wp2_with (first | (go_at_call 57; refine (refKept_any lines _).mono ?_; rintro e w' ⟨rfl, rfl⟩) | (simp only [d1]) | go_in)
        go_ret
        exact ⟨ret_float Q.out.symm, (by repeat (first | exact Below.refl _ _ | (refine bnew ?_ _) | (refine Below.drew ?_) | (refine below_drewN ?_ _) | (refine bthen ?_ (by assumption))))⟩
      · have J : ck line (kept lines - 1) = kept lines - 1 := by unfold ck; omega
        rw [J] at Q d1
        clear hj J k1 k2 h0
        go_enter Try.func43, Try.ntmps43
        go_wp2_with (first | (go_at_call 57; refine (refKept_any lines _).mono ?_; rintro e w' ⟨rfl, rfl⟩) | (simp only [d1]) | go_in)
        go_ret
        exact ⟨ret_float Q.out.symm, (by repeat (first | exact Below.refl _ _ | (refine bnew ?_ _) | (refine Below.drew ?_) | (refine below_drewN ?_ _) | (refine bthen ?_ (by assumption))))⟩

/-! ### Windows and bars -/
def winA (f : Nat) (lines rows : Int) : Nat := if kept lines ≤ kept rows then 0 else tnear f (kept lines - kept rows)
def winB (f : Nat) (lines rows : Int) : Nat := if kept lines ≤ kept rows then kept lines else tnear f (kept lines - kept rows) + kept rows
set_option maxRecDepth 100000 in
theorem window_any (f : Nat) (lines rows : Int) (hf : f < 2 * S) (w : World) :
    Calls Try.prog 35 #[.float .f64 f, .int .i64 lines, .int .i64 rows] w fun e w' => e = .returned (.tuple #[.int .i64 (winA f lines rows : Nat), .int .i64 (winB f lines rows : Nat)]) ∧ Below w.heap.size w w' := by
  obtain ⟨k1, k2⟩ := kept_le lines
  obtain ⟨k3, k4⟩ := kept_le rows
  have i1 : (1 : Int) ≤ (kept lines : Int) := by omega
  have i2 : (kept lines : Int) ≤ 1048576 := by omega
  have i3 : (1 : Int) ≤ (kept rows : Int) := by omega
  have i4 : (kept rows : Int) ≤ 1048576 := by omega
  by_cases h : kept lines ≤ kept rows
  · have h' : (kept lines : Int) ≤ (kept rows : Int) := by omega
    have q1 := Lib.hid (show winA f lines rows = 0 by unfold winA; rw [if_pos h])
    have q2 := Lib.hid (show winB f lines rows = kept lines by unfold winB; rw [if_pos h])
    go_enter Try.func35, Try.ntmps35
    go_wp2_with (first | (go_at_call 55; refine (within_any _ _ _).mono ?_; rintro e w' ⟨rfl, rfl⟩) | (go_at_call_of 61 (Value.int .i64 lines); refine (clamp_any lines 1 1048576 _ _ _ (by simp [go_sem]) (by simp [go_sem])).mono ?_; rintro e w' ⟨rfl, rfl⟩; rw [clamp_kept]) | (go_at_call_of 61 (Value.int .i64 rows); refine (clamp_any rows 1 1048576 _ _ _ (by simp [go_sem]) (by simp [go_sem])).mono ?_; rintro e w' ⟨rfl, rfl⟩; rw [clamp_kept]) | (go_at_call 56; refine (nearest_at f _ (kept lines - kept rows) (by omega) hf (by omega) _).mono ?_; rintro e w' ⟨rfl, rfl⟩) | go_in)
    go_ret2
    exact ⟨by rw [q1.out, q2.out]; rfl, (by repeat (first | exact Below.refl _ _ | (refine bnew ?_ _) | (refine Below.drew ?_) | (refine below_drewN ?_ _) | (refine bthen ?_ (by assumption))))⟩
  · have h' : (kept rows : Int) < (kept lines : Int) := by omega
    have hB := B_num
    have nl := near_le (f := f) (n := kept lines - kept rows) hf (by omega)
    have nl' : (tnear f (kept lines - kept rows) : Int) ≤ 1048576 := by omega
    have q1 := Lib.hid (show winA f lines rows = tnear f (kept lines - kept rows) by unfold winA; rw [if_neg h])
    have q2 := Lib.hid (show (winB f lines rows : Int) = (tnear f (kept lines - kept rows) : Int) + (kept rows : Int) by unfold winB; rw [if_neg h]; omega)
    clear nl hB
    go_enter Try.func35, Try.ntmps35
    go_wp2_with (first | (go_at_call 55; refine (within_any _ _ _).mono ?_; rintro e w' ⟨rfl, rfl⟩) | (go_at_call_of 61 (Value.int .i64 lines); refine (clamp_any lines 1 1048576 _ _ _ (by simp [go_sem]) (by simp [go_sem])).mono ?_; rintro e w' ⟨rfl, rfl⟩; rw [clamp_kept]) | (go_at_call_of 61 (Value.int .i64 rows); refine (clamp_any rows 1 1048576 _ _ _ (by simp [go_sem]) (by simp [go_sem])).mono ?_; rintro e w' ⟨rfl, rfl⟩; rw [clamp_kept]) | (go_at_call 56; refine (nearest_at f _ (kept lines - kept rows) (by omega) hf (by omega) _).mono ?_; rintro e w' ⟨rfl, rfl⟩) | go_in)
    go_ret2
    exact ⟨by rw [q1.out, q2.out]; rfl, (by repeat (first | exact Below.refl _ _ | (refine bnew ?_ _) | (refine Below.drew ?_) | (refine below_drewN ?_ _) | (refine bthen ?_ (by assumption))))⟩
set_option maxRecDepth 100000 in
theorem refWindow_any (f : Nat) (lines rows : Int) (hf : f < 2 * S) (w : World) :
    Calls Try.prog 36 #[.float .f64 f, .int .i64 lines, .int .i64 rows] w fun e w' => e = .returned (.tuple #[.int .i64 (winA f lines rows : Nat), .int .i64 (winB f lines rows : Nat)]) ∧ Below w.heap.size w w' := by
  obtain ⟨k1, k2⟩ := kept_le lines
  obtain ⟨k3, k4⟩ := kept_le rows
  have i1 : (1 : Int) ≤ (kept lines : Int) := by omega
  have i2 : (kept lines : Int) ≤ 1048576 := by omega
  have i3 : (1 : Int) ≤ (kept rows : Int) := by omega
  have i4 : (kept rows : Int) ≤ 1048576 := by omega
  by_cases h : kept lines ≤ kept rows
  · have h' : (kept lines : Int) ≤ (kept rows : Int) := by omega
    have q1 := Lib.hid (show winA f lines rows = 0 by unfold winA; rw [if_pos h])
    have q2 := Lib.hid (show winB f lines rows = kept lines by unfold winB; rw [if_pos h])
    go_enter Try.func36, Try.ntmps36
    go_wp2_with (first | (go_at_call_of 57 (Value.int .i64 lines); refine (refKept_any lines _).mono ?_; rintro e w' ⟨rfl, rfl⟩) | (go_at_call_of 57 (Value.int .i64 rows); refine (refKept_any rows _).mono ?_; rintro e w' ⟨rfl, rfl⟩) | (go_at_call 58; refine (refNear_at f _ (kept lines - kept rows) (by omega) hf (by omega) _).mono ?_; rintro e w' ⟨rfl, rfl⟩) | go_in)
    go_ret2
    exact ⟨by rw [q1.out, q2.out]; rfl, (by repeat (first | exact Below.refl _ _ | (refine bnew ?_ _) | (refine Below.drew ?_) | (refine below_drewN ?_ _) | (refine bthen ?_ (by assumption))))⟩
  · have h' : (kept rows : Int) < (kept lines : Int) := by omega
    have hB := B_num
    have nl := near_le (f := f) (n := kept lines - kept rows) hf (by omega)
    have nl' : (tnear f (kept lines - kept rows) : Int) ≤ 1048576 := by omega
    have q1 := Lib.hid (show winA f lines rows = tnear f (kept lines - kept rows) by unfold winA; rw [if_neg h])
    have q2 := Lib.hid (show (winB f lines rows : Int) = (tnear f (kept lines - kept rows) : Int) + (kept rows : Int) by unfold winB; rw [if_neg h]; omega)
    clear nl hB
    go_enter Try.func36, Try.ntmps36
    go_wp2_with (first | (go_at_call_of 57 (Value.int .i64 lines); refine (refKept_any lines _).mono ?_; rintro e w' ⟨rfl, rfl⟩) | (go_at_call_of 57 (Value.int .i64 rows); refine (refKept_any rows _).mono ?_; rintro e w' ⟨rfl, rfl⟩) | (go_at_call 58; refine (refNear_at f _ (kept lines - kept rows) (by omega) hf (by omega) _).mono ?_; rintro e w' ⟨rfl, rfl⟩) | go_in)
    go_ret2
    exact ⟨by rw [q1.out, q2.out]; rfl, (by repeat (first | exact Below.refl _ _ | (refine bnew ?_ _) | (refine Below.drew ?_) | (refine below_drewN ?_ _) | (refine bthen ?_ (by assumption))))⟩

def barA (f : Nat) (lines rows : Int) : Nat := if kept lines ≤ kept rows then 0 else mulW (tpart f) (subW ONE (divW (fint (kept rows)) (fint (kept lines))))
def barB (lines rows : Int) : Nat := if kept lines ≤ kept rows then ONE else divW (fint (kept rows)) (fint (kept lines))
set_option maxRecDepth 100000 in
theorem bar_any (f : Nat) (lines rows : Int) (hf : f < 2 * S) (w : World) :
    Calls Try.prog 37 #[.float .f64 f, .int .i64 lines, .int .i64 rows] w fun e w' => e = .returned (.tuple #[.float .f64 (barA f lines rows), .float .f64 (barB lines rows)]) ∧ Below w.heap.size w w' := by
  obtain ⟨k1, k2⟩ := kept_le lines
  obtain ⟨k3, k4⟩ := kept_le rows
  by_cases h : kept lines ≤ kept rows
  · have h' : (kept lines : Int) ≤ (kept rows : Int) := by omega
    have q1 := Lib.hid (show barA f lines rows = 0 by unfold barA; rw [if_pos h])
    have q2 := Lib.hid (show barB lines rows = 4607182418800017408 by unfold barB; rw [if_pos h]; rfl)
    go_enter Try.func37, Try.ntmps37
    go_wp2_with (first | (go_at_call 55; refine (within_any _ _ _).mono ?_; rintro e w' ⟨rfl, rfl⟩) | (go_at_call_of 61 (Value.int .i64 lines); refine (clamp_any lines 1 1048576 _ _ _ (by simp [go_sem]) (by simp [go_sem])).mono ?_; rintro e w' ⟨rfl, rfl⟩; rw [clamp_kept]) | (go_at_call_of 61 (Value.int .i64 rows); refine (clamp_any rows 1 1048576 _ _ _ (by simp [go_sem]) (by simp [go_sem])).mono ?_; rintro e w' ⟨rfl, rfl⟩; rw [clamp_kept]) | (go_at_call 15; refine (part_any _ hf _).mono ?_; rintro e w' ⟨rfl, rfl⟩) | go_in)
    go_ret2
    exact ⟨by rw [q1.out, q2.out]; rfl, (by repeat (first | exact Below.refl _ _ | (refine bnew ?_ _) | (refine Below.drew ?_) | (refine below_drewN ?_ _) | (refine bthen ?_ (by assumption))))⟩
  · have h' : (kept rows : Int) < (kept lines : Int) := by omega
    have hl := place_le (k := kept rows) (L := kept lines) (by omega) (by omega) (by omega)
    have hO := ONE_lt
    have d1 := r_div (a := fint (kept rows)) (b := fint (kept lines)) (fint_fin (by omega)) (fint_fin (by omega)) (fint_ne (by omega) (by omega))
    have c1 := f_int (kept rows)
    have c2 := f_int (kept lines)
    have hs := rung_sub (Nat.le_refl ONE) hl
    have m1 := r_sub (x := 4607182418800017408) (y := divW (fint (kept rows)) (fint (kept lines))) (fin_small ONE_lt) (fin_small (by omega))
    have m2 := r_mul (x := tpart f) (y := subW 4607182418800017408 (divW (fint (kept rows)) (fint (kept lines)))) (fin_small (tpart_lt f hf)) (show rung (subW ONE _) < INF by omega)
    have q1 := Lib.hid (show barA f lines rows = mulW (tpart f) (subW 4607182418800017408 (divW (fint (kept rows)) (fint (kept lines)))) by unfold barA; rw [if_neg h]; rfl)
    have q2 := Lib.hid (show barB lines rows = divW (fint (kept rows)) (fint (kept lines)) by unfold barB; rw [if_neg h])
    clear hl hO hs
    go_enter Try.func37, Try.ntmps37
    go_wp2_with (first | (go_at_call 55; refine (within_any _ _ _).mono ?_; rintro e w' ⟨rfl, rfl⟩) | (go_at_call_of 61 (Value.int .i64 lines); refine (clamp_any lines 1 1048576 _ _ _ (by simp [go_sem]) (by simp [go_sem])).mono ?_; rintro e w' ⟨rfl, rfl⟩; rw [clamp_kept]) | (go_at_call_of 61 (Value.int .i64 rows); refine (clamp_any rows 1 1048576 _ _ _ (by simp [go_sem]) (by simp [go_sem])).mono ?_; rintro e w' ⟨rfl, rfl⟩; rw [clamp_kept]) | (go_at_call 15; refine (part_any _ hf _).mono ?_; rintro e w' ⟨rfl, rfl⟩) | (simp only [d1]) | (simp only [m1]) | (simp only [m2]) | go_in)
    go_ret2
    exact ⟨by rw [q1.out, q2.out]; rfl, (by repeat (first | exact Below.refl _ _ | (refine bnew ?_ _) | (refine Below.drew ?_) | (refine below_drewN ?_ _) | (refine bthen ?_ (by assumption))))⟩
set_option maxRecDepth 100000 in
theorem refBar_any (f : Nat) (lines rows : Int) (hf : f < 2 * S) (w : World) :
    Calls Try.prog 38 #[.float .f64 f, .int .i64 lines, .int .i64 rows] w fun e w' => e = .returned (.tuple #[.float .f64 (barA f lines rows), .float .f64 (barB lines rows)]) ∧ Below w.heap.size w w' := by
  obtain ⟨k1, k2⟩ := kept_le lines
  obtain ⟨k3, k4⟩ := kept_le rows
  by_cases h : kept lines ≤ kept rows
  · have h' : (kept lines : Int) ≤ (kept rows : Int) := by omega
    have q1 := Lib.hid (show barA f lines rows = 0 by unfold barA; rw [if_pos h])
    have q2 := Lib.hid (show barB lines rows = 4607182418800017408 by unfold barB; rw [if_pos h]; rfl)
    go_enter Try.func38, Try.ntmps38
    go_wp2_with (first | (go_at_call_of 57 (Value.int .i64 lines); refine (refKept_any lines _).mono ?_; rintro e w' ⟨rfl, rfl⟩) | (go_at_call_of 57 (Value.int .i64 rows); refine (refKept_any rows _).mono ?_; rintro e w' ⟨rfl, rfl⟩) | (go_at_call 16; refine (refPart_any _ _).mono ?_; rintro e w' ⟨rfl, rfl⟩) | go_in)
    go_ret2
    exact ⟨by rw [q1.out, q2.out]; rfl, (by repeat (first | exact Below.refl _ _ | (refine bnew ?_ _) | (refine Below.drew ?_) | (refine below_drewN ?_ _) | (refine bthen ?_ (by assumption))))⟩
  · have h' : (kept rows : Int) < (kept lines : Int) := by omega
    have hl := place_le (k := kept rows) (L := kept lines) (by omega) (by omega) (by omega)
    have hO := ONE_lt
    have d1 := r_div (a := fint (kept rows)) (b := fint (kept lines)) (fint_fin (by omega)) (fint_fin (by omega)) (fint_ne (by omega) (by omega))
    have c1 := f_int (kept rows)
    have c2 := f_int (kept lines)
    have hs := rung_sub (Nat.le_refl ONE) hl
    have m1 := r_sub (x := 4607182418800017408) (y := divW (fint (kept rows)) (fint (kept lines))) (fin_small ONE_lt) (fin_small (by omega))
    have m2 := r_mul (x := tpart f) (y := subW 4607182418800017408 (divW (fint (kept rows)) (fint (kept lines)))) (fin_small (tpart_lt f hf)) (show rung (subW ONE _) < INF by omega)
    have q1 := Lib.hid (show barA f lines rows = mulW (tpart f) (subW 4607182418800017408 (divW (fint (kept rows)) (fint (kept lines)))) by unfold barA; rw [if_neg h]; rfl)
    have q2 := Lib.hid (show barB lines rows = divW (fint (kept rows)) (fint (kept lines)) by unfold barB; rw [if_neg h])
    clear hl hO hs
    go_enter Try.func38, Try.ntmps38
    go_wp2_with (first | (go_at_call_of 57 (Value.int .i64 lines); refine (refKept_any lines _).mono ?_; rintro e w' ⟨rfl, rfl⟩) | (go_at_call_of 57 (Value.int .i64 rows); refine (refKept_any rows _).mono ?_; rintro e w' ⟨rfl, rfl⟩) | (go_at_call 16; refine (refPart_any _ _).mono ?_; rintro e w' ⟨rfl, rfl⟩) | (simp only [d1]) | (simp only [m1]) | (simp only [m2]) | go_in)
    go_ret2
    exact ⟨by rw [q1.out, q2.out]; rfl, (by repeat (first | exact Below.refl _ _ | (refine bnew ?_ _) | (refine Below.drew ?_) | (refine below_drewN ?_ _) | (refine bthen ?_ (by assumption))))⟩

/-! ### Steps -/
def tstep (f g : Nat) : Nat := if INF < rung g then tpart f else if (val INF : Int) ≤ -sval g then 0 else if (val INF : Int) ≤ sval g then ONE else tpart (addW (tpart f) g)
theorem inf_iff {g : Nat} (hn : ¬ INF < rung g) : ((val INF : Int) ≤ sval g ∨ (val INF : Int) ≤ -sval g) ↔ rung g = INF := by
  constructor
  · intro h
    by_cases e : rung g < INF
    · have := sval_fin_lt e; omega
    · omega
  · intro h
    have := sval_inf h
    cases e : sgn g <;> rw [e] at this <;> simp at this <;> omega
theorem step_any (f g : Nat) (hf : f < 2 * S) (hg : g < 2 * S) (w : World) :
    Calls Try.prog 44 #[.float .f64 f, .float .f64 g] w fun e w' => e = .returned (.float .f64 (tstep f g)) ∧ w = w' := by
  have e1 := run_neg
  by_cases hn : INF < rung g
  · have e0 := y_eq hn
    have Q := Lib.hid (show tstep f g = tpart f by unfold tstep; rw [if_pos hn])
    clear hn
    go_enter Try.func44, Try.ntmps44
    go_wp2_with (first | (go_at_call_of 15 (Value.float .f64 f); refine (part_any _ hf _).mono ?_; rintro e w' ⟨rfl, rfl⟩) | go_in)
    go_ret
    exact ⟨ret_float Q.out.symm, rfl⟩
  · have e0 := n_eq hn
    obtain ⟨o1, o2⟩ := opp_opp hg
    have hno : ¬ INF < rung (opp g) := by omega
    have hinf := inf_iff hn
    by_cases hi : (val INF : Int) ≤ -sval g
    · have e2 : (FloatKind.f64.format.order (opp g) 9218868437227405311 == some .gt) = true := by rw [f_max hno]; simp; omega
      have Q := Lib.hid (show tstep f g = 0 by unfold tstep; rw [if_neg hn, if_pos hi])
      clear hn o1 o2 hno hinf hi
      go_enter Try.func44, Try.ntmps44
      go_wp2_with (first | (go_at_call_of 15 (Value.float .f64 f); refine (part_any _ hf _).mono ?_; rintro e w' ⟨rfl, rfl⟩) | go_in)
      go_ret
      exact ⟨ret_float Q.out.symm, rfl⟩
    · have e2 : (FloatKind.f64.format.order (opp g) 9218868437227405311 == some .gt) = false := by rw [f_max hno]; simp; omega
      by_cases hj : (val INF : Int) ≤ sval g
      · have e3 : (FloatKind.f64.format.order g 9218868437227405311 == some .gt) = true := by rw [f_max hn]; simpa using hj
        have Q := Lib.hid (show tstep f g = 4607182418800017408 by unfold tstep; rw [if_neg hn, if_neg hi, if_pos hj]; rfl)
        clear hn o1 o2 hno hinf hi hj
        go_enter Try.func44, Try.ntmps44
        go_wp2_with (first | (go_at_call_of 15 (Value.float .f64 f); refine (part_any _ hf _).mono ?_; rintro e w' ⟨rfl, rfl⟩) | go_in)
        go_ret
        exact ⟨ret_float Q.out.symm, rfl⟩
      · have e3 : (FloatKind.f64.format.order g 9218868437227405311 == some .gt) = false := by rw [f_max hn]; simpa using hj
        have hfin : rung g < INF := by
          rcases Nat.lt_or_ge (rung g) INF with h | h
          · exact h
          · exact absurd (hinf.2 (by omega)) (by omega)
        have m1 := r_add (x := tpart f) (y := g) (fin_small (tpart_lt f hf)) hfin
        have Q := Lib.hid (show tstep f g = tpart (addW (tpart f) g) by unfold tstep; rw [if_neg hn, if_neg hi, if_neg hj])
        have hadd := addW_lt (tpart f) g
        clear hn o1 o2 hno hinf hi hj hfin
        go_enter Try.func44, Try.ntmps44
        go_wp2_with (first | (go_at_call_of 15 (Value.float .f64 f); refine (part_any _ hf _).mono ?_; rintro e w' ⟨rfl, rfl⟩) | (go_at_call 15; refine (part_any _ hadd _).mono ?_; rintro e w' ⟨rfl, rfl⟩) | (simp only [m1]) | go_in)
        go_ret
        exact ⟨ret_float Q.out.symm, rfl⟩
theorem add_inf {a g : Nat} (ha : rung a < INF) (hg : rung g = INF) (h : g < 2 * S) : Ieee.double.add a g = some g := by
  obtain ⟨m, p, e1, _⟩ := read_fin ha
  unfold Ieee.Format.add
  rw [e1, read_inf hg]
  simp only [Ieee.Datum.sum, Option.map_some]
  show some (Ieee.double.word (sgn g) Ieee.double.infRung) = _
  rw [dbl_inf, ← hg, ← word_of g h]
theorem refStep_any (f g : Nat) (hf : f < 2 * S) (hg : g < 2 * S) (w : World) :
    Calls Try.prog 45 #[.float .f64 f, .float .f64 g] w fun e w' => e = .returned (.float .f64 (tstep f g)) ∧ w = w' := by
  by_cases hn : INF < rung g
  · have e0 := y_eq hn
    have Q := Lib.hid (show tstep f g = tpart f by unfold tstep; rw [if_pos hn])
    clear hn
    go_enter Try.func45, Try.ntmps45
    go_wp2_with (first | (go_at_call 16; refine (refPart_any _ _).mono ?_; rintro e w' ⟨rfl, rfl⟩) | go_in)
    go_ret
    exact ⟨ret_float Q.out.symm, rfl⟩
  · have e0 := n_eq hn
    have hinf := inf_iff hn
    by_cases he : rung g = INF
    · have m1 : ∀ t w, (binOp .add t (.float .f64 (tpart f)) (.float .f64 g)).run Try.prog w = .ok (.float .f64 g) w := fun t w => run_float_arith w .add t .f64 _ _ _ (add_inf (fin_small (tpart_lt f hf)) he hg)
      have Q : tstep f g = tpart g := by
        unfold tstep
        rw [if_neg hn]
        have h1 := val_lt ONE_lt
        have h0 := val_lt (r := 0) (s := ONE) (by decide)
        rw [val_zero] at h0
        by_cases hi : (val INF : Int) ≤ -sval g
        · rw [if_pos hi, tpart_nought hn (by omega)]
        · rw [if_neg hi]
          have hj : (val INF : Int) ≤ sval g := by have := hinf.2 he; omega
          rw [if_pos hj, tpart_one hn (by omega)]
      have Q := Lib.hid Q
      clear hn hinf he
      go_enter Try.func45, Try.ntmps45
      go_wp2_with (first | (go_at_call 16; refine (refPart_any _ _).mono ?_; rintro e w' ⟨rfl, rfl⟩) | (simp only [m1]) | go_in)
      go_ret
      exact ⟨ret_float Q.out.symm, rfl⟩
    · have m1 := r_add (x := tpart f) (y := g) (fin_small (tpart_lt f hf)) (show rung g < INF by omega)
      have hi : ¬ (val INF : Int) ≤ -sval g := fun h => he (hinf.1 (.inr h))
      have hj : ¬ (val INF : Int) ≤ sval g := fun h => he (hinf.1 (.inl h))
      have Q := Lib.hid (show tstep f g = tpart (addW (tpart f) g) by unfold tstep; rw [if_neg hn, if_neg hi, if_neg hj])
      clear hn hinf he hi hj
      go_enter Try.func45, Try.ntmps45
      go_wp2_with (first | (go_at_call 16; refine (refPart_any _ _).mono ?_; rintro e w' ⟨rfl, rfl⟩) | (simp only [m1]) | go_in)
      go_ret
      exact ⟨ret_float Q.out.symm, rfl⟩
end Go.Proofs.Ytnggfdjohejfgaa
