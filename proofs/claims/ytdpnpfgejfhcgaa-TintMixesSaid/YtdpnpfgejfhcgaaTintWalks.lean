/- The walks over package math's and package tint's small functions. -/
import Derived.Test.YtdpnpfgejfhcgaaChecked
import Derived.Test.YtdpnpfgejfhcgaaTintMath2
import Derived.WalkKit
import Derived.WalkLawsBesides
import Derived.KernelRfl
import Derived.Outline
import Derived.StillTailTactics
import Derived.BigQuiet
import Derived.Deep.QuietTactic
import Derived.Lib.Hide
set_option linter.unusedVariables false
set_option linter.unusedSimpArgs false
namespace Go.Proofs.Ytdpnpfgejfhcgaa
open Go.RowKit Fl

theorem ret_float {a b : Nat} (h : a = b) : Ending.returned (.float .f64 a) = .returned (.float .f64 b) := by rw [h]

theorem ext_bits (a : Nat) (w : World) : (callFunc 30 #[.float .f64 a]).run Try.prog w = .ok (.value (.int .u64 a)) w := by kernel_rfl
theorem ext_from (a : Int) (w : World) : (callFunc 38 #[.int .u64 a]).run Try.prog w = .ok (.value (.float .f64 a.toNat)) w := by kernel_rfl

/-- The tests of a word against a constant, decided. -/
theorem c_gt {a c : Nat} (ha : ¬ INF < rung a) (hc : c ≤ INF) (b : Bool) (h : decide ((val c : Int) < sval a) = b) : (FloatKind.f64.format.order a c == some .gt) = b := by
  have := ford_eq ha (small_ok hc)
  unfold ford at this
  rw [this, isgt, small_sval hc, h]
theorem c_lt {a c : Nat} (ha : ¬ INF < rung a) (hc : c ≤ INF) (b : Bool) (h : decide (sval a < (val c : Int)) = b) : (FloatKind.f64.format.order a c == some .lt) = b := by
  have := ford_eq ha (small_ok hc)
  unfold ford at this
  rw [this, islt, small_sval hc, h]
theorem c_eq {a c : Nat} (ha : ¬ INF < rung a) (hc : c ≤ INF) (b : Bool) (h : decide (sval a = (val c : Int)) = b) : (FloatKind.f64.format.order a c == some .eq) = b := by
  have := ford_eq ha (small_ok hc)
  unfold ford at this
  rw [this, iseq, small_sval hc, h]
theorem n_eq {a : Nat} (ha : ¬ INF < rung a) : (FloatKind.f64.format.order a a != some .eq) = false := by
  have := ford_eq ha ha
  unfold ford at this
  rw [this, cmp_eq rfl]; rfl
theorem y_eq {a : Nat} (ha : INF < rung a) : (FloatKind.f64.format.order a a != some .eq) = true := by
  have := ford_nanl (b := a) ha
  unfold ford at this
  rw [this]; rfl
theorem nan_any {a c : Nat} (ha : INF < rung a) (o : Ordering) : (FloatKind.f64.format.order a c == some o) = false := by
  have := ford_nanl (b := c) ha
  unfold ford at this
  rw [this]; rfl
theorem val_MAX_lt {a : Nat} (h : ¬ INF < rung a) : (val (INF - 1) : Int) < sval a ↔ (val INF : Int) ≤ sval a := by
  have hp := INF_pos
  unfold sval
  cases sgn a
  · simp only [Bool.false_eq_true, if_false]
    constructor
    · intro h'
      have := val_lt_iff.1 (show val (INF - 1) < val (rung a) by omega)
      have := val_le (show INF ≤ rung a by omega)
      omega
    · intro h'
      have := val_lt (show INF - 1 < INF by omega)
      omega
  · simp only [if_true]
    have := val_INF_pos
    have := val_lt (show INF - 1 < INF by omega)
    constructor <;> intro <;> omega

theorem refPart_any (a : Nat) (w : World) :
    Calls Try.prog 11 #[.float .f64 a] w fun e w' => e = .returned (.float .f64 (tpart a)) ∧ w = w' := by
  have h1 := val_lt (r := 0) (s := ONE) (by decide)
  rw [val_zero] at h1
  by_cases hn : INF < rung a
  · have e1 := nan_any (c := 4607182418800017408) hn .gt
    have e2 := nan_any (c := 4607182418800017408) hn .eq
    have e3 := nan_any (c := 0) hn .gt
    have hq := Lib.hid (tpart_nan hn)
    go_enter Try.func11, Try.ntmps11
    go_wp2
    go_ret
    exact ⟨ret_float hq.out.symm, rfl⟩
  · by_cases hb : (val ONE : Int) ≤ sval a
    · have hq := Lib.hid (tpart_one hn hb)
      by_cases hb2 : (val ONE : Int) < sval a
      · have e1 := c_gt (c := 4607182418800017408) hn (Nat.le_of_lt ONE_lt) true (by simpa [show (4607182418800017408 : Nat) = ONE from rfl] using hb2)
        go_enter Try.func11, Try.ntmps11
        go_wp2
        go_ret
        exact ⟨ret_float hq.out.symm, rfl⟩
      · have e1 := c_gt (c := 4607182418800017408) hn (Nat.le_of_lt ONE_lt) false (by simpa [show (4607182418800017408 : Nat) = ONE from rfl] using hb2)
        have e2 := c_eq (c := 4607182418800017408) hn (Nat.le_of_lt ONE_lt) true (by simp; show _ = (val ONE : Int); omega)
        go_enter Try.func11, Try.ntmps11
        go_wp2
        go_ret
        exact ⟨ret_float hq.out.symm, rfl⟩
    · have e1 := c_gt (c := 4607182418800017408) hn (Nat.le_of_lt ONE_lt) false (by simp; show _ ≤ (val ONE : Int); omega)
      have e2 := c_eq (c := 4607182418800017408) hn (Nat.le_of_lt ONE_lt) false (by simp; show ¬ _ = (val ONE : Int); omega)
      by_cases hp : 0 < sval a
      · have e3 := c_gt (c := 0) hn (Nat.zero_le _) true (by rw [val_zero]; simpa using hp)
        have hq := Lib.hid (tpart_mid hn hb hp)
        go_enter Try.func11, Try.ntmps11
        go_wp2
        go_ret
        exact ⟨ret_float hq.out.symm, rfl⟩
      · have e3 := c_gt (c := 0) hn (Nat.zero_le _) false (by rw [val_zero]; simpa using hp)
        have hq := Lib.hid (tpart_nought hn hp)
        go_enter Try.func11, Try.ntmps11
        go_wp2
        go_ret
        exact ⟨ret_float hq.out.symm, rfl⟩
theorem run_neg (a : Nat) (w : World) : (Go.Op.unary .neg (.float .f64 a)).run Try.prog w = .ok (.float .f64 (opp a)) w := rfl

/-- Tests of a word that is a number. -/
theorem f_max {a : Nat} (h : ¬ INF < rung a) : (FloatKind.f64.format.order a 9218868437227405311 == some .gt) = decide ((val INF : Int) ≤ sval a) := by
  refine c_gt (c := 9218868437227405311) h (by rw [INF_num]; omega) _ ?_
  have e : (9218868437227405311 : Nat) = INF - 1 := by rw [INF_num]
  rw [e]
  exact decide_eq_decide.2 (val_MAX_lt h)
theorem f_one_gt {a : Nat} (h : ¬ INF < rung a) : (FloatKind.f64.format.order a 4607182418800017408 == some .gt) = decide ((val ONE : Int) < sval a) := c_gt (c := ONE) h (Nat.le_of_lt ONE_lt) _ rfl
theorem f_one_eq {a : Nat} (h : ¬ INF < rung a) : (FloatKind.f64.format.order a 4607182418800017408 == some .eq) = decide (sval a = (val ONE : Int)) := c_eq (c := ONE) h (Nat.le_of_lt ONE_lt) _ rfl
theorem f_nought_lt {a : Nat} (h : ¬ INF < rung a) : (FloatKind.f64.format.order a 0 == some .lt) = decide (sval a < 0) := c_lt (c := 0) h (Nat.zero_le _) _ (by rw [val_zero]; rfl)
theorem f_nought_eq {a : Nat} (h : ¬ INF < rung a) : (FloatKind.f64.format.order a 0 == some .eq) = decide (sval a = 0) := c_eq (c := 0) h (Nat.zero_le _) _ (by rw [val_zero]; rfl)

theorem part_any (a : Nat) (ha : a < 2 * S) (w : World) :
    Calls Try.prog 10 #[.float .f64 a] w fun e w' => e = .returned (.float .f64 (tpart a)) ∧ w = w' := by
  have h1 := val_lt (r := 0) (s := ONE) (by decide)
  have h2 := val_lt ONE_lt
  rw [val_zero] at h1
  have e1 := run_neg
  by_cases hn : INF < rung a
  · have e0 := y_eq hn
    have hq := Lib.hid (tpart_nan hn)
    go_enter Try.func10, Try.ntmps10
    go_wp2
    go_ret
    exact ⟨ret_float hq.out.symm, rfl⟩
  · have e0 := n_eq hn
    obtain ⟨o1, o2⟩ := opp_opp ha
    have hno : ¬ INF < rung (opp a) := by omega
    by_cases hb : (val ONE : Int) ≤ sval a
    · have hq := Lib.hid (tpart_one hn hb)
      have e2 : (FloatKind.f64.format.order (opp a) 9218868437227405311 == some .gt) = false := by rw [f_max hno]; simp; omega
      by_cases hi : (val INF : Int) ≤ sval a
      · have e3 : (FloatKind.f64.format.order a 9218868437227405311 == some .gt) = true := by rw [f_max hn]; simpa using hi
        clear o1 o2
        go_enter Try.func10, Try.ntmps10
        go_wp2
        go_ret
        exact ⟨ret_float hq.out.symm, rfl⟩
      · have e3 : (FloatKind.f64.format.order a 9218868437227405311 == some .gt) = false := by rw [f_max hn]; simpa using hi
        have e4 : (FloatKind.f64.format.order a 0 == some .lt) = false := by rw [f_nought_lt hn]; simp; omega
        have e5 : (FloatKind.f64.format.order a 0 == some .eq) = false := by rw [f_nought_eq hn]; simp; omega
        by_cases he : (val ONE : Int) < sval a
        · have e6 : (FloatKind.f64.format.order a 4607182418800017408 == some .gt) = true := by rw [f_one_gt hn]; simpa using he
          clear o1 o2
          go_enter Try.func10, Try.ntmps10
          go_wp2
          go_ret
          exact ⟨ret_float hq.out.symm, rfl⟩
        · have e6 : (FloatKind.f64.format.order a 4607182418800017408 == some .gt) = false := by rw [f_one_gt hn]; simpa using he
          have e7 : (FloatKind.f64.format.order a 4607182418800017408 == some .eq) = true := by rw [f_one_eq hn]; simp; omega
          clear o1 o2
          go_enter Try.func10, Try.ntmps10
          go_wp2
          go_ret
          exact ⟨ret_float hq.out.symm, rfl⟩
    · by_cases hp : 0 < sval a
      · have hq := Lib.hid (tpart_mid hn hb hp)
        have e2 : (FloatKind.f64.format.order (opp a) 9218868437227405311 == some .gt) = false := by rw [f_max hno]; simp; omega
        have e3 : (FloatKind.f64.format.order a 9218868437227405311 == some .gt) = false := by rw [f_max hn]; simp; omega
        have e4 : (FloatKind.f64.format.order a 0 == some .lt) = false := by rw [f_nought_lt hn]; simp; omega
        have e5 : (FloatKind.f64.format.order a 0 == some .eq) = false := by rw [f_nought_eq hn]; simp; omega
        have e6 : (FloatKind.f64.format.order a 4607182418800017408 == some .gt) = false := by rw [f_one_gt hn]; simp; omega
        have e7 : (FloatKind.f64.format.order a 4607182418800017408 == some .eq) = false := by rw [f_one_eq hn]; simp; omega
        clear o1 o2
        go_enter Try.func10, Try.ntmps10
        go_wp2
        go_ret
        exact ⟨ret_float hq.out.symm, rfl⟩
      · have hq := Lib.hid (tpart_nought hn hp)
        by_cases hi : (val INF : Int) ≤ -sval a
        · have e2 : (FloatKind.f64.format.order (opp a) 9218868437227405311 == some .gt) = true := by rw [f_max hno]; simp; omega
          clear o1 o2
          go_enter Try.func10, Try.ntmps10
          go_wp2
          go_ret
          exact ⟨ret_float hq.out.symm, rfl⟩
        · have e2 : (FloatKind.f64.format.order (opp a) 9218868437227405311 == some .gt) = false := by rw [f_max hno]; simp; omega
          have e3 : (FloatKind.f64.format.order a 9218868437227405311 == some .gt) = false := by rw [f_max hn]; simp; omega
          by_cases hz : sval a < 0
          · have e4 : (FloatKind.f64.format.order a 0 == some .lt) = true := by rw [f_nought_lt hn]; simp; omega
            clear o1 o2
            go_enter Try.func10, Try.ntmps10
            go_wp2
            go_ret
            exact ⟨ret_float hq.out.symm, rfl⟩
          · have e4 : (FloatKind.f64.format.order a 0 == some .lt) = false := by rw [f_nought_lt hn]; simp; omega
            have e5 : (FloatKind.f64.format.order a 0 == some .eq) = true := by rw [f_nought_eq hn]; simp; omega
            clear o1 o2
            go_enter Try.func10, Try.ntmps10
            go_wp2
            go_ret
            exact ⟨ret_float hq.out.symm, rfl⟩

theorem part_still (a : Nat) (ha : a < 2 * S) (w : World) :
    Calls Try.prog 10 #[.float .f64 a] w fun e w' => e = .returned (.float .f64 (tpart a)) ∧ w' = w :=
  (part_any a ha w).mono fun _ _ h => ⟨h.1, h.2.symm⟩
@[go_sem] theorem run_store_float (P : Program) (w : World) (a : Addr) (m : Mode) (k : FloatKind) (n : Nat) : (store a (.float k n) m).run P w = stored P w a (.float k n) m := run_store P w a _ m rfl

/-- A region that draws its order: quiet operations, then a tail. -/
theorem still_tail {P : Program} {id : Nat} {Q : Exit → Act → World → Prop} {a : Act} {w : World} {l : List Oper} (n : Nat) (hm : P.follows .mixedOrders = true) (hB : Region.lexTailB .any l.toArray n = true)
    (h : wpStill P l.toArray w.drew (fun a' => wpList P l.toArray Q (l.drop n) a' w.drew) (l.take n) a) : (Code.region id l.toArray true).wp P Q a w :=
  wp_region_still_tail n hm hB h
theorem refPart_still (a : Nat) (w : World) :
    Calls Try.prog 11 #[.float .f64 a] w fun e w' => e = .returned (.float .f64 (tpart a)) ∧ w' = w :=
  (refPart_any a w).mono fun _ _ h => ⟨h.1, h.2.symm⟩
theorem fit_exact (r g b : Nat) (hr : r < 2 * S) (hg : g < 2 * S) (hb : b < 2 * S) (w : World) :
    Calls Try.prog 13 #[.agg #[.float .f64 r, .float .f64 g, .float .f64 b]] w fun e w' => e = .returned (.agg #[.float .f64 (tpart r), .float .f64 (tpart g), .float .f64 (tpart b)]) ∧ ((w.alloc (.cells #[.float .f64 r, .float .f64 g, .float .f64 b] 24)).alloc (.cells #[.float .f64 (tpart r), .float .f64 (tpart g), .float .f64 (tpart b)] 24)).drew = w' := by
  go_enter Try.func13, Try.ntmps13
  go_wp2_with fail
  refine still_tail 10 (by kernel_rfl) (by kernel_rfl) ?_
  simp only [List.take_succ_cons, List.take_zero, List.drop_succ_cons, List.drop_zero]
  repeat (first | still_step | still_call (part_still _ (by assumption) _))
  refine wpStill_nil ?_
  go_wp2_with fail
  exact bodyPost_ret (v := .agg #[.float .f64 (tpart r), .float .f64 (tpart g), .float .f64 (tpart b)]) (by simp [results, Try.results13, go_sem]) rfl ⟨rfl, rfl⟩
theorem fit_any (r g b : Nat) (hr : r < 2 * S) (hg : g < 2 * S) (hb : b < 2 * S) (w : World) :
    Calls Try.prog 13 #[.agg #[.float .f64 r, .float .f64 g, .float .f64 b]] w fun e w' => e = .returned (.agg #[.float .f64 (tpart r), .float .f64 (tpart g), .float .f64 (tpart b)]) ∧ Below w.heap.size w w' :=
  (fit_exact r g b hr hg hb w).mono fun _ _ h => ⟨h.1, h.2 ▸ (((Below.refl _ _).alloc (Nat.le_refl _) _).alloc (by simp) _).drew⟩
theorem refFit_exact (r g b : Nat) (hr : r < 2 * S) (hg : g < 2 * S) (hb : b < 2 * S) (w : World) :
    Calls Try.prog 14 #[.agg #[.float .f64 r, .float .f64 g, .float .f64 b]] w fun e w' => e = .returned (.agg #[.float .f64 (tpart r), .float .f64 (tpart g), .float .f64 (tpart b)]) ∧ ((w.alloc (.cells #[.float .f64 r, .float .f64 g, .float .f64 b] 24)).alloc (.cells #[.float .f64 (tpart r), .float .f64 (tpart g), .float .f64 (tpart b)] 24)).drew = w' := by
  go_enter Try.func14, Try.ntmps14
  go_wp2_with fail
  refine still_tail 10 (by kernel_rfl) (by kernel_rfl) ?_
  simp only [List.take_succ_cons, List.take_zero, List.drop_succ_cons, List.drop_zero]
  repeat (first | still_step | still_call (refPart_still _ _))
  refine wpStill_nil ?_
  go_wp2_with fail
  exact bodyPost_ret (v := .agg #[.float .f64 (tpart r), .float .f64 (tpart g), .float .f64 (tpart b)]) (by simp [results, Try.results14, go_sem]) rfl ⟨rfl, rfl⟩
theorem refFit_any (r g b : Nat) (hr : r < 2 * S) (hg : g < 2 * S) (hb : b < 2 * S) (w : World) :
    Calls Try.prog 14 #[.agg #[.float .f64 r, .float .f64 g, .float .f64 b]] w fun e w' => e = .returned (.agg #[.float .f64 (tpart r), .float .f64 (tpart g), .float .f64 (tpart b)]) ∧ Below w.heap.size w w' :=
  (refFit_exact r g b hr hg hb w).mono fun _ _ h => ⟨h.1, h.2 ▸ (((Below.refl _ _).alloc (Nat.le_refl _) _).alloc (by simp) _).drew⟩

/-- Arithmetic, as the walk meets it. -/
theorem r_mul {x y : Nat} (hx : rung x < INF) (hy : rung y < INF) : ∀ t w, (binOp .mul t (.float .f64 x) (.float .f64 y)).run Try.prog w = .ok (.float .f64 (mulW x y)) w :=
  fun t w => run_float_arith w .mul t .f64 x y _ (mul_fin hx hy)
theorem r_add {x y : Nat} (hx : rung x < INF) (hy : rung y < INF) : ∀ t w, (binOp .add t (.float .f64 x) (.float .f64 y)).run Try.prog w = .ok (.float .f64 (addW x y)) w :=
  fun t w => run_float_arith w .add t .f64 x y _ (add_fin hx hy)
theorem r_sub {x y : Nat} (hx : rung x < INF) (hy : rung y < INF) : ∀ t w, (binOp .sub t (.float .f64 x) (.float .f64 y)).run Try.prog w = .ok (.float .f64 (subW x y)) w :=
  fun t w => run_float_arith w .sub t .f64 x y _ (sub_fin hx hy)
theorem r_u8 {x : Nat} (h : x < INF) (h2 : whole x ≤ 255) : ∀ w, (convert 22 5 (.float .f64 x)).run Try.prog w = .ok (.int .u8 (whole x)) w :=
  fun w => run_convert_float_int w 22 5 .f64 .u8 x (whole x : Int) (by rw [Try.underlying22]; rfl) Try.underlying5 (by
    unfold floatToIntVal; rw [toInt_pos h]; simp only []; rw [if_pos]; exact ⟨by show (0 : Int) ≤ _; omega, by show _ ≤ (255 : Int); omega⟩)
theorem ext_floor (a : Nat) (h : a < INF) (w : World) : (callFunc 39 #[.float .f64 a]).run Try.prog w = .ok (.value (.float .f64 (rq 0 (whole a * 2 ^ K)))) w := by
  rw [run_callFunc_extern (P := Try.prog) (f := 39) (fn := Try.f39) (e := Extern.MathFloor.toIntegral "math.archFloor" .down) Try.func39 (by kernel_rfl) (by kernel_rfl) (by kernel_rfl) (by kernel_rfl)]
  have e1 := floor_pos h
  obtain ⟨m, p, e2, _⟩ := read_fin (a := a) (fin_small h)
  have e3 : FloatKind.f64.decode a = .number (sgn a) m (-1074 + (p : Int)) := e2
  have e4 : Extern.MathFloor.toIntegral "math.archFloor" .down #[.float .f64 a] = (match FloatKind.f64.decode a with
    | .nan s t =>
      if FloatKind.f64.format.quiet t = t then pure (.float .f64 a) else do
      let kept ← choose (.extern "math.Floor,Ceil,Trunc,RoundToEven.signallingNaN kept" 2)
      pure (.float .f64 (if kept == 1 then a else FloatKind.f64.encode (.nan s (FloatKind.f64.format.quiet t))))
    | d => pure (.float .f64 (FloatKind.f64.encode (d.integral .down)))) := rfl
  rw [e4]
  rw [e3] at e1 ⊢
  simp only [Sem.run_pure, Result.andThen]
  rw [e1]

theorem byte_any (a : Nat) (h : a < 2 * S) (w : World) :
    Calls Try.prog 17 #[.float .f64 a] w fun e w' => e = .returned (.int .u8 (tbyte a)) ∧ w = w' := by
  have hC := C255_lt
  have h1 := tbyte_mul h
  have h2 := tbyte_add h
  have h3 := Q_lt.2.2.2.2
  have h4 := tbyte_le h
  have hB : tbyte a < 2 * B := by rw [B_num]; omega
  have m1 := r_mul (y := 4643176031446892544) (fin_small (tpart_lt a h)) (fin_small C255_lt)
  have m2 := r_add (x := mulW (tpart a) 4643176031446892544) (y := 4602678819172646912) (fin_small (show mulW (tpart a) C255 < INF by omega)) (fin_small HALF_lt)
  have m3 := ext_floor (addW (mulW (tpart a) 4643176031446892544) 4602678819172646912) (show addW (mulW (tpart a) C255) HALF < INF by omega)
  have e0 : whole (rq 0 (whole (addW (mulW (tpart a) 4643176031446892544) 4602678819172646912) * 2 ^ K)) = tbyte a := whole_floor hB
  have e1 : rq 0 (whole (addW (mulW (tpart a) 4643176031446892544) 4602678819172646912) * 2 ^ K) < INF := by
    show rq 0 (whole (addW (mulW (tpart a) C255) HALF) * 2 ^ K) < INF
    refine Nat.lt_of_le_of_lt (rq_le (c := 0) (r := C2555) (Nat.le_of_lt h3) ?_) h3
    have := val_le h2
    have : whole (addW (mulW (tpart a) C255) HALF) * 2 ^ K ≤ val (addW (mulW (tpart a) C255) HALF) := Nat.div_mul_le_self _ _
    omega
  have m4 := r_u8 e1 (by omega)
  rw [e0] at m4
  clear h1 h2 h3 h4 hB e0 e1 hC
  go_enter Try.func17, Try.ntmps17
  go_wp2_with (first | (go_at_call 10; refine (part_any _ (by assumption) _).mono ?_; rintro e w' ⟨rfl, rfl⟩) | (simp only [m1]) | (simp only [m2]) | (simp only [m3]) | (simp only [m4]) | go_in)
  go_ret
  exact ⟨rfl, rfl⟩
theorem refByte_any (a : Nat) (h : a < 2 * S) (w : World) :
    Calls Try.prog 18 #[.float .f64 a] w fun e w' => e = .returned (.int .u8 (tbyte a)) ∧ w = w' := by
  have hC := C255_lt
  have h1 := tbyte_mul h
  have h2 := tbyte_add h
  have h3 := Q_lt.2.2.2.2
  have h4 := tbyte_le h
  have m1 := r_mul (y := 4643176031446892544) (fin_small (tpart_lt a h)) (fin_small C255_lt)
  have m2 := r_add (x := mulW (tpart a) 4643176031446892544) (y := 4602678819172646912) (fin_small (show mulW (tpart a) C255 < INF by omega)) (fin_small HALF_lt)
  have m4 := r_u8 (x := addW (mulW (tpart a) 4643176031446892544) 4602678819172646912) (show addW (mulW (tpart a) C255) HALF < INF by omega) h4
  clear h1 h2 h3 h4 hC
  go_enter Try.func18, Try.ntmps18
  go_wp2_with (first | (go_at_call 11; refine (refPart_any _ _).mono ?_; rintro e w' ⟨rfl, rfl⟩) | (simp only [m1]) | (simp only [m2]) | (simp only [m4]) | go_in)
  go_ret
  exact ⟨rfl, rfl⟩
end Go.Proofs.Ytdpnpfgejfhcgaa
