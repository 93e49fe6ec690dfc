/- Tint: the walk of TintEdges. -/
import Derived.Test.YtnggfdjohejfgaaTintLaw2
set_option linter.unusedVariables false
set_option linter.unusedSimpArgs false
namespace Go.Proofs.Ytnggfdjohejfgaa
open Go.RowKit Fl
/-! ### TintEdges -/
/-- the ten words, their parts, their bytes -/
def ef : List Nat := [9221120237041090561, 9218868437227405312, 18442240474082181120, 9223372036854775808, 0, 1, 4607182418800017407, 9218868437227405311, 13830554455654793216, 4607182418800017408]
def ep : List Nat := [0, 4607182418800017408, 0, 0, 0, 1, 4607182418800017407, 4607182418800017408, 0, 4607182418800017408]
def ec : List Nat := [0, 255, 0, 0, 0, 0, 255, 255, 0, 255]
theorem edge_ok : ∀ i : Nat, i < 10 → ef.getD i 0 ≤ 18446744073709551615 ∧ tpart (ef.getD i 0) = ep.getD i 0 ∧ tbyte (ef.getD i 0) = ec.getD i 0 ∧ ep.getD i 0 ≤ 18446744073709551615 ∧ tsame (ep.getD i 0) (ep.getD i 0) = true := by decide +kernel
theorem inf1_any (w : World) : Calls Try.prog 33 #[.int .i64 1] w fun e w' => e = .returned (.float .f64 9218868437227405312) ∧ w = w' := by
  have e2 := ext_from
  go_enter Try.func33, Try.ntmps33
  go_wp2
  go_ret
  exact ⟨rfl, rfl⟩
theorem inf0_any (w : World) : Calls Try.prog 33 #[.int .i64 (-1)] w fun e w' => e = .returned (.float .f64 18442240474082181120) ∧ w = w' := by
  have e2 := ext_from
  go_enter Try.func33, Try.ntmps33
  go_wp2
  go_ret
  exact ⟨rfl, rfl⟩
theorem three_cells (w : World) (A B C : Array Value) (x y z : TypeId) (i : Nat) :
    (((w.alloc (.cells A x)).alloc (.cells B y)).alloc (.cells C z)).drew.cell? ⟨w.heap.size, i, none⟩ = A[i]? ∧
    (((w.alloc (.cells A x)).alloc (.cells B y)).alloc (.cells C z)).drew.cell? ⟨w.heap.size + 1, i, none⟩ = B[i]? ∧
    (((w.alloc (.cells A x)).alloc (.cells B y)).alloc (.cells C z)).drew.cell? ⟨w.heap.size + 1 + 1, i, none⟩ = C[i]? := by
  refine ⟨?_, ?_, ?_⟩ <;> simp [go_sem]
theorem tintEdges_walk (a : Int) (wa : (Lit.int .i64 a).wf = true) (w : World) :
    Calls Try.prog 7 #[.int .i64 a] w fun e w' => e = .returned (.bool true) ∧ Below w.heap.size w w' := by
  obtain ⟨i, hi, hidx⟩ : ∃ i : Nat, i < 10 ∧ wrap64 ((IntKind.u64.wrap a).tmod 10) = (i : Int) := by
    have h0 : 0 ≤ IntKind.u64.wrap a := by unfold IntKind.wrap; simp [IntKind.bits, IntKind.signed]; omega
    have h1 := Int.tmod_nonneg 10 h0
    have h2 := Int.tmod_lt_of_pos (IntKind.u64.wrap a) (show (0 : Int) < 10 by decide)
    refine ⟨((IntKind.u64.wrap a).tmod 10).toNat, by omega, ?_⟩
    unfold wrap64
    omega
  obtain ⟨q1, q2, q3, q4, q5⟩ := edge_ok i hi
  have q1 := lt2S q1
  have q4 := lt2S q4
  have Q3 := Lib.hid q3
  have Q2 := Lib.hid q2
  have Q5 := Lib.hid q5
  have i0 : (0 : Int) ≤ (i : Int) := by omega
  have i1 : (i : Int) < 10 := by omega
  clear q3 q2 q5 wa
  go_enter Try.func7, Try.ntmps7
  go_wp2_with (first | (go_at_call 31; refine (mathNaN_any _).mono ?_; rintro e w' ⟨rfl, rfl⟩) | (go_at_call_of 33 (Value.int .i64 1); refine (inf1_any _).mono ?_; rintro e w' ⟨rfl, rfl⟩) | (go_at_call 33; refine (inf0_any _).mono ?_; rintro e w' ⟨rfl, rfl⟩) | (go_at_call 34; refine (copy_any _).mono ?_; rintro e w' ⟨rfl, rfl⟩))
  have arr : (#[Value.float FloatKind.f64 9221120237041090561, Value.float FloatKind.f64 9218868437227405312,
                  Value.float FloatKind.f64 18442240474082181120, Value.float FloatKind.f64 9223372036854775808,
                  Value.float FloatKind.f64 0, Value.float FloatKind.f64 1,
                  Value.float FloatKind.f64 4607182418800017407, Value.float FloatKind.f64 9218868437227405311,
                  Value.float FloatKind.f64 13830554455654793216, Value.float FloatKind.f64 4607182418800017408])[i]? = some (.float .f64 (ef.getD i 0)) ∧
      (#[Value.float FloatKind.f64 0, Value.float FloatKind.f64 4607182418800017408, Value.float FloatKind.f64 0,
              Value.float FloatKind.f64 0, Value.float FloatKind.f64 0, Value.float FloatKind.f64 1,
              Value.float FloatKind.f64 4607182418800017407, Value.float FloatKind.f64 4607182418800017408,
              Value.float FloatKind.f64 0, Value.float FloatKind.f64 4607182418800017408])[i]? = some (.float .f64 (ep.getD i 0)) ∧
      (#[Value.int IntKind.u8 0, Value.int IntKind.u8 255, Value.int IntKind.u8 0, Value.int IntKind.u8 0,
          Value.int IntKind.u8 0, Value.int IntKind.u8 0, Value.int IntKind.u8 255, Value.int IntKind.u8 255,
          Value.int IntKind.u8 0, Value.int IntKind.u8 255])[i]? = some (.int .u8 (ec.getD i 0 : Nat)) := by
    have : i = 0 ∨ i = 1 ∨ i = 2 ∨ i = 3 ∨ i = 4 ∨ i = 5 ∨ i = 6 ∨ i = 7 ∨ i = 8 ∨ i = 9 := by omega
    rcases this with rfl | rfl | rfl | rfl | rfl | rfl | rfl | rfl | rfl | rfl <;> exact ⟨rfl, rfl, rfl⟩
  obtain ⟨ar1, ar2, ar3⟩ := arr
  go_region_held3 (fun w' => w'.cell? ⟨w.heap.size, i, none⟩ = some (.float .f64 (ef.getD i 0)) ∧ w'.cell? ⟨w.heap.size + 1, i, none⟩ = some (.float .f64 (ep.getD i 0)) ∧ w'.cell? ⟨w.heap.size + 1 + 1, i, none⟩ = some (.int .u8 (ec.getD i 0 : Nat)))
    (first | exact ⟨(three_cells _ _ _ _ _ _ _ _).1.trans ar1, (three_cells _ _ _ _ _ _ _ _).2.1.trans ar2, (three_cells _ _ _ _ _ _ _ _).2.2.trans ar3⟩ | (refine ⟨?_, ?_, ?_⟩ <;> exact cell_later (by assumption) (by first | (simp [go_sem, ar1, ar2, ar3]; done) | simp [*, go_sem])) | (simp [*, go_sem]; done) | go_keep)
    (first
      | (go_at_call 13; refine (told1_any _).mono ?_; rintro e w1 ⟨rfl, hb1⟩)
      | (go_at_call 15; refine (part_any _ q1 _).mono ?_; rintro e w1 ⟨rfl, rfl⟩; rw [Q2.out])
      | (go_at_call 22; refine (byte_any _ q1 _).mono ?_; rintro e w1 ⟨rfl, rfl⟩; rw [Q3.out])
      | (go_at_call 14; refine (refFloat_any _ _ q4 q4 _).mono ?_; rintro e w1 ⟨rfl, rfl⟩; rw [Q5.out]))
  all_goals
    go_wp2_with fail
    go_ret
    exact ⟨rfl, (by repeat (first | exact Below.refl _ _ | (refine bnew ?_ _) | (refine Below.drew ?_) | (refine below_drewN ?_ _) | (refine bthen ?_ (by assumption))))⟩
end Go.Proofs.Ytnggfdjohejfgaa
