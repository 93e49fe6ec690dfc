/- runes: pieceOf, the sort's closures. -/
import Derived.Test.YtmgfpcblbbpahaaGreatChecked
import Derived.Test.YtmgfpcblbbpahaaGreatProg
import Derived.Test.YtmgfpcblbbpahaaGreatRows
import Derived.Test.YtmgfpcblbbpahaaGreatPairRow
import Derived.Test.YtmgfpcblbbpahaaGreatRuneMath4
import Derived.WalkKit
import Derived.Lib.Hide
import Derived.IntWalk
import Derived.Deep.QuietTactic
import Derived.BigQuiet
import Derived.WalkLawsBesides
import Derived.Sort.Grow
set_option linter.unusedVariables false
set_option linter.unusedSimpArgs false
namespace Go.Proofs.YtmgfpcblbbpahaaGreat.Rn
open Go.RowKit Ru

theorem infoPiece : ∃ i, Tryz.prog.info? 98 = some i ∧ i.zero = some (.agg #[.int .i64 0, .int .i64 0]) ∧ i.size = 2 ∧ i.bytes = 16 := info_parts (by kernel_rfl)
theorem infoRange : ∃ i, Tryz.prog.info? 54 = some i ∧ i.zero = some (.agg #[.int .i32 0, .int .i32 0]) ∧ i.size = 2 ∧ i.bytes = 8 := info_parts (by kernel_rfl)
theorem ret_bool {a b : Bool} (h : a = b) : Ending.returned (.bool a) = .returned (.bool b) := by rw [h]
theorem ret_int {k : IntKind} {a b : Int} (h : a = b) : Ending.returned (.int k a) = .returned (.int k b) := by rw [h]

theorem scal_t {r : Int} (h : 0 ≤ r ∧ r ≤ 1114111 ∧ (r < 55296 ∨ 57344 ≤ r)) : true = scal r := ((scal_iff r).2 h).symm
theorem scal_f {r : Int} (h : ¬ (0 ≤ r ∧ r ≤ 1114111 ∧ (r < 55296 ∨ 57344 ≤ r))) : false = scal r := ((scal_not r).2 h).symm

theorem scalar_any (r : Int) (w : World) : Calls Tryz.prog 66 #[.int .i32 r] w fun e w' => e = .returned (.bool (scal r)) ∧ w = w' := by
  go_enter Tryz.func66, Tryz.ntmps66
  by_cases h1 : 0 ≤ r
  · by_cases h2 : r ≤ 1114111
    · by_cases h3 : r < 55296
      · go_wp2
        go_ret
        exact ⟨ret_bool (by first | exact scal_t (by omega) | exact scal_f (by omega)), rfl⟩
      · by_cases h4 : 57344 ≤ r
        · go_wp2
          go_ret
          exact ⟨ret_bool (by first | exact scal_t (by omega) | exact scal_f (by omega)), rfl⟩
        · go_wp2
          go_ret
          exact ⟨ret_bool (by first | exact scal_t (by omega) | exact scal_f (by omega)), rfl⟩
    · go_wp2
      go_ret
      exact ⟨ret_bool (by first | exact scal_t (by omega) | exact scal_f (by omega)), rfl⟩
  · go_wp2
    go_ret
    exact ⟨ret_bool (by first | exact scal_t (by omega) | exact scal_f (by omega)), rfl⟩

theorem place_any (r : Int) (w : World) (hr : -2147483648 ≤ r ∧ r ≤ 2147483647) : Calls Tryz.prog 101 #[.int .i32 r] w fun e w' => e = .returned (.int .i64 (plc r)) ∧ w = w' := by
  go_enter Tryz.func101, Tryz.ntmps101
  by_cases h1 : r < 0
  · go_wp2
    go_ret
    exact ⟨ret_int (by unfold plc; (repeat' split) <;> omega), rfl⟩
  by_cases h2 : r < 55296
  · go_wp2
    go_ret
    exact ⟨ret_int (by unfold plc; (repeat' split) <;> omega), rfl⟩
  by_cases h3 : r < 57344
  · go_wp2
    go_ret
    exact ⟨ret_int (by unfold plc; (repeat' split) <;> omega), rfl⟩
  by_cases h4 : r ≤ 1114111
  · go_wp2
    go_ret
    exact ⟨ret_int (by unfold plc; (repeat' split) <;> omega), rfl⟩
  · go_wp2
    go_ret
    exact ⟨ret_int (by unfold plc; (repeat' split) <;> omega), rfl⟩

theorem value_any (p : Int) (w : World) (hp : 0 ≤ p ∧ p ≤ 1112064) : Calls Tryz.prog 94 #[.int .i64 p] w fun e w' => e = .returned (.int .i32 (vlu p)) ∧ w = w' := by
  go_enter Tryz.func94, Tryz.ntmps94
  by_cases h1 : p < 55296
  · go_wp2
    go_ret
    exact ⟨ret_int (by unfold vlu; simp [IntKind.wrap, IntKind.bits, IntKind.signed]; (repeat' split) <;> omega), rfl⟩
  · go_wp2
    go_ret
    exact ⟨ret_int (by unfold vlu; simp [IntKind.wrap, IntKind.bits, IntKind.signed]; (repeat' split) <;> omega), rfl⟩
end Go.Proofs.YtmgfpcblbbpahaaGreat.Rn

namespace Go.Proofs.YtmgfpcblbbpahaaGreat.Rn
open Go.RowKit Ru Go.Sort

def cmpI (x y : Int) : Int := if x < y then -1 else if y < x then 1 else 0
theorem isNaN_any (x : Int) (w : World) : Calls Tryz.prog 105 #[.int .i64 x] w fun e w' => e = .returned (.bool false) ∧ w = w' := by
  go_enter Tryz.func105, Tryz.ntmps105
  go_wp2
  go_ret
  exact ⟨ret_bool (by simp), rfl⟩
theorem compare_any (x y : Int) (w : World) : Calls Tryz.prog 88 #[.int .i64 x, .int .i64 y] w fun e w' => e = .returned (.int .i64 (cmpI x y)) ∧ w = w' := by
  go_enter Tryz.func88, Tryz.ntmps88
  by_cases h1 : x < y
  · go_wp2_with (go_at_call 105; refine (isNaN_any _ _).mono ?_; rintro e w' ⟨rfl, rfl⟩)
    go_ret
    exact ⟨ret_int (by unfold cmpI; (repeat' split) <;> omega), rfl⟩
  · by_cases h2 : y < x
    · go_wp2_with (go_at_call 105; refine (isNaN_any _ _).mono ?_; rintro e w' ⟨rfl, rfl⟩)
      go_ret
      exact ⟨ret_int (by unfold cmpI; (repeat' split) <;> omega), rfl⟩
    · go_wp2_with (go_at_call 105; refine (isNaN_any _ _).mono ?_; rintro e w' ⟨rfl, rfl⟩)
      go_ret
      exact ⟨ret_int (by unfold cmpI; (repeat' split) <;> omega), rfl⟩
theorem pieces1_any (x y : Int × Int) (w : World) : Calls Tryz.prog 87 #[.agg #[.int .i64 x.1, .int .i64 x.2], .agg #[.int .i64 y.1, .int .i64 y.2]] w fun e w' => e = .returned (.int .i64 (cmpI x.1 y.1)) ∧ ∃ q os, w' = grow (w.drewN q) os := by
  go_enter Tryz.func87, Tryz.ntmps87
  go_wp2_with (go_at_call 88; refine (compare_any _ _ _).mono ?_; rintro e w' ⟨rfl, rfl⟩)
  go_ret
  exact ⟨rfl, 0, _, by rw [alloc_eq_grow, alloc_eq_grow, grow_grow]; rfl⟩
theorem pieceOf_any (x : Int × Int) (w : World) (h1 : -2147483648 ≤ x.1 ∧ x.1 ≤ 2147483647) (h2 : -2147483648 ≤ x.2 ∧ x.2 ≤ 2147483647) :
    Calls Tryz.prog 85 #[.agg #[.int .i32 x.1, .int .i32 x.2]] w fun e w' => e = .returned (.agg #[.int .i64 (pcOf x).1, .int .i64 (pcOf x).2]) ∧ Below w.heap.size w w' := by
  have hp := plc_range x.2
  by_cases hs : scal x.2 = true
  · have e : pcOf x = (plc x.1, plc x.2 + 1) := by unfold pcOf; rw [if_pos hs]
    rw [e]
    clear e
    go_enter Tryz.func85, Tryz.ntmps85
    go_wp2_with (first
      | (go_at_call 101; refine (place_any _ _ (by assumption)).mono ?_; rintro e w' ⟨rfl, rfl⟩)
      | (go_at_call 66; refine (scalar_any _ _).mono ?_; rintro e w' ⟨rfl, rfl⟩))
    exact bodyPost_ret (v := .agg #[.int .i64 (plc x.1), .int .i64 (plc x.2 + 1)]) (by simp [results, Tryz.results85, go_sem]) rfl ⟨rfl, by repeat (first | exact Below.refl _ _ | assumption | (refine Below.drew ?_) | (refine below_drewN ?_ _) | (refine bel_new ?_ _) | (refine bel_then ?_ (by assumption)))⟩
  · have hs' : scal x.2 = false := by simpa using hs
    have e : pcOf x = (plc x.1, plc x.2) := by unfold pcOf; rw [if_neg hs]
    rw [e]
    clear e hs
    go_enter Tryz.func85, Tryz.ntmps85
    go_wp2_with (first
      | (go_at_call 101; refine (place_any _ _ (by assumption)).mono ?_; rintro e w' ⟨rfl, rfl⟩)
      | (go_at_call 66; refine (scalar_any _ _).mono ?_; rintro e w' ⟨rfl, rfl⟩))
    exact bodyPost_ret (v := .agg #[.int .i64 (plc x.1), .int .i64 (plc x.2)]) (by simp [results, Tryz.results85, go_sem]) rfl ⟨rfl, by repeat (first | exact Below.refl _ _ | assumption | (refine Below.drew ?_) | (refine below_drewN ?_ _) | (refine bel_new ?_ _) | (refine bel_then ?_ (by assumption)))⟩
end Go.Proofs.YtmgfpcblbbpahaaGreat.Rn
