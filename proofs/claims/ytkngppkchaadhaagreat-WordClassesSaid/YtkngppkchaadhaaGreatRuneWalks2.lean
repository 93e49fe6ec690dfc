/- runes: pieceOf, the sort's closures. -/
import Derived.Test.YtkngppkchaadhaaGreatRuneWalks
import Derived.Sort.Grow
set_option linter.unusedVariables false
set_option linter.unusedSimpArgs false
namespace Go.Proofs.YtkngppkchaadhaaGreat
open Go.RowKit Ru Go.Sort

def cmpIZ (x y : Int) : Int := if x < y then -1 else if y < x then 1 else 0
theorem isNaN_anyZ (x : Int) (w : World) : Calls Tryz.prog 65 #[.int .i64 x] w fun e w' => e = .returned (.bool false) ∧ w = w' := by
  go_enter Tryz.func65, Tryz.ntmps65
  go_wp2
  go_ret
  exact ⟨ret_boolZ (by simp), rfl⟩
theorem compare_anyZ (x y : Int) (w : World) : Calls Tryz.prog 39 #[.int .i64 x, .int .i64 y] w fun e w' => e = .returned (.int .i64 (cmpIZ x y)) ∧ w = w' := by
  go_enter Tryz.func39, Tryz.ntmps39
  by_cases h1 : x < y
  · go_wp2_with (go_at_call 65; refine (isNaN_anyZ _ _).mono ?_; rintro e w' ⟨rfl, rfl⟩)
    go_ret
    exact ⟨ret_intZ (by unfold cmpIZ; (repeat' split) <;> omega), rfl⟩
  · by_cases h2 : y < x
    · go_wp2_with (go_at_call 65; refine (isNaN_anyZ _ _).mono ?_; rintro e w' ⟨rfl, rfl⟩)
      go_ret
      exact ⟨ret_intZ (by unfold cmpIZ; (repeat' split) <;> omega), rfl⟩
    · go_wp2_with (go_at_call 65; refine (isNaN_anyZ _ _).mono ?_; rintro e w' ⟨rfl, rfl⟩)
      go_ret
      exact ⟨ret_intZ (by unfold cmpIZ; (repeat' split) <;> omega), rfl⟩
theorem pieces1_any (x y : Int × Int) (w : World) : Calls Tryz.prog 38 #[.agg #[.int .i64 x.1, .int .i64 x.2], .agg #[.int .i64 y.1, .int .i64 y.2]] w fun e w' => e = .returned (.int .i64 (cmpIZ x.1 y.1)) ∧ ∃ q os, w' = grow (w.drewN q) os := by
  go_enter Tryz.func38, Tryz.ntmps38
  go_wp2_with (go_at_call 39; refine (compare_anyZ _ _ _).mono ?_; rintro e w' ⟨rfl, rfl⟩)
  go_ret
  exact ⟨rfl, 0, _, by rw [alloc_eq_grow, alloc_eq_grow, grow_grow]; rfl⟩
theorem pieceOf_any (x : Int × Int) (w : World) (h1 : -2147483648 ≤ x.1 ∧ x.1 ≤ 2147483647) (h2 : -2147483648 ≤ x.2 ∧ x.2 ≤ 2147483647) :
    Calls Tryz.prog 36 #[.agg #[.int .i32 x.1, .int .i32 x.2]] w fun e w' => e = .returned (.agg #[.int .i64 (pcOf x).1, .int .i64 (pcOf x).2]) ∧ Below w.heap.size w w' := by
  have hp := plc_range x.2
  by_cases hs : scal x.2 = true
  · have e : pcOf x = (plc x.1, plc x.2 + 1) := by unfold pcOf; rw [if_pos hs]
    rw [e]
    clear e
    go_enter Tryz.func36, Tryz.ntmps36
    go_wp2_with (first
      | (go_at_call 62; refine (place_any _ _ (by assumption)).mono ?_; rintro e w' ⟨rfl, rfl⟩)
      | (go_at_call 63; refine (scalar_any _ _).mono ?_; rintro e w' ⟨rfl, rfl⟩))
    exact bodyPost_ret (v := .agg #[.int .i64 (plc x.1), .int .i64 (plc x.2 + 1)]) (by simp [results, Tryz.results36, go_sem]) rfl ⟨rfl, by repeat (first | exact Below.refl _ _ | assumption | (refine Below.drew ?_) | (refine below_drewN ?_ _) | (refine bel_new ?_ _) | (refine bel_then ?_ (by assumption)))⟩
  · have hs' : scal x.2 = false := by simpa using hs
    have e : pcOf x = (plc x.1, plc x.2) := by unfold pcOf; rw [if_neg hs]
    rw [e]
    clear e hs
    go_enter Tryz.func36, Tryz.ntmps36
    go_wp2_with (first
      | (go_at_call 62; refine (place_any _ _ (by assumption)).mono ?_; rintro e w' ⟨rfl, rfl⟩)
      | (go_at_call 63; refine (scalar_any _ _).mono ?_; rintro e w' ⟨rfl, rfl⟩))
    exact bodyPost_ret (v := .agg #[.int .i64 (plc x.1), .int .i64 (plc x.2)]) (by simp [results, Tryz.results36, go_sem]) rfl ⟨rfl, by repeat (first | exact Below.refl _ _ | assumption | (refine Below.drew ?_) | (refine below_drewN ?_ _) | (refine bel_new ?_ _) | (refine bel_then ?_ (by assumption)))⟩
end Go.Proofs.YtkngppkchaadhaaGreat
