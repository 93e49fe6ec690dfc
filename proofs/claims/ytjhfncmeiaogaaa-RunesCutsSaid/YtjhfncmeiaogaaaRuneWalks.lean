/- runes: scalar, place, value, pieceOf, and the closures. -/
import Derived.Test.YtjhfncmeiaogaaaChecked
import Derived.Test.YtjhfncmeiaogaaaProg
import Derived.Test.YtjhfncmeiaogaaaRows
import Derived.Test.YtjhfncmeiaogaaaRowsOf
import Derived.Test.YtjhfncmeiaogaaaPairRow
import Derived.Test.YtjhfncmeiaogaaaRuneMath4
import Derived.WalkKit
import Derived.Lib.Hide
import Derived.IntWalk
import Derived.Deep.QuietTactic
import Derived.BigQuiet
import Derived.WalkLawsBesides
set_option linter.unusedVariables false
set_option linter.unusedSimpArgs false
namespace Go.Proofs.Ytjhfncmeiaogaaa
open Go.RowKit Ru

theorem infoPiece : ∃ i, Try.prog.info? 82 = some i ∧ i.zero = some (.agg #[.int .i64 0, .int .i64 0]) ∧ i.size = 2 ∧ i.bytes = 16 := info_parts (by kernel_rfl)
theorem infoRange : ∃ i, Try.prog.info? 59 = some i ∧ i.zero = some (.agg #[.int .i32 0, .int .i32 0]) ∧ i.size = 2 ∧ i.bytes = 8 := info_parts (by kernel_rfl)
theorem ret_bool {a b : Bool} (h : a = b) : Ending.returned (.bool a) = .returned (.bool b) := by rw [h]
theorem ret_int {k : IntKind} {a b : Int} (h : a = b) : Ending.returned (.int k a) = .returned (.int k b) := by rw [h]

theorem scal_t {r : Int} (h : 0 ≤ r ∧ r ≤ 1114111 ∧ (r < 55296 ∨ 57344 ≤ r)) : true = scal r := ((scal_iff r).2 h).symm
theorem scal_f {r : Int} (h : ¬ (0 ≤ r ∧ r ≤ 1114111 ∧ (r < 55296 ∨ 57344 ≤ r))) : false = scal r := ((scal_not r).2 h).symm

theorem scalar_any (r : Int) (w : World) : Calls Try.prog 51 #[.int .i32 r] w fun e w' => e = .returned (.bool (scal r)) ∧ w = w' := by
  go_enter Try.func51, Try.ntmps51
  by_cases h1 : 0 ≤ r
  · by_cases h2 : r ≤ 1114111
    · by_cases h3 : r < 55296
      · go_wp2
        go_ret
        exact ⟨ret_bool (by first | exact scal_t (by omega) | exact scal_f (by omega)), rfl⟩
      · by_cases h4 : 57344 ≤ r
        · go_wp2
          go_ret
          exact ⟨ret_bool (by first | exact scal_t (by omega) | exact scal_f (by omega)), rfl⟩
        · go_wp2
          go_ret
          exact ⟨ret_bool (by first | exact scal_t (by omega) | exact scal_f (by omega)), rfl⟩
    · go_wp2
      go_ret
      exact ⟨ret_bool (by first | exact scal_t (by omega) | exact scal_f (by omega)), rfl⟩
  · go_wp2
    go_ret
    exact ⟨ret_bool (by first | exact scal_t (by omega) | exact scal_f (by omega)), rfl⟩

theorem place_any (r : Int) (w : World) (hr : -2147483648 ≤ r ∧ r ≤ 2147483647) : Calls Try.prog 52 #[.int .i32 r] w fun e w' => e = .returned (.int .i64 (plc r)) ∧ w = w' := by
  go_enter Try.func52, Try.ntmps52
  by_cases h1 : r < 0
  · go_wp2
    go_ret
    exact ⟨ret_int (by unfold plc; (repeat' split) <;> omega), rfl⟩
  by_cases h2 : r < 55296
  · go_wp2
    go_ret
    exact ⟨ret_int (by unfold plc; (repeat' split) <;> omega), rfl⟩
  by_cases h3 : r < 57344
  · go_wp2
    go_ret
    exact ⟨ret_int (by unfold plc; (repeat' split) <;> omega), rfl⟩
  by_cases h4 : r ≤ 1114111
  · go_wp2
    go_ret
    exact ⟨ret_int (by unfold plc; (repeat' split) <;> omega), rfl⟩
  · go_wp2
    go_ret
    exact ⟨ret_int (by unfold plc; (repeat' split) <;> omega), rfl⟩

theorem value_any (p : Int) (w : World) (hp : 0 ≤ p ∧ p ≤ 1112064) : Calls Try.prog 72 #[.int .i64 p] w fun e w' => e = .returned (.int .i32 (vlu p)) ∧ w = w' := by
  go_enter Try.func72, Try.ntmps72
  by_cases h1 : p < 55296
  · go_wp2
    go_ret
    exact ⟨ret_int (by unfold vlu; simp [IntKind.wrap, IntKind.bits, IntKind.signed]; (repeat' split) <;> omega), rfl⟩
  · go_wp2
    go_ret
    exact ⟨ret_int (by unfold vlu; simp [IntKind.wrap, IntKind.bits, IntKind.signed]; (repeat' split) <;> omega), rfl⟩
end Go.Proofs.Ytjhfncmeiaogaaa
