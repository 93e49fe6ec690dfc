/- runes: scalar, place, value, pieceOf, and the closures. -/
import Derived.Test.YtkngppkchaadhaaGreatChecked
import Derived.Test.YtkngppkchaadhaaGreatProg
import Derived.Test.YtkngppkchaadhaaGreatRows
import Derived.Test.YtkngppkchaadhaaGreatRowsOf
import Derived.Test.YtkngppkchaadhaaGreatPairRow
import Derived.Test.YtkngppkchaadhaaGreatRuneMath4
import Derived.WalkKit
import Derived.Lib.Hide
import Derived.IntWalk
import Derived.Deep.QuietTactic
import Derived.BigQuiet
import Derived.WalkLawsBesides
set_option linter.unusedVariables false
set_option linter.unusedSimpArgs false
namespace Go.Proofs.YtkngppkchaadhaaGreat
open Go.RowKit Ru

theorem infoPiece : ∃ i, Tryz.prog.info? 52 = some i ∧ i.zero = some (.agg #[.int .i64 0, .int .i64 0]) ∧ i.size = 2 ∧ i.bytes = 16 := info_parts (by kernel_rfl)
theorem infoRangeZ : ∃ i, Tryz.prog.info? 29 = some i ∧ i.zero = some (.agg #[.int .i32 0, .int .i32 0]) ∧ i.size = 2 ∧ i.bytes = 8 := info_parts (by kernel_rfl)
theorem ret_boolZ {a b : Bool} (h : a = b) : Ending.returned (.bool a) = .returned (.bool b) := by rw [h]
theorem ret_intZ {k : IntKind} {a b : Int} (h : a = b) : Ending.returned (.int k a) = .returned (.int k b) := by rw [h]

theorem scal_t {r : Int} (h : 0 ≤ r ∧ r ≤ 1114111 ∧ (r < 55296 ∨ 57344 ≤ r)) : true = scal r := ((scal_iff r).2 h).symm
theorem scal_f {r : Int} (h : ¬ (0 ≤ r ∧ r ≤ 1114111 ∧ (r < 55296 ∨ 57344 ≤ r))) : false = scal r := ((scal_not r).2 h).symm

theorem scalar_any (r : Int) (w : World) : Calls Tryz.prog 63 #[.int .i32 r] w fun e w' => e = .returned (.bool (scal r)) ∧ w = w' := by
  go_enter Tryz.func63, Tryz.ntmps63
  by_cases h1 : 0 ≤ r
  · by_cases h2 : r ≤ 1114111
    · by_cases h3 : r < 55296
      · go_wp2
        go_ret
        exact ⟨ret_boolZ (by first | exact scal_t (by omega) | exact scal_f (by omega)), rfl⟩
      · by_cases h4 : 57344 ≤ r
        · go_wp2
          go_ret
          exact ⟨ret_boolZ (by first | exact scal_t (by omega) | exact scal_f (by omega)), rfl⟩
        · go_wp2
          go_ret
          exact ⟨ret_boolZ (by first | exact scal_t (by omega) | exact scal_f (by omega)), rfl⟩
    · go_wp2
      go_ret
      exact ⟨ret_boolZ (by first | exact scal_t (by omega) | exact scal_f (by omega)), rfl⟩
  · go_wp2
    go_ret
    exact ⟨ret_boolZ (by first | exact scal_t (by omega) | exact scal_f (by omega)), rfl⟩

theorem place_any (r : Int) (w : World) (hr : -2147483648 ≤ r ∧ r ≤ 2147483647) : Calls Tryz.prog 62 #[.int .i32 r] w fun e w' => e = .returned (.int .i64 (plc r)) ∧ w = w' := by
  go_enter Tryz.func62, Tryz.ntmps62
  by_cases h1 : r < 0
  · go_wp2
    go_ret
    exact ⟨ret_intZ (by unfold plc; (repeat' split) <;> omega), rfl⟩
  by_cases h2 : r < 55296
  · go_wp2
    go_ret
    exact ⟨ret_intZ (by unfold plc; (repeat' split) <;> omega), rfl⟩
  by_cases h3 : r < 57344
  · go_wp2
    go_ret
    exact ⟨ret_intZ (by unfold plc; (repeat' split) <;> omega), rfl⟩
  by_cases h4 : r ≤ 1114111
  · go_wp2
    go_ret
    exact ⟨ret_intZ (by unfold plc; (repeat' split) <;> omega), rfl⟩
  · go_wp2
    go_ret
    exact ⟨ret_intZ (by unfold plc; (repeat' split) <;> omega), rfl⟩

theorem value_any (p : Int) (w : World) (hp : 0 ≤ p ∧ p ≤ 1112064) : Calls Tryz.prog 40 #[.int .i64 p] w fun e w' => e = .returned (.int .i32 (vlu p)) ∧ w = w' := by
  go_enter Tryz.func40, Tryz.ntmps40
  by_cases h1 : p < 55296
  · go_wp2
    go_ret
    exact ⟨ret_intZ (by unfold vlu; simp [IntKind.wrap, IntKind.bits, IntKind.signed]; (repeat' split) <;> omega), rfl⟩
  · go_wp2
    go_ret
    exact ⟨ret_intZ (by unfold vlu; simp [IntKind.wrap, IntKind.bits, IntKind.signed]; (repeat' split) <;> omega), rfl⟩
end Go.Proofs.YtkngppkchaadhaaGreat
