/- Slice expressions of bytes as facts for a walk: b[k:], b[:k], b[i:j]. -/
import Derived.Test.YtkngppkchaadhaaChecked
import Derived.Test.YtkngppkchaadhaaProg
import Derived.Test.YtkngppkchaadhaaRowsOf
import Derived.WalkKit
set_option linter.unusedVariables false
set_option linter.unusedSimpArgs false
namespace Go.Proofs.Ytkngppkchaadhaa
open Go.RowKit

theorem infoByte : ∃ i, Try.prog.info? 5 = some i ∧ i.zero = some (.int .u8 0) ∧ i.size = 1 ∧ i.bytes = 1 := info_parts (by kernel_rfl)
theorem elemBytes : Try.prog.elem 40 = 5 := by kernel_rfl
theorem undBytes : Try.prog.underlying 40 = some (.slice (Try.prog.elem 40)) := by rw [elemBytes]; exact Try.underlying40
theorem sizeBytes (w' : World) : (sizeOf (Try.prog.elem 40)).run Try.prog w' = .ok 1 w' := by
  obtain ⟨i0, hi, hz0, hz1, hz2⟩ := infoByte
  rw [elemBytes]; simp [sizeOf, run_typeInfo _ hi, hz1, go_sem]
theorem cutB_h (o : Option Addr) (cap n : Nat) (cs : List Value) (hcs : cs.length = n) (k : Nat) (hk : k ≤ n) (hc : n ≤ cap) : ∃ o1 c1,
    (∀ w' : World, (Instr.sliceAt 40 (.slice o n cap) none (some (.int .i64 k)) none).run Try.prog w' = .ok (.slice o1 k c1) w') ∧
      ∀ w', Row w' (.slice o n cap) n cs → Row w' (.slice o1 k c1) k (cs.take k) := by
  have e1 : ((k : Int)).toNat = k := by simp
  refine ⟨(if cap = 0 then o else o.map (·.add (0 * 1))), cap - 0, fun w' => ?_, fun w' hr => ?_⟩
  · rw [run_sliceAt_slice _ _ _ _ _ _ undBytes, run_slice_h w' 40 o n cap undBytes .i64 (k : Int) (by omega) (by omega), sizeBytes]
    rw [Result.andThen_ok, e1]
    unfold Go.sliced
    rw [Nat.sub_zero k]
  · have h := hr.sliced hcs (Nat.zero_le k) hk
    unfold Go.sliced at h
    rw [Nat.sub_zero k, List.drop_zero] at h
    exact h
theorem cutB_l (o : Option Addr) (cap n : Nat) (cs : List Value) (hcs : cs.length = n) (k : Nat) (hk : k ≤ n) (hc : n ≤ cap) : ∃ o1 c1,
    (∀ w' : World, (Instr.sliceAt 40 (.slice o n cap) (some (.int .i64 k)) none none).run Try.prog w' = .ok (.slice o1 (n - k) c1) w') ∧
      ∀ w', Row w' (.slice o n cap) n cs → Row w' (.slice o1 (n - k) c1) (n - k) (cs.drop k) := by
  have e1 : ((k : Int)).toNat = k := by simp
  refine ⟨(if cap = k then o else o.map (·.add (k * 1))), cap - k, fun w' => ?_, fun w' hr => ?_⟩
  · rw [run_sliceAt_slice _ _ _ _ _ _ undBytes, run_slice_l w' 40 o n cap undBytes .i64 (k : Int) (by omega) (by omega), sizeBytes]
    rw [Result.andThen_ok, e1]
    unfold Go.sliced
    rfl
  · have h := hr.sliced hcs hk (Nat.le_refl n)
    unfold Go.sliced at h
    rw [List.take_of_length_le (by simp; omega)] at h
    exact h
theorem cutB_m (o : Option Addr) (cap n : Nat) (cs : List Value) (hcs : cs.length = n) (i j : Nat) (hi : i ≤ j) (hj : j ≤ n) (hc : n ≤ cap) (y : Int) (hy : y = (j : Int)) : ∃ o1 c1,
    (∀ w' : World, (Instr.sliceAt 40 (.slice o n cap) (some (.int .i64 i)) (some (.int .i64 y)) none).run Try.prog w' = .ok (.slice o1 (j - i) c1) w') ∧
      ∀ w', Row w' (.slice o n cap) n cs → Row w' (.slice o1 (j - i) c1) (j - i) ((cs.drop i).take (j - i)) := by
  subst hy
  have e1 : ((i : Int)).toNat = i := by simp
  have e2 : ((j : Int)).toNat = j := by simp
  refine ⟨(if cap = i then o else o.map (·.add (i * 1))), cap - i, fun w' => ?_, fun w' hr => ?_⟩
  · rw [run_sliceAt_slice _ _ _ _ _ _ undBytes, run_slice_lh w' 40 o n cap undBytes .i64 .i64 (i : Int) (j : Int) (by omega) (by omega) (by omega), sizeBytes]
    rw [Result.andThen_ok, e1, e2]
    unfold Go.sliced
    rfl
  · have h := hr.sliced hcs hi hj
    unfold Go.sliced at h
    exact h
theorem cutB_hy (o : Option Addr) (cap n : Nat) (cs : List Value) (hcs : cs.length = n) (k : Nat) (hk : k ≤ n) (hc : n ≤ cap) (y : Int) (hy : y = (k : Int)) : ∃ o1 c1,
    (∀ w' : World, (Instr.sliceAt 40 (.slice o n cap) none (some (.int .i64 y)) none).run Try.prog w' = .ok (.slice o1 k c1) w') ∧
      ∀ w', Row w' (.slice o n cap) n cs → Row w' (.slice o1 k c1) k (cs.take k) := by
  subst hy; exact cutB_h o cap n cs hcs k hk hc
end Go.Proofs.Ytkngppkchaadhaa
