/- decode, the reference: second. -/
import Derived.Test.YtkngppkchaadhaaDecWhole
set_option linter.unusedVariables false
set_option linter.unusedSimpArgs false
namespace Go.Proofs.Ytkngppkchaadhaa
open Go.RowKit De

set_option maxHeartbeats 4000000 in
set_option maxRecDepth 1000000 in
theorem refSecond_any (c : Int) (w : World) (hc : 0 ≤ c ∧ c < 256) : Calls Try.prog 74 #[.int .u8 c] w fun e w' => e = .returned (.tuple #[.int .i64 (tbl c).1, .int .i64 (tbl c).2.1, .int .i64 (tbl c).2.2]) ∧ w = w' := by
  rcases (by omega : c ≤ 127 ∨ (194 ≤ c ∧ c ≤ 223) ∨ c = 224 ∨ c = 237 ∨ (225 ≤ c ∧ c ≤ 236) ∨ (238 ≤ c ∧ c ≤ 239) ∨ c = 240 ∨ (241 ≤ c ∧ c ≤ 243) ∨ c = 244 ∨ (128 ≤ c ∧ c ≤ 193) ∨ (245 ≤ c ∧ c ≤ 255)) with h | h | rfl | rfl | h | h | rfl | h | rfl | h | h
  · have d1 : decide (c < 128) = true := by simp; omega
    have ht : tbl c = (1, 0, 0) := by unfold tbl; repeat (first | rfl | rw [if_pos (by omega)] | rw [if_neg (by omega)])
    rw [ht]
    clear ht
    go_enter Try.func74, Try.ntmps74
    go_wp2
    go_ret3
    exact ⟨rfl, rfl⟩
  · obtain ⟨h1, h2⟩ := h
    have d1 : decide (c < 128) = false := by simp; omega
    have d2 : decide (194 ≤ c) = true := by simp; omega
    have e2 : decide (c ≤ 223) = true := by simp; omega
    have ht : tbl c = (2, 128, 191) := by unfold tbl; repeat (first | rfl | rw [if_pos (by omega)] | rw [if_neg (by omega)])
    rw [ht]
    clear ht
    go_enter Try.func74, Try.ntmps74
    go_wp2
    go_ret3
    exact ⟨rfl, rfl⟩
  · have ht : tbl 224 = (3, 160, 191) := by decide
    rw [ht]
    clear ht
    go_enter Try.func74, Try.ntmps74
    go_wp2
    go_ret3
    exact ⟨rfl, rfl⟩
  · have ht : tbl 237 = (3, 128, 159) := by decide
    rw [ht]
    clear ht
    go_enter Try.func74, Try.ntmps74
    go_wp2
    go_ret3
    exact ⟨rfl, rfl⟩
  · obtain ⟨h1, h2⟩ := h
    have d1 : decide (c < 128) = false := by simp; omega
    have d2 : decide (194 ≤ c) = true := by simp; omega
    have e2 : decide (c ≤ 223) = false := by simp; omega
    have d3 : (c == 224) = false := by simp; omega
    have d4 : (c == 237) = false := by simp; omega
    have d5 : decide (225 ≤ c) = true := by simp; omega
    have e5 : decide (c ≤ 239) = true := by simp; omega
    have ht : tbl c = (3, 128, 191) := by unfold tbl; repeat (first | rfl | rw [if_pos (by omega)] | rw [if_neg (by omega)])
    rw [ht]
    clear ht
    go_enter Try.func74, Try.ntmps74
    go_wp2
    go_ret3
    exact ⟨rfl, rfl⟩
  · obtain ⟨h1, h2⟩ := h
    have d1 : decide (c < 128) = false := by simp; omega
    have d2 : decide (194 ≤ c) = true := by simp; omega
    have e2 : decide (c ≤ 223) = false := by simp; omega
    have d3 : (c == 224) = false := by simp; omega
    have d4 : (c == 237) = false := by simp; omega
    have d5 : decide (225 ≤ c) = true := by simp; omega
    have e5 : decide (c ≤ 239) = true := by simp; omega
    have ht : tbl c = (3, 128, 191) := by unfold tbl; repeat (first | rfl | rw [if_pos (by omega)] | rw [if_neg (by omega)])
    rw [ht]
    clear ht
    go_enter Try.func74, Try.ntmps74
    go_wp2
    go_ret3
    exact ⟨rfl, rfl⟩
  · have ht : tbl 240 = (4, 144, 191) := by decide
    rw [ht]
    clear ht
    go_enter Try.func74, Try.ntmps74
    go_wp2
    go_ret3
    exact ⟨rfl, rfl⟩
  · obtain ⟨h1, h2⟩ := h
    have d1 : decide (c < 128) = false := by simp; omega
    have d2 : decide (194 ≤ c) = true := by simp; omega
    have e2 : decide (c ≤ 223) = false := by simp; omega
    have d3 : (c == 224) = false := by simp; omega
    have d4 : (c == 237) = false := by simp; omega
    have d5 : decide (225 ≤ c) = true := by simp; omega
    have e5 : decide (c ≤ 239) = false := by simp; omega
    have d6 : (c == 240) = false := by simp; omega
    have d7 : decide (241 ≤ c) = true := by simp; omega
    have e7 : decide (c ≤ 243) = true := by simp; omega
    have ht : tbl c = (4, 128, 191) := by unfold tbl; repeat (first | rfl | rw [if_pos (by omega)] | rw [if_neg (by omega)])
    rw [ht]
    clear ht
    go_enter Try.func74, Try.ntmps74
    go_wp2
    go_ret3
    exact ⟨rfl, rfl⟩
  · have ht : tbl 244 = (4, 128, 143) := by decide
    rw [ht]
    clear ht
    go_enter Try.func74, Try.ntmps74
    go_wp2
    go_ret3
    exact ⟨rfl, rfl⟩
  · obtain ⟨h1, h2⟩ := h
    have d1 : decide (c < 128) = false := by simp; omega
    have d2 : decide (194 ≤ c) = false := by simp; omega
    have d3 : (c == 224) = false := by simp; omega
    have d4 : (c == 237) = false := by simp; omega
    have d5 : decide (225 ≤ c) = false := by simp; omega
    have d6 : (c == 240) = false := by simp; omega
    have d7 : decide (241 ≤ c) = false := by simp; omega
    have d8 : (c == 244) = false := by simp; omega
    have ht : tbl c = (0, 0, 0) := by unfold tbl; repeat (first | rfl | rw [if_pos (by omega)] | rw [if_neg (by omega)])
    rw [ht]
    clear ht
    go_enter Try.func74, Try.ntmps74
    go_wp2
    go_ret3
    exact ⟨rfl, rfl⟩
  · obtain ⟨h1, h2⟩ := h
    have d1 : decide (c < 128) = false := by simp; omega
    have d2 : decide (194 ≤ c) = true := by simp; omega
    have e2 : decide (c ≤ 223) = false := by simp; omega
    have d3 : (c == 224) = false := by simp; omega
    have d4 : (c == 237) = false := by simp; omega
    have d5 : decide (225 ≤ c) = true := by simp; omega
    have e5 : decide (c ≤ 239) = false := by simp; omega
    have d6 : (c == 240) = false := by simp; omega
    have d7 : decide (241 ≤ c) = true := by simp; omega
    have e7 : decide (c ≤ 243) = false := by simp; omega
    have d8 : (c == 244) = false := by simp; omega
    have ht : tbl c = (0, 0, 0) := by unfold tbl; repeat (first | rfl | rw [if_pos (by omega)] | rw [if_neg (by omega)])
    rw [ht]
    clear ht
    go_enter Try.func74, Try.ntmps74
    go_wp2
    go_ret3
    exact ⟨rfl, rfl⟩

end Go.Proofs.Ytkngppkchaadhaa
