/- Two rows of the same numbers are told the same. -/
import Derived.Test.YtjeploipaejepaaLineWalks
set_option linter.unusedVariables false
set_option linter.unusedSimpArgs false
namespace Go.Proofs.Ytjeploipaejepaa
open Go.RowKit

set_option maxHeartbeats 1000000 in
set_option maxRecDepth 1000000 in
theorem numbers_same (zs : List Int) (v u : Value) (w : World) (hr : Row w v zs.length (zs.map (Value.int .i64))) (hs : Row w u zs.length (zs.map (Value.int .i64))) (hl : zs.length ≤ 100000000) :
    Calls Try.prog 18 #[v, u] w fun e w' => e = .returned (.bool true) ∧ Below w.heap.size w w' := by
  obtain ⟨o, cap, rfl, hcap, hmax, hrow⟩ := hr
  obtain ⟨o2, cap2, rfl, hcap2, hmax2, hrow2⟩ := hs
  go_enter Try.func18, Try.ntmps18
  go_wp2
  go_loopw [5] (fun i wr => ∃ k : Nat, k ≤ zs.length ∧ i = .int .i64 k ∧ Below w.heap.size w wr)
    (fun i _ => zs.length - (intOf i).toNat)
  case atStart => exact ⟨0, Nat.zero_le _, rfl, Below.refl _ _⟩
  case round =>
    obtain ⟨k, hk, rfl, hbel⟩ := hrel
    by_cases hk2 : k < zs.length
    · rcases hrow with h0 | ⟨b, off, rfl, hlt, hc⟩
      · omega
      rcases hrow2 with h0 | ⟨b2, off2, rfl, hlt2, hc2⟩
      · omega
      obtain ⟨x, hx⟩ : ∃ x, x = zs.getD k 0 := ⟨_, rfl⟩
      have hcx : wr.cell? ⟨b, off + k, none⟩ = some (.int .i64 x) := by rw [hbel.cell hlt]; rw [hx]; exact hc k _ (getElem?_ints hk2)
      have hcx2 : wr.cell? ⟨b2, off2 + k, none⟩ = some (.int .i64 x) := by rw [hbel.cell hlt2]; rw [hx]; exact hc2 k _ (getElem?_ints hk2)
      clear hc hc2 hx
      go_wp2
      go_region
      all_goals (try go_wp2)
      all_goals go_roundw
      all_goals first
        | (case rel => exact ⟨k + 1, by omega, by go_num, by repeat (first | exact Below.refl _ _ | assumption | (refine Below.drew ?_) | (refine below_drewN ?_ _))⟩)
        | (case measure => simp [intOf]; omega)
    · go_wp2
      go_ret
      exact ⟨rfl, by repeat (first | exact Below.refl _ _ | assumption | (refine Below.drew ?_) | (refine below_drewN ?_ _))⟩

set_option maxHeartbeats 1000000 in
set_option maxRecDepth 1000000 in
theorem ints_same (zs : List Int) (v u : Value) (w : World) (hr : Row w v zs.length (zs.map (Value.int .i64))) (hs : Row w u zs.length (zs.map (Value.int .i64))) (hl : zs.length ≤ 100000000) :
    Calls Try.prog 31 #[v, u] w fun e w' => e = .returned (.bool true) ∧ Below w.heap.size w w' := by
  obtain ⟨o, cap, rfl, hcap, hmax, hrow⟩ := hr
  obtain ⟨o2, cap2, rfl, hcap2, hmax2, hrow2⟩ := hs
  go_enter Try.func31, Try.ntmps31
  go_wp2
  go_loopw [5] (fun i wr => ∃ k : Nat, k ≤ zs.length ∧ i = .int .i64 k ∧ Below w.heap.size w wr)
    (fun i _ => zs.length - (intOf i).toNat)
  case atStart => exact ⟨0, Nat.zero_le _, rfl, Below.refl _ _⟩
  case round =>
    obtain ⟨k, hk, rfl, hbel⟩ := hrel
    by_cases hk2 : k < zs.length
    · rcases hrow with h0 | ⟨b, off, rfl, hlt, hc⟩
      · omega
      rcases hrow2 with h0 | ⟨b2, off2, rfl, hlt2, hc2⟩
      · omega
      obtain ⟨x, hx⟩ : ∃ x, x = zs.getD k 0 := ⟨_, rfl⟩
      have hcx : wr.cell? ⟨b, off + k, none⟩ = some (.int .i64 x) := by rw [hbel.cell hlt]; rw [hx]; exact hc k _ (getElem?_ints hk2)
      have hcx2 : wr.cell? ⟨b2, off2 + k, none⟩ = some (.int .i64 x) := by rw [hbel.cell hlt2]; rw [hx]; exact hc2 k _ (getElem?_ints hk2)
      clear hc hc2 hx
      go_wp2
      go_region
      all_goals (try go_wp2)
      all_goals go_roundw
      all_goals first
        | (case rel => exact ⟨k + 1, by omega, by go_num, by repeat (first | exact Below.refl _ _ | assumption | (refine Below.drew ?_) | (refine below_drewN ?_ _))⟩)
        | (case measure => simp [intOf]; omega)
    · go_wp2
      go_ret
      exact ⟨rfl, by repeat (first | exact Below.refl _ _ | assumption | (refine Below.drew ?_) | (refine below_drewN ?_ _))⟩
end Go.Proofs.Ytjeploipaejepaa
