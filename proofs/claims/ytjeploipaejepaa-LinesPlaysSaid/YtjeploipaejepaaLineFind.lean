/- In which line a place is: sort.Search over the starts. -/
import Derived.Test.YtjeploipaejepaaLineWalks
set_option linter.unusedVariables false
set_option linter.unusedSimpArgs false
namespace Go.Proofs.Ytjeploipaejepaa
open Go.RowKit

set_option maxHeartbeats 1000000 in
set_option maxRecDepth 1000000 in
theorem above1_any (zs : List Int) (at' : Int) (v : Value) (i : Nat) (p q : Nat) (w : World) (hi : i < zs.length) (hr : Row w v zs.length (zs.map (Value.int .i64)))
    (hp : w.cell? ⟨p, 0, none⟩ = some v) (hq : w.cell? ⟨q, 0, none⟩ = some (.int .i64 at')) :
    Calls Try.prog 51 #[.int .i64 i, .pointer (some ⟨p, 0, none⟩), .pointer (some ⟨q, 0, none⟩)] w fun e w' => e = .returned (.bool (decide (at' < zs.getD i 0))) ∧ Below w.heap.size w w' := by
  obtain ⟨o, cap, rfl, hcap, hmax, ⟨h0, _⟩ | ⟨b, off, rfl, hlt, hc⟩⟩ := hr
  · omega
  obtain ⟨x, hx⟩ : ∃ x, x = zs.getD i 0 := ⟨_, rfl⟩
  have hcx : w.cell? ⟨b, off + i, none⟩ = some (.int .i64 x) := by rw [hx]; exact hc i _ (getElem?_ints hi)
  rw [← hx]
  clear hc hx
  go_enter Try.func51, Try.ntmps51
  go_wp2
  go_region
  all_goals (try go_wp2)
  all_goals go_ret
  all_goals exact ⟨by simp, by repeat (first | exact Below.refl _ _ | assumption | (refine Below.drew ?_) | (refine below_drewN ?_ _) | (refine bel_new ?_ _) | (refine bel_then ?_ (by assumption)))⟩

set_option maxHeartbeats 1000000 in
set_option maxRecDepth 1000000 in
theorem search_any (zs : List Int) (at' : Int) (v : Value) (p q : Nat) (w : World) (hn : zs.length ≤ 1000000000) (hr : Row w v zs.length (zs.map (Value.int .i64)))
    (hp : w.cell? ⟨p, 0, none⟩ = some v) (hq : w.cell? ⟨q, 0, none⟩ = some (.int .i64 at')) (hpb : p < w.heap.size) (hqb : q < w.heap.size)
    (hmono : ∀ i j, i < j → j < zs.length → zs.getD i 0 < zs.getD j 0) :
    Calls Try.prog 50 #[.int .i64 zs.length, .func (Fn.func 51) #[] #[.pointer (some ⟨p, 0, none⟩), .pointer (some ⟨q, 0, none⟩)]] w fun e w' =>
      ∃ c : Nat, e = .returned (.int .i64 c) ∧ c ≤ zs.length ∧ (∀ k, k < zs.length → (zs.getD k 0 ≤ at' ↔ k < c)) ∧ Below w.heap.size w w' := by
  go_enter Try.func50, Try.ntmps50
  go_wp2
  go_loopw [5, 6] (fun i j wr => ∃ a c : Nat, a ≤ c ∧ c ≤ zs.length ∧ i = .int .i64 a ∧ j = .int .i64 c ∧ (∀ k, k < a → zs.getD k 0 ≤ at') ∧ (∀ k, c ≤ k → k < zs.length → at' < zs.getD k 0) ∧ Below w.heap.size w wr)
    (fun i j _ => (intOf j).toNat - (intOf i).toNat)
  case atStart => exact ⟨0, zs.length, Nat.zero_le _, Nat.le_refl _, rfl, rfl, by omega, by omega, Below.refl _ _⟩
  case round =>
    obtain ⟨a, c, hac, hcl, rfl, rfl, hlo, hhi, hbel⟩ := hrel
    have Hlo := Lib.hid hlo
    have Hhi := Lib.hid hhi
    have Hm := Lib.hid hmono
    clear hlo hhi hmono
    have hpr : wr.cell? ⟨p, 0, none⟩ = some v := by rw [hbel.cell hpb]; exact hp
    have hqr : wr.cell? ⟨q, 0, none⟩ = some (.int .i64 at') := by rw [hbel.cell hqb]; exact hq
    clear hp hq
    have he : ((a : Int) + c) / 2 = (((a + c) / 2 : Nat) : Int) := by omega
    obtain ⟨h, hh⟩ : ∃ h, h = (a + c) / 2 := ⟨_, rfl⟩
    rw [← hh] at he
    obtain ⟨x, hx⟩ : ∃ x, x = zs.getD h 0 := ⟨_, rfl⟩
    have Hh := Lib.hid hh
    have Hx := Lib.hid hx
    clear hh hx
    go_wp2_with (first
      | (go_at_call 51; (try rw [he]); refine (above1_any zs at' v h p q _ (by have := Hh.out; omega) (hr.below hbel) hpr hqr).mono ?_; rintro e w1 ⟨rfl, hb1⟩; rw [← Hx.out])
      | go_in)
    · have hx := Hx.out
      have h1 : ¬ at' < x := by have h0 : (!decide (at' < x)) = true := by assumption
                                simpa using h0
      have hh := Hh.out
      have hac2 : a < c := by assumption
      go_roundw
      case rel =>
        refine ⟨h + 1, c, by omega, by omega, by (try rw [he]); go_num, rfl, ?_, Hhi.out, by repeat (first | exact Below.refl _ _ | assumption | (refine Below.drew ?_) | (refine below_drewN ?_ _) | (refine bel_new ?_ _) | (refine bel_then ?_ (by assumption)))⟩
        intro k h3
        rcases Nat.lt_or_ge k h with h5 | h5
        · have := Hm.out k h h5 (by omega); omega
        · have : k = h := by omega
          subst this; omega
      case measure => simp [intOf]; omega
    · have hx := Hx.out
      have h1 : at' < x := by have h0 : (!decide (at' < x)) = false := by assumption
                              simpa using h0
      have hh := Hh.out
      have hac2 : a < c := by assumption
      go_roundw
      case rel =>
        refine ⟨a, h, by omega, by omega, rfl, by first | rfl | rw [he], Hlo.out, ?_, by repeat (first | exact Below.refl _ _ | assumption | (refine Below.drew ?_) | (refine below_drewN ?_ _) | (refine bel_new ?_ _) | (refine bel_then ?_ (by assumption)))⟩
        intro k h3 h4
        rcases Nat.lt_or_ge h k with h5 | h5
        · have := Hm.out h k h5 h4; omega
        · have : k = h := by omega
          subst this; omega
      case measure => simp [intOf]; omega
    · have hx : ¬ a < c := by assumption
      have : a = c := by omega
      subst this
      go_ret
      refine ⟨a, rfl, hcl, ?_, by repeat (first | exact Below.refl _ _ | assumption | (refine Below.drew ?_) | (refine below_drewN ?_ _) | (refine bel_new ?_ _) | (refine bel_then ?_ (by assumption)))⟩
      intro k hk
      constructor
      · intro h1
        rcases Nat.lt_or_ge k a with h2 | h2
        · exact h2
        · have := Hhi.out k h2 hk; omega
      · intro h1; exact Hlo.out k h1
end Go.Proofs.Ytjeploipaejepaa
