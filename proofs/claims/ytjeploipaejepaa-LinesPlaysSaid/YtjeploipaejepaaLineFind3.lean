/- In which line a place is: the reference's Find. -/
import Derived.Test.YtjeploipaejepaaLineFind2
set_option linter.unusedVariables false
set_option linter.unusedSimpArgs false
namespace Go.Proofs.Ytjeploipaejepaa
open Go.RowKit

set_option maxHeartbeats 1000000 in
set_option maxRecDepth 1000000 in
theorem refFind_any (zs : List Int) (at' : Int) (v : Value) (w : World) (hn : zs.length ≤ 1000000000) (hr : Row w v zs.length (zs.map (Value.int .i64))) (hat : (Lit.int .i64 at').wf = true) :
    Calls Try.prog 17 #[v, .int .i64 at'] w fun e w' => ∃ x y : Int, e = .returned (.tuple #[.int .i64 x, .int .i64 y]) ∧ Finds zs at' x y ∧ Below w.heap.size w w' := by
  obtain ⟨o, cap, rfl, hcap, hmax, hrow⟩ := hr
  have hw : at' ≤ 9223372036854775807 := by simp [Lit.wf, IntKind.min, IntKind.max, IntKind.signed, IntKind.bits] at hat; omega
  clear hat
  by_cases hn0 : zs.length = 0
  · clear hrow
    go_enter Try.func17, Try.ntmps17
    go_wp2
    go_ret2
    exact ⟨-1, -1, rfl, .inl ⟨fun h => by have := h.2.1; omega, rfl, rfl⟩, by repeat (first | exact Below.refl _ _ | assumption | (refine Below.drew ?_) | (refine below_drewN ?_ _) | (refine bel_new ?_ _) | (refine bel_then ?_ (by assumption)))⟩
  obtain ⟨b, off, rfl, hlt, hc⟩ : ∃ b off, o = some ⟨b, off, none⟩ ∧ b < w.heap.size ∧ ∀ j u, (zs.map (Value.int .i64))[j]? = some u → w.cell? ⟨b, off + j, none⟩ = some u := by
    rcases hrow with ⟨h, _⟩ | h
    · exact absurd h hn0
    · exact h
  have Hc := Lib.hid hc
  clear hc hrow
  have hpos : 0 < zs.length := by omega
  clear hn0
  have hne : ¬ zs = [] := by intro h; subst h; simp at hpos
  obtain ⟨x0, hx0⟩ : ∃ x, x = zs.getD 0 0 := ⟨_, rfl⟩
  have hc0 : w.cell? ⟨b, off, none⟩ = some (.int .i64 x0) := by rw [hx0]; exact Hc.out 0 _ (getElem?_ints (by omega))
  have Hx0 := Lib.hid hx0
  clear hx0
  by_cases h1 : x0 = 0
  · subst h1
    by_cases ha : at' < 0
    · go_enter Try.func17, Try.ntmps17
      go_wp2
      go_ret2
      exact ⟨-1, -1, rfl, .inl ⟨fun h => by omega, rfl, rfl⟩, by repeat (first | exact Below.refl _ _ | assumption | (refine Below.drew ?_) | (refine below_drewN ?_ _) | (refine bel_new ?_ _) | (refine bel_then ?_ (by assumption)))⟩
    · go_enter Try.func17, Try.ntmps17
      go_wp2
      go_loopw [6, 7] (fun u i wr => ∃ k m : Nat, m < k ∧ k ≤ zs.length ∧ i = .int .i64 k ∧ u = .int .i64 m ∧ (∀ j, j + 1 < k → zs.getD j 0 < zs.getD (j + 1) 0) ∧ (∀ j, j < k → (zs.getD j 0 ≤ at' ↔ j < m + 1)) ∧ Below w.heap.size w wr)
        (fun _ i _ => zs.length - (intOf i).toNat)
      case atStart =>
        refine ⟨1, 0, by omega, by omega, rfl, rfl, by omega, ?_, by repeat (first | exact Below.refl _ _ | assumption | (refine Below.drew ?_) | (refine below_drewN ?_ _) | (refine bel_new ?_ _) | (refine bel_then ?_ (by assumption)))⟩
        intro j hj
        have : j = 0 := by omega
        subst this
        rw [← Hx0.out]
        constructor <;> intro _ <;> omega
      case round =>
        obtain ⟨k, m, hmk, hk, rfl, rfl, hlo, hle, hbel⟩ := hrel
        have Hlo := Lib.hid hlo
        have Hle := Lib.hid hle
        clear hlo hle
        obtain ⟨k0, rfl⟩ : ∃ k0, k = k0 + 1 := ⟨k - 1, by omega⟩
        by_cases hk2 : k0 + 1 < zs.length
        · obtain ⟨x, hx⟩ : ∃ x, x = zs.getD k0 0 := ⟨_, rfl⟩
          obtain ⟨y, hy⟩ : ∃ y, y = zs.getD (k0 + 1) 0 := ⟨_, rfl⟩
          have hcx : wr.cell? ⟨b, off + k0, none⟩ = some (.int .i64 x) := by rw [hbel.cell hlt]; rw [hx]; exact Hc.out k0 _ (getElem?_ints (by omega))
          have hcy : wr.cell? ⟨b, off + (k0 + 1), none⟩ = some (.int .i64 y) := by rw [hbel.cell hlt]; rw [hy]; exact Hc.out (k0 + 1) _ (getElem?_ints (by omega))
          have Hx := Lib.hid hx
          have Hy := Lib.hid hy
          clear hx hy
          go_wp2
          go_region
          all_goals (try go_wp2)
          · have h1 : y ≤ x := by assumption
            go_ret2
            refine ⟨-1, -1, rfl, .inl ⟨fun h => ?_, rfl, rfl⟩, by repeat (first | exact Below.refl _ _ | assumption | (refine Below.drew ?_) | (refine below_drewN ?_ _) | (refine bel_new ?_ _) | (refine bel_then ?_ (by assumption)))⟩
            have := h.2.2.2 k0 hk2
            rw [← Hx.out, ← Hy.out] at this
            omega
          · have h1 : x < y := by assumption
            have h2 : y ≤ at' := by assumption
            have hx := Hx.out
            have hy := Hy.out
            go_roundw
            case rel =>
              refine ⟨k0 + 2, k0 + 1, by omega, by omega, by go_num, rfl, ?_, ?_, by repeat (first | exact Below.refl _ _ | assumption | (refine Below.drew ?_) | (refine below_drewN ?_ _) | (refine bel_new ?_ _) | (refine bel_then ?_ (by assumption)))⟩
              · intro j hj
                rcases Nat.lt_or_ge (j + 1) (k0 + 1) with h3 | h3
                · exact Hlo.out j h3
                · have : j = k0 := by omega
                  subst this; omega
              · intro j hj
                constructor
                · intro _; omega
                · intro _
                  rcases Nat.lt_or_ge j (k0 + 1) with h3 | h3
                  · have h4 : ∀ d, d ≤ k0 → zs.getD (k0 - d) 0 ≤ at' := by
                      intro d
                      induction d with
                      | zero => intro _; simp only [Nat.sub_zero]; omega
                      | succ d ih =>
                        intro hd
                        have a1 := ih (by omega)
                        have a2 := Hlo.out (k0 - (d + 1)) (by omega)
                        rw [show k0 - (d + 1) + 1 = k0 - d from by omega] at a2
                        omega
                    have := h4 (k0 - j) (by omega)
                    rwa [show k0 - (k0 - j) = j from by omega] at this
                  · have : j = k0 + 1 := by omega
                    subst this; omega
            case measure => simp [intOf]; omega
          · have h1 : x < y := by assumption
            have h2 : at' < y := by assumption
            have hx := Hx.out
            have hy := Hy.out
            go_roundw
            case rel =>
              refine ⟨k0 + 2, m, by omega, by omega, by go_num, rfl, ?_, ?_, by repeat (first | exact Below.refl _ _ | assumption | (refine Below.drew ?_) | (refine below_drewN ?_ _) | (refine bel_new ?_ _) | (refine bel_then ?_ (by assumption)))⟩
              · intro j hj
                rcases Nat.lt_or_ge (j + 1) (k0 + 1) with h3 | h3
                · exact Hlo.out j h3
                · have : j = k0 := by omega
                  subst this; omega
              · intro j hj
                rcases Nat.lt_or_ge j (k0 + 1) with h3 | h3
                · exact Hle.out j h3
                · have : j = k0 + 1 := by omega
                  subst this
                  constructor <;> intro _ <;> omega
            case measure => simp [intOf]; omega
        · have hkl : k0 + 1 = zs.length := by omega
          obtain ⟨z, hz⟩ : ∃ z, z = zs.getD m 0 := ⟨_, rfl⟩
          have hcz : wr.cell? ⟨b, off + m, none⟩ = some (.int .i64 z) := by rw [hbel.cell hlt]; rw [hz]; exact Hc.out m _ (getElem?_ints (by omega))
          have hz1 : z ≤ at' := by rw [hz]; exact (Hle.out m (by omega)).2 (by omega)
          have hasc : asc zs := ⟨hpos, Hx0.out.symm, fun i hi => Hlo.out i (by omega)⟩
          have hz0 : 0 ≤ z := by
            rw [hz]
            rcases Nat.eq_zero_or_pos m with h | h
            · subst h; rw [← Hx0.out]; omega
            · have := asc_mono hasc 0 m h (by omega)
              rw [← Hx0.out] at this; omega
          have Hz := Lib.hid hz
          have Has := Lib.hid hasc
          clear hz hasc
          go_wp2
          go_region
          all_goals (try go_wp2)
          all_goals go_ret2
          all_goals exact ⟨m, at' - z, rfl, .inr ⟨by omega, Has.out, m, rfl, by omega, fun j hj => Hle.out j (by omega), by rw [Hz.out]⟩, by repeat (first | exact Below.refl _ _ | assumption | (refine Below.drew ?_) | (refine below_drewN ?_ _) | (refine bel_new ?_ _) | (refine bel_then ?_ (by assumption)))⟩
  · go_enter Try.func17, Try.ntmps17
    go_wp2
    go_ret2
    exact ⟨-1, -1, rfl, .inl ⟨fun h => by have := h.2.2.1; rw [← Hx0.out] at this; exact h1 this, rfl, rfl⟩, by repeat (first | exact Below.refl _ _ | assumption | (refine Below.drew ?_) | (refine below_drewN ?_ _) | (refine bel_new ?_ _) | (refine bel_then ?_ (by assumption)))⟩
end Go.Proofs.Ytjeploipaejepaa
