/- runes: RunesCuts. -/
import Derived.Test.YtjhfncmeiaogaaaRuneLaw3
import Derived.Test.YtjhfncmeiaogaaaRefRune6
set_option linter.unusedVariables false
set_option linter.unusedSimpArgs false
namespace Go.Proofs.Ytjhfncmeiaogaaa
open Go.RowKit Ru

theorem RowsR.below {w w' : World} {v : Value} {vs : List Value} {ls : List (List Pc)} (h : RowsR w v vs ls) (hb : Below w.heap.size w w') : RowsR w' v vs ls :=
  ⟨h.1, h.2.1.below hb, fun i hi => (h.2.2 i hi).below hb⟩

set_option maxHeartbeats 4000000 in
set_option maxRecDepth 1000000 in
theorem runesCuts_walk (ls : List (List Pc)) (vs : List Value) (v : Value) (w : World) (hr : RowsR w v vs ls) (hz : ∀ l ∈ ls, i32s l) :
    Calls Try.prog 10 #[v] w fun e w' => e = .returned (.bool true) ∧ Below w.heap.size w w' := by
  have Hr := Lib.hid hr
  have Hz := Lib.hid hz
  have hmx : ls.length ≤ maxLen := by obtain ⟨_, ⟨_, _, e, h1, h2, _⟩, _⟩ := hr; omega
  obtain ⟨o, cap, rfl⟩ := hr.2.1.form
  clear hr hz
  go_enter Try.func10, Try.ntmps10
  by_cases h5 : 5 < ls.length
  · go_wp2_with (go_at_call 27; refine (told5_any _).mono ?_; rintro e w2 ⟨rfl, hb⟩)
    go_ret
    exact ⟨rfl, hb⟩
  have hl5 : ls.length ≤ 5 := by omega
  have d5 : decide (5 < ls.length) = false := by simpa using hl5
  go_wp2_with fail
  go_loopw [3] (fun i wr => ∃ k : Nat, k ≤ ls.length ∧ i = .int .i64 k ∧ wr = w ∧ ∀ j, j < k → (ls.getD j []).length ≤ 12)
    (fun i _ => ls.length - (intOf i).toNat)
  case atStart => exact ⟨0, Nat.zero_le _, rfl, rfl, fun j hj => absurd hj (by omega)⟩
  case round =>
    obtain ⟨k, hk, rfl, rfl, hall⟩ := hrel
    have HA := Lib.hid hall
    clear hall
    by_cases hk2 : k < ls.length
    · have hvk := Hr.out.2.2 k hk2
      obtain ⟨g0, off0, cap', e, hlt0⟩ := Hr.out.2.1.head (by omega)
      simp only [Value.slice.injEq, true_and] at e
      obtain ⟨rfl, rfl⟩ := e
      obtain ⟨_, c0⟩ := Hr.out.2.1.one (i := k) (by rw [Hr.out.1]; exact hk2) (by omega)
      obtain ⟨u, hu⟩ : ∃ u, u = vs.getD k undef := ⟨_, rfl⟩
      obtain ⟨n, hn⟩ : ∃ n, n = (ls.getD k []).length := ⟨_, rfl⟩
      rw [← hu] at c0
      rw [← hu, ← hn] at hvk
      obtain ⟨ou, cu, rfl⟩ := hvk.form
      have Hn := Lib.hid hn
      clear hvk hu hn
      by_cases h12 : 12 < n
      · go_wp2_with (go_at_call 27; refine (told5_any _).mono ?_; rintro e w2 ⟨rfl, hb⟩)
        go_ret
        exact ⟨rfl, hb⟩
      · go_wp2_with fail
        go_roundw
        case rel => exact ⟨k + 1, by omega, by go_num, by first | rfl | trivial, fun j hj => by
          rcases Nat.lt_or_ge j k with h | h
          · exact HA.out j h
          · have : j = k := by omega
            subst this; rw [← Hn.out]; omega⟩
        case measure => simp [intOf] <;> omega
    · have hkn : k = ls.length := by omega
      subst hkn
      have hlen : ∀ l ∈ ls, l.length ≤ 1000 := fun l hl => by
        obtain ⟨j, hj, rfl⟩ := List.getElem_of_mem hl
        have := HA.out j hj
        simp [List.getD, List.getElem?_eq_getElem hj] at this; omega
      have hcf : (cutsF ls).length ≤ 20000 := by
        have h1 := flat_len ls hlen
        have h2 := gaps_len (ls.flatMap pcs) (srtD (ends (ls.flatMap pcs)))
        have h3 := srtD_len (ends (ls.flatMap pcs)) []
        have h4 := Ru.ends_len (ls.flatMap pcs)
        unfold cutsF; rw [rngs_len]; unfold cutF
        unfold srtD at h2 ⊢
        simp only [List.length_nil] at h3; omega
      obtain ⟨T, hT⟩ : ∃ T, T = cutsF ls := ⟨_, rfl⟩
      rw [← hT] at hcf
      have HT := Lib.hid hT
      have HL := Lib.hid hlen
      clear hT hlen
      go_wp2_with (first
        | (go_at_call 27; refine (told5_any _).mono ?_; rintro e w2 ⟨rfl, hb⟩)
        | (go_at_call 44; refine (cutsR_any ls vs _ _ (Hr.out.below (by repeat (first | exact Below.refl _ _ | assumption | (refine Below.drew ?_) | (refine below_drewN ?_ _) | (refine bel_new ?_ _) | (refine bel_then ?_ (by assumption))))) Hz.out (by omega) HL.out).mono ?_; rintro e w3 ⟨u3, rfl, hown3, hb3⟩; rw [← HT.out] at hown3)
        | (go_at_call 45; refine (refCutsR_any ls vs _ _ (Hr.out.below (by repeat (first | exact Below.refl _ _ | assumption | (refine Below.drew ?_) | (refine below_drewN ?_ _) | (refine bel_new ?_ _) | (refine bel_then ?_ (by assumption))))) Hz.out (by omega) HL.out).mono ?_; rintro e w4 ⟨u4, rfl, hown4, hb4⟩; rw [← HT.out] at hown4)
        | (go_at_call 30; refine (refSame_any T T _ _ _ ((Row.owned hown3).below hb4) (Row.owned hown4) (by omega) (by omega)).mono ?_; rintro e w5 ⟨rfl, hb5⟩))
      go_ret
      exact ⟨by simp, by repeat (first | exact Below.refl _ _ | assumption | (refine Below.drew ?_) | (refine below_drewN ?_ _) | (refine bel_new ?_ _) | (refine bel_then ?_ (by assumption)))⟩
end Go.Proofs.Ytjhfncmeiaogaaa
