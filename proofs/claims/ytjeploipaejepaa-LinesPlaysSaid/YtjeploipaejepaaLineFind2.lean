/- In which line a place is: the program's Find. -/
import Derived.Test.YtjeploipaejepaaLineFind
set_option linter.unusedVariables false
set_option linter.unusedSimpArgs false
namespace Go.Proofs.Ytjeploipaejepaa
open Go.RowKit

/-- the list begins with 0 and only grows -/
def asc (zs : List Int) : Prop := 0 < zs.length ∧ zs.getD 0 0 = 0 ∧ ∀ i, i + 1 < zs.length → zs.getD i 0 < zs.getD (i + 1) 0
theorem asc_mono {zs : List Int} (h : asc zs) : ∀ i j, i < j → j < zs.length → zs.getD i 0 < zs.getD j 0 := by
  intro i j hij hj
  induction j with
  | zero => omega
  | succ j ih =>
    have h1 := h.2.2 j hj
    rcases Nat.lt_or_ge i j with h2 | h2
    · have := ih h2 (by omega); omega
    · have : i = j := by omega
      subst this; exact h1

set_option maxHeartbeats 1000000 in
set_option maxRecDepth 1000000 in
theorem above_any (zs : List Int) (at' : Int) (v : Value) (w : World) (hn : zs.length ≤ 1000000000) (hr : Row w v zs.length (zs.map (Value.int .i64)))
    (hmono : ∀ i j, i < j → j < zs.length → zs.getD i 0 < zs.getD j 0) :
    Calls Try.prog 42 #[v, .int .i64 at'] w fun e w' =>
      ∃ c : Nat, e = .returned (.int .i64 c) ∧ c ≤ zs.length ∧ (∀ k, k < zs.length → (zs.getD k 0 ≤ at' ↔ k < c)) ∧ Below w.heap.size w w' := by
  have hr0 := hr
  obtain ⟨o, cap, rfl, hcap, hmax, hrow⟩ := hr
  have Hm := Lib.hid hmono
  have Hr := Lib.hid hrow
  clear hmono hrow
  go_enter Try.func42, Try.ntmps42
  go_wp2_with (first
    | (go_at_call 50; refine (search_any zs at' (.slice o zs.length cap) w.heap.size (w.heap.size + 1) _ hn (hr0.below (by repeat (first | exact Below.refl _ _ | assumption | (refine Below.drew ?_) | (refine below_drewN ?_ _) | (refine bel_new ?_ _) | (refine bel_then ?_ (by assumption))))) (by rw [World.cell?_alloc_past _ _ _ (by simp), World.cell?_alloc_at _ _ _ _ rfl]; rfl) (by rw [World.cell?_alloc_at _ _ _ _ (by simp)]; rfl) (by simp; omega) (by simp) Hm.out).mono ?_; rintro e w1 ⟨c, rfl, h1, h2, hb1⟩)
    | go_in)
  go_ret
  exact ⟨c, rfl, h1, h2, by repeat (first | exact Below.refl _ _ | assumption | (refine Below.drew ?_) | (refine below_drewN ?_ _) | (refine bel_new ?_ _) | (refine bel_then ?_ (by assumption)))⟩

set_option maxHeartbeats 1000000 in
set_option maxRecDepth 1000000 in
theorem ascending_any (zs : List Int) (v : Value) (w : World) (hn : zs.length ≤ 1000000000) (hr : Row w v zs.length (zs.map (Value.int .i64))) :
    Calls Try.prog 41 #[v] w fun e w' => ∃ r : Bool, e = .returned (.bool r) ∧ (r = true ↔ asc zs) ∧ Below w.heap.size w w' := by
  obtain ⟨o, cap, rfl, hcap, hmax, hrow⟩ := hr
  by_cases hn0 : zs.length = 0
  · go_enter Try.func41, Try.ntmps41
    go_wp2
    go_ret
    exact ⟨false, rfl, by simp [asc, hn0], by repeat (first | exact Below.refl _ _ | assumption | (refine Below.drew ?_) | (refine below_drewN ?_ _) | (refine bel_new ?_ _) | (refine bel_then ?_ (by assumption)))⟩
  · obtain ⟨b, off, rfl, hlt, hc⟩ : ∃ b off, o = some ⟨b, off, none⟩ ∧ b < w.heap.size ∧ ∀ j u, (zs.map (Value.int .i64))[j]? = some u → w.cell? ⟨b, off + j, none⟩ = some u := by
      rcases hrow with ⟨h, _⟩ | h
      · exact absurd h hn0
      · exact h
    obtain ⟨x0, hx0⟩ : ∃ x, x = zs.getD 0 0 := ⟨_, rfl⟩
    have hc0 : w.cell? ⟨b, off, none⟩ = some (.int .i64 x0) := by rw [hx0]; exact hc 0 _ (getElem?_ints (by omega))
    have Hc := Lib.hid hc
    have Hx0 := Lib.hid hx0
    clear hc hx0 hrow
    go_enter Try.func41, Try.ntmps41
    go_wp2
    · have h1 : ¬ x0 = 0 := by
        have h0 : ((zs.length : Int) == 0) = true ∨ (x0 != 0) = true := by assumption
        rcases h0 with h0 | h0
        · exact absurd (by simpa using h0) hn0
        · simpa using h0
      go_ret
      exact ⟨false, rfl, ⟨fun h => by simp at h, fun h => by have := h.2.1; rw [← Hx0.out] at this; exact absurd this h1⟩, by repeat (first | exact Below.refl _ _ | assumption | (refine Below.drew ?_) | (refine below_drewN ?_ _) | (refine bel_new ?_ _) | (refine bel_then ?_ (by assumption)))⟩
    · have h1 : x0 = 0 := by
        have h0 : ((zs.length : Int) == 0) = false ∧ (x0 != 0) = false := by assumption
        simpa using h0.2
      have H1 := Lib.hid h1
      clear h1
      go_loopw [3] (fun i wr => ∃ k : Nat, k + 1 ≤ zs.length ∧ i = .int .i64 (k + 1) ∧ (∀ j, j + 1 < k + 1 → zs.getD j 0 < zs.getD (j + 1) 0) ∧ Below w.heap.size w wr)
        (fun i _ => zs.length - (intOf i).toNat)
      case atStart => exact ⟨0, by omega, rfl, by omega, by repeat (first | exact Below.refl _ _ | assumption | (refine Below.drew ?_) | (refine below_drewN ?_ _) | (refine bel_new ?_ _) | (refine bel_then ?_ (by assumption)))⟩
      case round =>
        obtain ⟨k, hk, rfl, hlo, hbel⟩ := hrel
        have Hlo := Lib.hid hlo
        clear hlo
        by_cases hk2 : k + 1 < zs.length
        · obtain ⟨x, hx⟩ : ∃ x, x = zs.getD k 0 := ⟨_, rfl⟩
          obtain ⟨y, hy⟩ : ∃ y, y = zs.getD (k + 1) 0 := ⟨_, rfl⟩
          have hcx : wr.cell? ⟨b, off + k, none⟩ = some (.int .i64 x) := by rw [hbel.cell hlt]; rw [hx]; exact Hc.out k _ (getElem?_ints (by omega))
          have hcy : wr.cell? ⟨b, off + (k + 1), none⟩ = some (.int .i64 y) := by rw [hbel.cell hlt]; rw [hy]; exact Hc.out (k + 1) _ (getElem?_ints (by omega))
          have Hx := Lib.hid hx
          have Hy := Lib.hid hy
          clear hx hy
          go_wp2
          go_region
          all_goals (try go_wp2)
          · have h1 : y ≤ x := by assumption
            go_ret
            refine ⟨false, rfl, ⟨fun h => by simp at h, fun h => ?_⟩, by repeat (first | exact Below.refl _ _ | assumption | (refine Below.drew ?_) | (refine below_drewN ?_ _) | (refine bel_new ?_ _) | (refine bel_then ?_ (by assumption)))⟩
            have := h.2.2 k hk2
            have := Hx.out
            have := Hy.out
            omega
          · have h1 : x < y := by assumption
            have hx := Hx.out
            have hy := Hy.out
            go_roundw
            case rel =>
              refine ⟨k + 1, by omega, by go_num, ?_, by repeat (first | exact Below.refl _ _ | assumption | (refine Below.drew ?_) | (refine below_drewN ?_ _) | (refine bel_new ?_ _) | (refine bel_then ?_ (by assumption)))⟩
              intro j hj
              rcases Nat.lt_or_ge (j + 1) (k + 1) with h2 | h2
              · exact Hlo.out j h2
              · have : j = k := by omega
                subst this; omega
            case measure => simp [intOf]; omega
        · go_wp2
          go_ret
          refine ⟨true, rfl, ?_, by repeat (first | exact Below.refl _ _ | assumption | (refine Below.drew ?_) | (refine below_drewN ?_ _) | (refine bel_new ?_ _) | (refine bel_then ?_ (by assumption)))⟩
          have hkl : k + 1 = zs.length := by omega
          constructor
          · intro _
            exact ⟨by omega, by rw [← Hx0.out]; exact H1.out, fun i hi => Hlo.out i (by omega)⟩
          · intro _; rfl

/-- what Find says: the line, how far behind its start -/
def Finds (zs : List Int) (at' : Int) (x y : Int) : Prop :=
  (¬ (0 ≤ at' ∧ asc zs) ∧ x = -1 ∧ y = -1) ∨ (0 ≤ at' ∧ asc zs ∧ ∃ c : Nat, x = (c : Int) ∧ c < zs.length ∧ (∀ k, k < zs.length → (zs.getD k 0 ≤ at' ↔ k < c + 1)) ∧ y = at' - zs.getD c 0)
theorem Finds.uniq {zs : List Int} {at' x y x' y' : Int} (h : Finds zs at' x y) (k : Finds zs at' x' y') : x = x' ∧ y = y' := by
  rcases h with ⟨h1, h2, h3⟩ | ⟨h1, h2, c, h3, h4, h5, h6⟩ <;> rcases k with ⟨k1, k2, k3⟩ | ⟨k1, k2, c', k3, k4, k5, k6⟩
  · exact ⟨by rw [h2, k2], by rw [h3, k3]⟩
  · exact absurd ⟨k1, k2⟩ h1
  · exact absurd ⟨h1, h2⟩ k1
  · have e1 := (h5 c' k4).1 ((k5 c' k4).2 (by omega))
    have e2 := (k5 c h4).1 ((h5 c h4).2 (by omega))
    have e : c = c' := by omega
    subst e
    exact ⟨by rw [h3, k3], by rw [h6, k6]⟩

set_option maxHeartbeats 1000000 in
set_option maxRecDepth 1000000 in
theorem find_any (zs : List Int) (at' : Int) (v : Value) (w : World) (hn : zs.length ≤ 1000000000) (hr : Row w v zs.length (zs.map (Value.int .i64))) (hat : (Lit.int .i64 at').wf = true) (hz : ∀ z ∈ zs, (Lit.int .i64 z).wf = true) :
    Calls Try.prog 16 #[v, .int .i64 at'] w fun e w' => ∃ x y : Int, e = .returned (.tuple #[.int .i64 x, .int .i64 y]) ∧ Finds zs at' x y ∧ Below w.heap.size w w' := by
  have hr0 := hr
  obtain ⟨o, cap, rfl, hcap, hmax, hrow⟩ := hr
  have Hr := Lib.hid hrow
  have hw : at' ≤ 9223372036854775807 := by simp [Lit.wf, IntKind.min, IntKind.max, IntKind.signed, IntKind.bits] at hat; omega
  have Hz := Lib.hid hz
  clear hrow hz hat
  by_cases ha : at' < 0
  · go_enter Try.func16, Try.ntmps16
    go_wp2
    go_ret2
    exact ⟨-1, -1, rfl, .inl ⟨fun h => by omega, rfl, rfl⟩, by repeat (first | exact Below.refl _ _ | assumption | (refine Below.drew ?_) | (refine below_drewN ?_ _) | (refine bel_new ?_ _) | (refine bel_then ?_ (by assumption)))⟩
  by_cases hasc : asc zs
  · have hlen := hasc.1
    have h00 := hasc.2.1
    have Hm := Lib.hid (asc_mono hasc)
    have Has := Lib.hid hasc
    have H00 := Lib.hid h00
    clear hasc h00
    obtain ⟨b, off, rfl, hlt, hc⟩ : ∃ b off, o = some ⟨b, off, none⟩ ∧ b < w.heap.size ∧ ∀ j u, (zs.map (Value.int .i64))[j]? = some u → w.cell? ⟨b, off + j, none⟩ = some u := by
      rcases Hr.out with ⟨h, _⟩ | h
      · omega
      · exact h
    have Hc := Lib.hid hc
    clear hc
    go_enter Try.func16, Try.ntmps16
    go_wp2_with (first
      | (go_at_call 41; refine (ascending_any zs _ _ hn hr0).mono ?_; rintro e w1 ⟨r, rfl, h1, hb1⟩; obtain rfl := h1.2 Has.out; clear h1)
      | (go_at_call 42; refine (above_any zs at' _ _ hn (hr0.below (by repeat (first | exact Below.refl _ _ | assumption | (refine Below.drew ?_) | (refine below_drewN ?_ _) | (refine bel_new ?_ _) | (refine bel_then ?_ (by assumption))))) Hm.out).mono ?_; rintro e w2 ⟨c, rfl, h1, h2, hb2⟩; obtain ⟨c0, rfl⟩ : ∃ c0, c = c0 + 1 := ⟨c - 1, by have := (h2 0 hlen).1 (by rw [H00.out]; omega); omega⟩; have hle := (h2 c0 (by omega)).2 (by omega); have hge : 0 ≤ zs.getD c0 0 := (by rcases Nat.eq_zero_or_pos c0 with h | h; (subst h; rw [H00.out]; omega); (have := Hm.out 0 c0 h (by omega); rw [H00.out] at this; omega)); have hcx : w2.cell? ⟨b, off + c0, none⟩ = some (.int .i64 (zs.getD c0 0)) := (by rw [hb2.cell (by exact Nat.lt_of_lt_of_le hlt hb1.size), hb1.cell hlt]; exact Hc.out c0 _ (getElem?_ints (by omega))); have H2 := Lib.hid h2; clear h2; generalize hzz : zs.getD c0 0 = z at hle hge hcx; have HZ := Lib.hid hzz; clear hzz)
      | fail)
    go_region
    all_goals (try go_wp2)
    all_goals go_ret2
    all_goals exact ⟨c0, at' - z, by first | rfl | go_num, .inr ⟨by omega, Has.out, c0, rfl, by omega, H2.out, by rw [HZ.out]⟩, by repeat (first | exact Below.refl _ _ | assumption | (refine Below.drew ?_) | (refine below_drewN ?_ _) | (refine bel_new ?_ _) | (refine bel_then ?_ (by assumption)))⟩
  · go_enter Try.func16, Try.ntmps16
    go_wp2_with (first
      | (go_at_call 41; refine (ascending_any zs _ _ hn hr0).mono ?_; rintro e w1 ⟨r, rfl, h1, hb1⟩; obtain rfl : r = false := (by cases r; (rfl); (exact absurd (h1.1 rfl) hasc)); clear h1)
      | fail)
    go_ret2
    exact ⟨-1, -1, rfl, .inl ⟨fun h => hasc h.2, rfl, rfl⟩, by repeat (first | exact Below.refl _ _ | assumption | (refine Below.drew ?_) | (refine below_drewN ?_ _) | (refine bel_new ?_ _) | (refine bel_then ?_ (by assumption)))⟩
end Go.Proofs.Ytjeploipaejepaa
