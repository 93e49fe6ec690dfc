/- Where a line begins and ends: begin, Ends. -/
import Derived.Test.YtjeploipaejepaaLineEnds
import Derived.Test.YtjeploipaejepaaLineMath
set_option linter.unusedVariables false
set_option linter.unusedSimpArgs false
namespace Go.Proofs.Ytjeploipaejepaa
open Go.RowKit

theorem next10_drop {bs : List Int} {d : Nat} {r : Int} (hd : d ≤ bs.length) (h : Next10 (bs.drop d) 0 r) : Next10 bs d r := by
  have hg : ∀ k, (bs.drop d).getD k 0 = bs.getD (d + k) 0 := fun k => by simp [List.getD, List.getElem?_drop]
  rcases h with ⟨h1, h2⟩ | ⟨c, h1, h2, h3, h4⟩
  · refine .inl ⟨h1, fun k hk hk2 => ?_⟩
    have := h2 (k - d) (by omega) (by simp; omega)
    rwa [hg, show d + (k - d) = k from by omega] at this
  · simp only [Nat.zero_add, List.length_drop] at h2 h3 h4
    refine .inr ⟨c, h1, by omega, by rw [← hg]; exact h3, fun k hk hk2 => ?_⟩
    have := h4 (k - d) (by omega) (by omega)
    rwa [hg, show d + (k - d) = k from by omega] at this
theorem next10_le {bs : List Int} {d : Nat} {r : Int} (h : Next10 bs d r) : -1 ≤ r ∧ r < bs.length := by
  rcases h with ⟨h1, _⟩ | ⟨c, h1, h2, _⟩ <;> omega
/-- the rest of a row from d on, as a slice expression makes it -/
theorem row_rest {w : World} {o : Option Addr} {cap d : Nat} {bs : List Int} (hr : Row w (.slice o bs.length cap) bs.length (bs.map (Value.int .u8))) (hd : d ≤ bs.length) :
    (cap = d → Row w (.slice o (bs.length - d) 0) (bs.drop d).length ((bs.drop d).map (Value.int .u8))) ∧
    (¬ cap = d → Row w (.slice (Option.map (fun x => x.add d) o) (bs.length - d) (cap - d)) (bs.drop d).length ((bs.drop d).map (Value.int .u8))) := by
  have h := hr.sliced (by simp) hd (Nat.le_refl _)
  have e : ((bs.map (Value.int .u8)).drop d).take (bs.length - d) = (bs.drop d).map (Value.int .u8) := by
    rw [← List.map_drop, List.take_of_length_le (by simp)]
  rw [e] at h
  rw [List.length_drop]
  constructor
  · intro hc
    simp only [Go.sliced, if_pos hc] at h
    rwa [show cap - d = 0 from by omega] at h
  · intro hc
    simp only [Go.sliced, if_neg hc, Nat.mul_one] at h
    exact h

set_option maxHeartbeats 1000000 in
set_option maxRecDepth 1000000 in
theorem begin_any (bs : List Int) (line : Int) (v : Value) (w : World) (hn : bs.length ≤ 100000) (hr : Row w v bs.length (bs.map (Value.int .u8))) (hu : ∀ x ∈ bs, 0 ≤ x ∧ x < 256)
    (hl : -9223372036854775808 ≤ line ∧ line ≤ 9223372036854775807) :
    Calls Try.prog 39 #[v, .int .i64 line] w fun e w' =>
      ((0 ≤ line ∧ ∃ i d : Nat, line = (i : Int) ∧ i < (sts bs).length ∧ (sts bs).getD i 0 = (d : Int) ∧ d ≤ bs.length ∧ e = .returned (.tuple #[.int .i64 d, .bool true])) ∨
       ((line < 0 ∨ (sts bs).length ≤ line) ∧ ∃ d : Nat, e = .returned (.tuple #[.int .i64 d, .bool false]))) ∧ w = w' := by
  have hr0 := hr
  obtain ⟨o, cap, rfl, hcap, hmax, hrow⟩ := hr
  clear hrow
  go_enter Try.func39, Try.ntmps39
  go_wp2
  go_loopw [1, 6] (fun l f wr => ∃ i d : Nat, i < (sts bs).length ∧ l = .int .i64 (line - i) ∧ f = .int .i64 d ∧ (sts bs).getD i 0 = (d : Int) ∧ d ≤ bs.length ∧ (i = 0 ∨ (i : Int) ≤ line) ∧ wr = w)
    (fun l _ _ => (intOf l).toNat)
  case atStart => exact ⟨0, 0, by simp [sts], by simp, rfl, by simp [sts], by omega, .inl rfl, rfl⟩
  case round =>
    obtain ⟨i, d, hi, rfl, rfl, hd, hdn, hil, rfl⟩ := hrel
    have Hd := Lib.hid hd
    clear hd
    have hrr := row_rest hr0 hdn
    have hud : ∀ x ∈ bs.drop d, 0 ≤ x ∧ x < 256 := fun x hx => hu x (List.mem_of_mem_drop hx)
    have Hd2 := Lib.hid hdn
    by_cases hcd : cap = d
    · have hr1 := hrr.1 hcd
      subst hcd
      clear hrr
      have hde : bs.length - cap = 0 := by omega
      rw [hde] at hr1
      go_wp2_with (first
        | (go_at_call 40; refine (indexByte_any (bs.drop cap) _ _ hr1 hud).mono ?_; rintro e w1 ⟨r, rfl, h1, rfl⟩; have H1 := Lib.hid (next10_drop Hd2.out h1); clear h1; have hr2 := (next10_le H1.out).1; have hr3 := (next10_le H1.out).2)
        | fail)
      · have h1 : r < 0 := by assumption
        have h2 : (i : Int) < line := by assumption
        go_ret2
        rcases H1.out with ⟨_, h3⟩ | ⟨c, h3, _⟩
        · have := sts_last bs i cap hi Hd.out h3
          exact ⟨.inr ⟨.inr (by omega), 0, rfl⟩, by first | rfl | trivial⟩
        · omega
      · have h1 : 0 ≤ r := by assumption
        have h2 : (i : Int) < line := by assumption
        rcases H1.out with ⟨h3, _⟩ | ⟨c, rfl, h3, h4, h5⟩
        · omega
        · obtain ⟨n1, n2⟩ := sts_next bs i cap c hi Hd.out h3 h4 h5
          go_roundw
          case rel => exact ⟨i + 1, cap + c + 1, n1, by go_num, by go_num, n2, by omega, .inr (by omega), trivial⟩
          case measure => simp [intOf]; omega
      · have h1 : line ≤ (i : Int) := by assumption
        go_ret2
        refine ⟨?_, rfl⟩
        by_cases h2 : line = (i : Int)
        · exact .inl ⟨by omega, i, cap, h2, hi, Hd.out, Hd2.out, by simp [h2]⟩
        · have h3 : (line - (i : Int) == 0) = false := by simp; omega
          rw [h3]
          exact .inr ⟨.inl (by omega), cap, rfl⟩
    · have hr1 := hrr.2 hcd
      clear hrr
      go_wp2_with (first
        | (go_at_call 40; refine (indexByte_any (bs.drop d) _ _ hr1 hud).mono ?_; rintro e w1 ⟨r, rfl, h1, rfl⟩; have H1 := Lib.hid (next10_drop Hd2.out h1); clear h1; have hr2 := (next10_le H1.out).1; have hr3 := (next10_le H1.out).2)
        | fail)
      · have h1 : r < 0 := by assumption
        have h2 : (i : Int) < line := by assumption
        go_ret2
        rcases H1.out with ⟨_, h3⟩ | ⟨c, h3, _⟩
        · have := sts_last bs i d hi Hd.out h3
          exact ⟨.inr ⟨.inr (by omega), 0, rfl⟩, by first | rfl | trivial⟩
        · omega
      · have h1 : 0 ≤ r := by assumption
        have h2 : (i : Int) < line := by assumption
        rcases H1.out with ⟨h3, _⟩ | ⟨c, rfl, h3, h4, h5⟩
        · omega
        · obtain ⟨n1, n2⟩ := sts_next bs i d c hi Hd.out h3 h4 h5
          go_roundw
          case rel => exact ⟨i + 1, d + c + 1, n1, by go_num, by go_num, n2, by omega, .inr (by omega), trivial⟩
          case measure => simp [intOf]; omega
      · have h1 : line ≤ (i : Int) := by assumption
        go_ret2
        refine ⟨?_, rfl⟩
        by_cases h2 : line = (i : Int)
        · exact .inl ⟨by omega, i, d, h2, hi, Hd.out, Hd2.out, by simp [h2]⟩
        · have h3 : (line - (i : Int) == 0) = false := by simp; omega
          rw [h3]
          exact .inr ⟨.inl (by omega), d, rfl⟩
end Go.Proofs.Ytjeploipaejepaa
