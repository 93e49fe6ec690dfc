/- word: what a letter is; run. -/
import Derived.Test.YtkngppkchaadhaaDecAll0
import Derived.Test.YtkngppkchaadhaaWordMath
import Derived.Test.YtkngppkchaadhaaStrs
import Derived.WalkSpells
set_option linter.unusedVariables false
set_option linter.unusedSimpArgs false
namespace Go.Proofs.Ytkngppkchaadhaa
open Go.RowKit De Wd

theorem ret_bool {a b : Bool} (h : a = b) : Ending.returned (.bool a) = .returned (.bool b) := by rw [h]
theorem sb_drop (s : ByteArray) (k : Nat) (hk : k < s.size) : (sb s).drop k = (s[k].toNat : Int) :: (sb s).drop (k + 1) := by
  rw [List.drop_eq_getElem_cons (by rw [sb_len]; exact hk)]
  congr 1
  have := sb_get s k hk
  rw [← this, List.getD, List.getElem?_eq_getElem (by rw [sb_len]; exact hk)]; rfl
theorem clone_any (s : ByteArray) (w : World) (hs : s.size ≤ 100000) : Calls Try.prog 38 #[.string s] w fun e w' => e = .returned (.string s) ∧ Below w.heap.size w w' := by
  have hc := fun w => Any.stringslite_Clone Try.cloneS s w (by omega)
  have HC := Lib.hid hc
  clear hc
  go_enter Try.func38, Try.ntmps38
  go_wp2_with fail
  refine (HC.out _).mono ?_
  rintro e w' ⟨rfl, hb⟩
  go_wp2
  go_ret
  exact ⟨rfl, hb⟩
theorem isLower_any (c : Int) (w : World) : Calls Try.prog 34 #[.int .u8 c] w fun e w' => e = .returned (.bool (isLow c)) ∧ w = w' := by
  by_cases h1 : 97 ≤ c
  · by_cases h2 : c ≤ 122
    all_goals
      go_enter Try.func34, Try.ntmps34
      go_wp2
      go_ret
      exact ⟨ret_bool (by simp [isLow] <;> omega), rfl⟩
  · go_enter Try.func34, Try.ntmps34
    go_wp2
    go_ret
    exact ⟨ret_bool (by simp [isLow] <;> omega), rfl⟩
theorem isDigit_any (c : Int) (w : World) : Calls Try.prog 36 #[.int .u8 c] w fun e w' => e = .returned (.bool (isDig c)) ∧ w = w' := by
  by_cases h1 : 48 ≤ c
  · by_cases h2 : c ≤ 57
    all_goals
      go_enter Try.func36, Try.ntmps36
      go_wp2
      go_ret
      exact ⟨ret_bool (by simp [isDig] <;> omega), rfl⟩
  · go_enter Try.func36, Try.ntmps36
    go_wp2
    go_ret
    exact ⟨ret_bool (by simp [isDig] <;> omega), rfl⟩
theorem notNl_any (c : Int) (w : World) : Calls Try.prog 32 #[.int .u8 c] w fun e w' => e = .returned (.bool (notNl c)) ∧ w = w' := by
  go_enter Try.func32, Try.ntmps32
  go_wp2
  go_ret
  exact ⟨ret_bool rfl, rfl⟩
theorem lowDig_any (c : Int) (w : World) : Calls Try.prog 35 #[.int .u8 c] w fun e w' => e = .returned (.bool (lowDig c)) ∧ w = w' := by
  cases hl : isLow c with
  | true =>
    have H := Lib.hid hl
    have hc := fun w => isLower_any c w
    rw [hl] at hc
    clear hl
    go_enter Try.func35, Try.ntmps35
    go_wp2_with (go_at_call 34; refine (hc _).mono ?_; rintro e w' ⟨rfl, rfl⟩)
    go_ret
    exact ⟨ret_bool (by simp [lowDig, H.out]), rfl⟩
  | false =>
    have H := Lib.hid hl
    have hc := fun w => isLower_any c w
    rw [hl] at hc
    clear hl
    go_enter Try.func35, Try.ntmps35
    go_wp2_with (first
      | (go_at_call 34; refine (hc _).mono ?_; rintro e w' ⟨rfl, rfl⟩)
      | (go_at_call 36; refine (isDigit_any c _).mono ?_; rintro e w' ⟨rfl, rfl⟩))
    go_ret
    exact ⟨ret_bool (by simp [lowDig, H.out]), rfl⟩

set_option maxHeartbeats 1000000 in
set_option maxRecDepth 100000 in
theorem run_notNl (s : ByteArray) (w : World) (hs : s.size ≤ 100000) : Calls Try.prog 31 #[.string s, .func (Fn.func 32) #[] #[]] w fun e w' => e = .returned (.int .i64 (rn notNl (sb s))) ∧ w = w' := by
  have hle := rn_le notNl (sb s)
  rw [sb_len] at hle
  go_enter Try.func31, Try.ntmps31
  go_wp2_with fail
  go_loop [5] (fun n => ∃ k : Nat, k ≤ rn notNl (sb s) ∧ n = .int .i64 k) (fun n => s.size - (intOf n).toNat)
  case atStart => exact ⟨0, Nat.zero_le _, rfl⟩
  case round =>
    obtain ⟨k, hk, rfl⟩ := hrel
    have hrd := rn_drop hk
    by_cases hlt : k < s.size
    · rw [sb_drop s k hlt] at hrd
      have hc := fun w => notNl_any (s[k].toNat : Int) w
      cases hp : notNl (s[k].toNat : Int) with
      | true =>
        rw [rn_hit hp] at hrd
        rw [hp] at hc
        have HC := Lib.hid hc
        have hk1 : k + 1 ≤ rn notNl (sb s) := by omega
        clear hc hp hrd
        go_wp2_with (go_at_call 32; refine (HC.out _).mono ?_; rintro e w' ⟨rfl, rfl⟩)
        go_round
        case rel => exact ⟨k + 1, hk1, by go_num⟩
        case measure => simp [intOf]; omega
      | false =>
        rw [rn_miss hp] at hrd
        rw [hp] at hc
        have HC := Lib.hid hc
        have HR := Lib.hid hrd
        clear hc hp hrd
        go_wp2_with (go_at_call 32; refine (HC.out _).mono ?_; rintro e w' ⟨rfl, rfl⟩)
        go_ret
        exact ⟨by rw [HR.out]; rfl, rfl⟩
    · have hkn : k = rn notNl (sb s) := by omega
      have HR := Lib.hid hkn
      have hd : decide (k < s.size) = false := by simp; omega
      clear hkn hrd hlt
      go_wp2
      go_ret
      exact ⟨by rw [← HR.out]; rfl, rfl⟩

set_option maxHeartbeats 1000000 in
set_option maxRecDepth 100000 in
theorem run_lowDig (s : ByteArray) (w : World) (hs : s.size ≤ 100000) : Calls Try.prog 31 #[.string s, .func (Fn.func 35) #[] #[]] w fun e w' => e = .returned (.int .i64 (rn lowDig (sb s))) ∧ w = w' := by
  have hle := rn_le lowDig (sb s)
  rw [sb_len] at hle
  go_enter Try.func31, Try.ntmps31
  go_wp2_with fail
  go_loop [5] (fun n => ∃ k : Nat, k ≤ rn lowDig (sb s) ∧ n = .int .i64 k) (fun n => s.size - (intOf n).toNat)
  case atStart => exact ⟨0, Nat.zero_le _, rfl⟩
  case round =>
    obtain ⟨k, hk, rfl⟩ := hrel
    have hrd := rn_drop hk
    by_cases hlt : k < s.size
    · rw [sb_drop s k hlt] at hrd
      have hc := fun w => lowDig_any (s[k].toNat : Int) w
      cases hp : lowDig (s[k].toNat : Int) with
      | true =>
        rw [rn_hit hp] at hrd
        rw [hp] at hc
        have HC := Lib.hid hc
        have hk1 : k + 1 ≤ rn lowDig (sb s) := by omega
        clear hc hp hrd
        go_wp2_with (go_at_call 35; refine (HC.out _).mono ?_; rintro e w' ⟨rfl, rfl⟩)
        go_round
        case rel => exact ⟨k + 1, hk1, by go_num⟩
        case measure => simp [intOf]; omega
      | false =>
        rw [rn_miss hp] at hrd
        rw [hp] at hc
        have HC := Lib.hid hc
        have HR := Lib.hid hrd
        clear hc hp hrd
        go_wp2_with (go_at_call 35; refine (HC.out _).mono ?_; rintro e w' ⟨rfl, rfl⟩)
        go_ret
        exact ⟨by rw [HR.out]; rfl, rfl⟩
    · have hkn : k = rn lowDig (sb s) := by omega
      have HR := Lib.hid hkn
      have hd : decide (k < s.size) = false := by simp; omega
      clear hkn hrd hlt
      go_wp2
      go_ret
      exact ⟨by rw [← HR.out]; rfl, rfl⟩

set_option maxHeartbeats 1000000 in
set_option maxRecDepth 100000 in
theorem run_isDig (s : ByteArray) (w : World) (hs : s.size ≤ 100000) : Calls Try.prog 31 #[.string s, .func (Fn.func 36) #[] #[]] w fun e w' => e = .returned (.int .i64 (rn isDig (sb s))) ∧ w = w' := by
  have hle := rn_le isDig (sb s)
  rw [sb_len] at hle
  go_enter Try.func31, Try.ntmps31
  go_wp2_with fail
  go_loop [5] (fun n => ∃ k : Nat, k ≤ rn isDig (sb s) ∧ n = .int .i64 k) (fun n => s.size - (intOf n).toNat)
  case atStart => exact ⟨0, Nat.zero_le _, rfl⟩
  case round =>
    obtain ⟨k, hk, rfl⟩ := hrel
    have hrd := rn_drop hk
    by_cases hlt : k < s.size
    · rw [sb_drop s k hlt] at hrd
      have hc := fun w => isDigit_any (s[k].toNat : Int) w
      cases hp : isDig (s[k].toNat : Int) with
      | true =>
        rw [rn_hit hp] at hrd
        rw [hp] at hc
        have HC := Lib.hid hc
        have hk1 : k + 1 ≤ rn isDig (sb s) := by omega
        clear hc hp hrd
        go_wp2_with (go_at_call 36; refine (HC.out _).mono ?_; rintro e w' ⟨rfl, rfl⟩)
        go_round
        case rel => exact ⟨k + 1, hk1, by go_num⟩
        case measure => simp [intOf]; omega
      | false =>
        rw [rn_miss hp] at hrd
        rw [hp] at hc
        have HC := Lib.hid hc
        have HR := Lib.hid hrd
        clear hc hp hrd
        go_wp2_with (go_at_call 36; refine (HC.out _).mono ?_; rintro e w' ⟨rfl, rfl⟩)
        go_ret
        exact ⟨by rw [HR.out]; rfl, rfl⟩
    · have hkn : k = rn isDig (sb s) := by omega
      have HR := Lib.hid hkn
      have hd : decide (k < s.size) = false := by simp; omega
      clear hkn hrd hlt
      go_wp2
      go_ret
      exact ⟨by rw [← HR.out]; rfl, rfl⟩
end Go.Proofs.Ytkngppkchaadhaa
