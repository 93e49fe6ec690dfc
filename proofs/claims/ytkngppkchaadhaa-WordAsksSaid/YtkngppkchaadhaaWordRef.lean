/- The reference's word. -/
import Derived.Test.YtkngppkchaadhaaWordOne
set_option linter.unusedVariables false
set_option linter.unusedSimpArgs false
namespace Go.Proofs.Ytkngppkchaadhaa
open Go.RowKit De Wd

theorem refSmall_any (c : Int) (w : World) : Calls Try.prog 40 #[.int .u8 c] w fun e w' => e = .returned (.bool (isLow c)) ∧ w = w' := by
  by_cases h1 : 97 ≤ c
  · by_cases h2 : c ≤ 122
    all_goals
      go_enter Try.func40, Try.ntmps40
      go_wp2
      go_ret
      exact ⟨ret_bool (by simp [isLow] <;> omega), rfl⟩
  · go_enter Try.func40, Try.ntmps40
    go_wp2
    go_ret
    exact ⟨ret_bool (by simp [isLow] <;> omega), rfl⟩
theorem refDigit_any (c : Int) (w : World) : Calls Try.prog 41 #[.int .u8 c] w fun e w' => e = .returned (.bool (isDig c)) ∧ w = w' := by
  by_cases h1 : 48 ≤ c
  · by_cases h2 : c ≤ 57
    all_goals
      go_enter Try.func41, Try.ntmps41
      go_wp2
      go_ret
      exact ⟨ret_bool (by simp [isDig] <;> omega), rfl⟩
  · go_enter Try.func41, Try.ntmps41
    go_wp2
    go_ret
    exact ⟨ret_bool (by simp [isDig] <;> omega), rfl⟩
def RefPost (s : ByteArray) (a : Nat) (w : World) (e : Ending) (w' : World) : Prop :=
  (∃ x, wd ((sb s).drop a) = some x ∧ e = .returned (.tuple #[.agg (wval s a x).toArray, .int .i64 x.z]) ∧ Below w.heap.size w w') ∨
  (wd ((sb s).drop a) = none ∧ e = .returned (.tuple #[.agg #[.int .i64 0, .string ⟨#[]⟩, .int .i64 0], .int .i64 0]) ∧ Below w.heap.size w w')
theorem ref_yes {s : ByteArray} {a : Nat} {w w' : World} {e : Ending} (x : Wt) (h : wd ((sb s).drop a) = some x) (he : e = .returned (.tuple #[.agg (wval s a x).toArray, .int .i64 x.z])) (hb : Below w.heap.size w w') : RefPost s a w e w' := .inl ⟨x, h, he, hb⟩
theorem ref_no {s : ByteArray} {a : Nat} {w w' : World} {e : Ending} (h : wd ((sb s).drop a) = none) (he : e = .returned (.tuple #[.agg #[.int .i64 0, .string ⟨#[]⟩, .int .i64 0], .int .i64 0])) (hb : Below w.heap.size w w') : RefPost s a w e w' := .inr ⟨h, he, hb⟩

set_option maxHeartbeats 4000000 in
set_option maxRecDepth 100000 in
theorem ref_b32 (s : ByteArray) (a : Nat) (w : World) (hs : s.size ≤ 100000) (ha : a < s.size) (c32 : (s[a].toNat : Int) = 32) :
    Calls Try.prog 19 #[.string s, .int .i64 a] w (RefPost s a w) := by
  have hD := sb_drop s a ha
  have HD := Lib.hid hD
  have hii : (0 : Int) ≤ (a : Int) := by omega
  have hij : (a : Int) < (s.size : Int) := by omega
  have t32 : ((s[a].toNat : Int) == 32) = true := by simp [c32]
  have hw : wd ((sb s).drop a) = some ⟨0, 0, 0, 1⟩ := by rw [HD.out, wd, if_pos (.inl c32)]
  have HW := Lib.hid hw
  clear hw hD c32
  go_enter Try.func19, Try.ntmps19
  go_wp2
  refine bodyPost_ret (v := .tuple #[.agg (wval s a ⟨0, 0, 0, 1⟩).toArray, .int .i64 1]) (by simp [results, Try.results19, go_sem, wval, ext_nil]; try rfl) rfl (ref_yes _ HW.out rfl (by first | exact bel_new (Below.refl _ _) _ | exact (((bel_new (Below.refl _ _) _).setCell (Nat.le_refl _) _).setCell (Nat.le_refl _) _).setCell (Nat.le_refl _) _))

set_option maxHeartbeats 4000000 in
set_option maxRecDepth 100000 in
theorem ref_b9 (s : ByteArray) (a : Nat) (w : World) (hs : s.size ≤ 100000) (ha : a < s.size) (c32 : ¬ (s[a].toNat : Int) = 32) (c9 : (s[a].toNat : Int) = 9) :
    Calls Try.prog 19 #[.string s, .int .i64 a] w (RefPost s a w) := by
  have hD := sb_drop s a ha
  have HD := Lib.hid hD
  have hii : (0 : Int) ≤ (a : Int) := by omega
  have hij : (a : Int) < (s.size : Int) := by omega
  have t32 : ((s[a].toNat : Int) == 32) = false := by simpa using c32
  have t9 : ((s[a].toNat : Int) == 9) = true := by simp [c9]
  have hw : wd ((sb s).drop a) = some ⟨0, 0, 0, 1⟩ := by rw [HD.out, wd, if_pos (.inr (.inl c9))]
  have HW := Lib.hid hw
  clear hw hD c32 c9
  go_enter Try.func19, Try.ntmps19
  go_wp2
  refine bodyPost_ret (v := .tuple #[.agg (wval s a ⟨0, 0, 0, 1⟩).toArray, .int .i64 1]) (by simp [results, Try.results19, go_sem, wval, ext_nil]; try rfl) rfl (ref_yes _ HW.out rfl (by first | exact bel_new (Below.refl _ _) _ | exact (((bel_new (Below.refl _ _) _).setCell (Nat.le_refl _) _).setCell (Nat.le_refl _) _).setCell (Nat.le_refl _) _))

set_option maxHeartbeats 4000000 in
set_option maxRecDepth 100000 in
theorem ref_b13 (s : ByteArray) (a : Nat) (w : World) (hs : s.size ≤ 100000) (ha : a < s.size) (c32 : ¬ (s[a].toNat : Int) = 32) (c9 : ¬ (s[a].toNat : Int) = 9) (c13 : (s[a].toNat : Int) = 13) :
    Calls Try.prog 19 #[.string s, .int .i64 a] w (RefPost s a w) := by
  have hD := sb_drop s a ha
  have HD := Lib.hid hD
  have hii : (0 : Int) ≤ (a : Int) := by omega
  have hij : (a : Int) < (s.size : Int) := by omega
  have t32 : ((s[a].toNat : Int) == 32) = false := by simpa using c32
  have t9 : ((s[a].toNat : Int) == 9) = false := by simpa using c9
  have t13 : ((s[a].toNat : Int) == 13) = true := by simp [c13]
  have hw : wd ((sb s).drop a) = some ⟨0, 0, 0, 1⟩ := by rw [HD.out, wd, if_pos (.inr (.inr c13))]
  have HW := Lib.hid hw
  clear hw hD c32 c9 c13
  go_enter Try.func19, Try.ntmps19
  go_wp2
  refine bodyPost_ret (v := .tuple #[.agg (wval s a ⟨0, 0, 0, 1⟩).toArray, .int .i64 1]) (by simp [results, Try.results19, go_sem, wval, ext_nil]; try rfl) rfl (ref_yes _ HW.out rfl (by first | exact bel_new (Below.refl _ _) _ | exact (((bel_new (Below.refl _ _) _).setCell (Nat.le_refl _) _).setCell (Nat.le_refl _) _).setCell (Nat.le_refl _) _))

set_option maxHeartbeats 4000000 in
set_option maxRecDepth 100000 in
theorem ref_b10 (s : ByteArray) (a : Nat) (w : World) (hs : s.size ≤ 100000) (ha : a < s.size) (c32 : ¬ (s[a].toNat : Int) = 32) (c9 : ¬ (s[a].toNat : Int) = 9) (c13 : ¬ (s[a].toNat : Int) = 13) (c10 : (s[a].toNat : Int) = 10) :
    Calls Try.prog 19 #[.string s, .int .i64 a] w (RefPost s a w) := by
  have hD := sb_drop s a ha
  have HD := Lib.hid hD
  have hii : (0 : Int) ≤ (a : Int) := by omega
  have hij : (a : Int) < (s.size : Int) := by omega
  have t32 : ((s[a].toNat : Int) == 32) = false := by simpa using c32
  have t9 : ((s[a].toNat : Int) == 9) = false := by simpa using c9
  have t13 : ((s[a].toNat : Int) == 13) = false := by simpa using c13
  have t10 : ((s[a].toNat : Int) == 10) = true := by simp [c10]
  have hw : wd ((sb s).drop a) = some ⟨5, 0, 0, 1⟩ := by rw [HD.out, wd, if_neg (by omega), if_neg (by omega), if_pos c10]
  have HW := Lib.hid hw
  clear hw hD c32 c9 c13 c10
  go_enter Try.func19, Try.ntmps19
  go_wp2
  refine bodyPost_ret (v := .tuple #[.agg (wval s a ⟨5, 0, 0, 1⟩).toArray, .int .i64 1]) (by simp [results, Try.results19, go_sem, wval, ext_nil]; try rfl) rfl (ref_yes _ HW.out rfl (by first | exact bel_new (Below.refl _ _) _ | exact (((bel_new (Below.refl _ _) _).setCell (Nat.le_refl _) _).setCell (Nat.le_refl _) _).setCell (Nat.le_refl _) _))

set_option maxHeartbeats 4000000 in
set_option maxRecDepth 100000 in
theorem ref_b35 (s : ByteArray) (a : Nat) (w : World) (hs : s.size ≤ 100000) (ha : a < s.size) (c32 : ¬ (s[a].toNat : Int) = 32) (c9 : ¬ (s[a].toNat : Int) = 9) (c13 : ¬ (s[a].toNat : Int) = 13) (c10 : ¬ (s[a].toNat : Int) = 10) (c35 : (s[a].toNat : Int) = 35) :
    Calls Try.prog 19 #[.string s, .int .i64 a] w (RefPost s a w) := by
  have hD := sb_drop s a ha
  have HD := Lib.hid hD
  have hii : (0 : Int) ≤ (a : Int) := by omega
  have hij : (a : Int) < (s.size : Int) := by omega
  have t32 : ((s[a].toNat : Int) == 32) = false := by simpa using c32
  have t9 : ((s[a].toNat : Int) == 9) = false := by simpa using c9
  have t13 : ((s[a].toNat : Int) == 13) = false := by simpa using c13
  have t10 : ((s[a].toNat : Int) == 10) = false := by simpa using c10
  have t35 : ((s[a].toNat : Int) == 35) = true := by simp [c35]
  have hw : wd ((sb s).drop a) = some ⟨0, 0, 0, rn notNl ((sb s).drop a)⟩ := by rw [HD.out, wd, if_neg (by omega), if_pos c35]
  have HW := Lib.hid hw
  have h1 : 1 ≤ rn notNl ((sb s).drop a) := by rw [HD.out]; exact rn_pos (by simp [notNl]; omega)
  have H1 := Lib.hid h1
  clear hw hD h1 c32 c9 c13 c10 c35
  have hrl := rn_le notNl ((sb s).drop a)
  rw [List.length_drop, sb_len] at hrl
  go_enter Try.func19, Try.ntmps19
  go_wp2_with fail
  go_loop [7] (fun n => ∃ k : Nat, 1 ≤ k ∧ k ≤ rn notNl ((sb s).drop a) ∧ n = .int .i64 k) (fun n => s.size - (intOf n).toNat)
  case atStart => exact ⟨1, Nat.le_refl _, H1.out, rfl⟩
  case round =>
    obtain ⟨k, hk1, hk, rfl⟩ := hrel
    have hrd := rn_drop hk
    rw [List.drop_drop] at hrd
    have hk0 : (0 : Int) ≤ (a : Int) + (k : Int) := by omega
    have hkt : ((a : Int) + (k : Int)).toNat = a + k := by omega
    by_cases hlt : a + k < s.size
    · rw [sb_drop s (a + k) hlt] at hrd
      have hd : decide ((a : Int) + (k : Int) < (s.size : Int)) = true := by simp; omega
      have hki : (a : Int) + (k : Int) < (s.size : Int) := by omega
      cases hp : notNl (s[a + k].toNat : Int) with
      | true =>
        rw [rn_hit hp] at hrd
        have hk2 : k + 1 ≤ rn notNl ((sb s).drop a) := by omega
        have tq : ((s[a + k].toNat : Int) != 10) = true := by simp [notNl] at hp; simp [hp]
        clear hp hrd
        go_wp2_with fail
        go_round
        case rel => exact ⟨k + 1, by omega, hk2, by go_num⟩
        case measure => simp [intOf]; omega
      | false =>
        rw [rn_miss hp] at hrd
        have hkn : rn notNl ((sb s).drop a) = k := by omega
        rw [hkn] at HW
        have tq : ((s[a + k].toNat : Int) != 10) = false := by simp [notNl] at hp; simp [hp]
        clear hp hrd hkn
        go_wp2_with fail
        refine bodyPost_ret (v := .tuple #[.agg (wval s a ⟨0, 0, 0, k⟩).toArray, .int .i64 k]) (by simp [results, Try.results19, go_sem, wval, ext_nil]; try rfl) rfl (ref_yes _ HW.out rfl (by first | exact bel_new (Below.refl _ _) _ | exact (((bel_new (Below.refl _ _) _).setCell (Nat.le_refl _) _).setCell (Nat.le_refl _) _).setCell (Nat.le_refl _) _))
    · have hkn : rn notNl ((sb s).drop a) = k := by omega
      rw [hkn] at HW
      have hd : decide ((a : Int) + (k : Int) < (s.size : Int)) = false := by simp; omega
      clear hkn hrd hlt
      go_wp2_with fail
      refine bodyPost_ret (v := .tuple #[.agg (wval s a ⟨0, 0, 0, k⟩).toArray, .int .i64 k]) (by simp [results, Try.results19, go_sem, wval, ext_nil]; try rfl) rfl (ref_yes _ HW.out rfl (by first | exact bel_new (Below.refl _ _) _ | exact (((bel_new (Below.refl _ _) _).setCell (Nat.le_refl _) _).setCell (Nat.le_refl _) _).setCell (Nat.le_refl _) _))

set_option maxHeartbeats 4000000 in
set_option maxRecDepth 100000 in
theorem ref_low (s : ByteArray) (a : Nat) (w : World) (hs : s.size ≤ 100000) (ha : a < s.size) (c32 : ¬ (s[a].toNat : Int) = 32) (c9 : ¬ (s[a].toNat : Int) = 9) (c13 : ¬ (s[a].toNat : Int) = 13) (c10 : ¬ (s[a].toNat : Int) = 10) (c35 : ¬ (s[a].toNat : Int) = 35) (hl : isLow (s[a].toNat : Int) = true) :
    Calls Try.prog 19 #[.string s, .int .i64 a] w (RefPost s a w) := by
  have hD := sb_drop s a ha
  have HD := Lib.hid hD
  have hii : (0 : Int) ≤ (a : Int) := by omega
  have hij : (a : Int) < (s.size : Int) := by omega
  have t32 : ((s[a].toNat : Int) == 32) = false := by simpa using c32
  have t9 : ((s[a].toNat : Int) == 9) = false := by simpa using c9
  have t13 : ((s[a].toNat : Int) == 13) = false := by simpa using c13
  have t10 : ((s[a].toNat : Int) == 10) = false := by simpa using c10
  have t35 : ((s[a].toNat : Int) == 35) = false := by simpa using c35
  have hw : wd ((sb s).drop a) = some ⟨1, 0, rn lowDig ((sb s).drop a), rn lowDig ((sb s).drop a)⟩ := by
    have : 97 ≤ (s[a].toNat : Int) ∧ (s[a].toNat : Int) ≤ 122 := of_decide_eq_true hl
    rw [HD.out, wd, if_neg (by omega), if_neg (by omega), if_neg (by omega), if_neg (by omega), if_pos hl]
  have HW := Lib.hid hw
  have h1 : 1 ≤ rn lowDig ((sb s).drop a) := by rw [HD.out]; exact rn_pos (by simp [lowDig, hl])
  have H1 := Lib.hid h1
  clear hw hD h1 c32 c9 c13 c10 c35
  have hrl := rn_le lowDig ((sb s).drop a)
  rw [List.length_drop, sb_len] at hrl
  go_enter Try.func19, Try.ntmps19
  have hsm := fun w => refSmall_any (s[a].toNat : Int) w
  rw [hl] at hsm
  have HS := Lib.hid hsm
  clear hsm
  go_wp2_with (first | (go_at_call 40; refine (HS.out _).mono ?_; rintro e w1 ⟨rfl, rfl⟩) | (go_at_call 41; refine (HG.out _).mono ?_; rintro e w1 ⟨rfl, rfl⟩))
  go_loop [7] (fun n => ∃ k : Nat, 1 ≤ k ∧ k ≤ rn lowDig ((sb s).drop a) ∧ n = .int .i64 k) (fun n => s.size - (intOf n).toNat)
  case atStart => exact ⟨1, Nat.le_refl _, H1.out, rfl⟩
  case round =>
    obtain ⟨k, hk1, hk, rfl⟩ := hrel
    have hrd := rn_drop hk
    rw [List.drop_drop] at hrd
    have hk0 : (0 : Int) ≤ (a : Int) + (k : Int) := by omega
    have hkt : ((a : Int) + (k : Int)).toNat = a + k := by omega
    by_cases hlt : a + k < s.size
    · rw [sb_drop s (a + k) hlt] at hrd
      have hd : decide ((a : Int) + (k : Int) < (s.size : Int)) = true := by simp; omega
      have hki : (a : Int) + (k : Int) < (s.size : Int) := by omega
      cases hp : lowDig (s[a + k].toNat : Int) with
      | true =>
        rw [rn_hit hp] at hrd
        have hk2 : k + 1 ≤ rn lowDig ((sb s).drop a) := by omega
        cases hlw : isLow (s[a + k].toNat : Int) with
        | true =>
          have hsm := fun w => refSmall_any (s[a + k].toNat : Int) w
          rw [hlw] at hsm
          have HS := Lib.hid hsm
          clear hsm
          clear hp hrd hlw
          go_wp2_with (go_at_call 40; refine (HS.out _).mono ?_; rintro e w1 ⟨rfl, rfl⟩)
          go_round
          case rel => exact ⟨k + 1, by omega, hk2, by go_num⟩
          case measure => simp [intOf]; omega
        | false =>
          have hdw : isDig (s[a + k].toNat : Int) = true := by simpa [lowDig, hlw] using hp
          have hsm := fun w => refSmall_any (s[a + k].toNat : Int) w
          rw [hlw] at hsm
          have HS := Lib.hid hsm
          clear hsm
          have hdg := fun w => refDigit_any (s[a + k].toNat : Int) w
          rw [hdw] at hdg
          have HG := Lib.hid hdg
          clear hdg
          clear hp hrd hlw hdw
          go_wp2_with (first | (go_at_call 40; refine (HS.out _).mono ?_; rintro e w1 ⟨rfl, rfl⟩) | (go_at_call 41; refine (HG.out _).mono ?_; rintro e w1 ⟨rfl, rfl⟩))
          go_round
          case rel => exact ⟨k + 1, by omega, hk2, by go_num⟩
          case measure => simp [intOf]; omega
      | false =>
        rw [rn_miss hp] at hrd
        have hkn : rn lowDig ((sb s).drop a) = k := by omega
        rw [hkn] at HW
        have hlw : isLow (s[a + k].toNat : Int) = false := by cases h : isLow (s[a + k].toNat : Int) <;> simp [lowDig, h] at hp ⊢
        have hdw : isDig (s[a + k].toNat : Int) = false := by simpa [lowDig, hlw] using hp
        have hsm := fun w => refSmall_any (s[a + k].toNat : Int) w
        rw [hlw] at hsm
        have HS := Lib.hid hsm
        clear hsm
        have hdg := fun w => refDigit_any (s[a + k].toNat : Int) w
        rw [hdw] at hdg
        have HG := Lib.hid hdg
        clear hdg
        clear hlw hdw
        clear hp hrd hkn
        go_wp2_with (first | (go_at_call 40; refine (HS.out _).mono ?_; rintro e w1 ⟨rfl, rfl⟩) | (go_at_call 41; refine (HG.out _).mono ?_; rintro e w1 ⟨rfl, rfl⟩))
        refine bodyPost_ret (v := .tuple #[.agg (wval s a ⟨1, 0, k, k⟩).toArray, .int .i64 k]) (by simp [results, Try.results19, go_sem, wval, ext_nil]; try rfl) rfl (ref_yes _ HW.out rfl (by first | exact bel_new (Below.refl _ _) _ | exact (((bel_new (Below.refl _ _) _).setCell (Nat.le_refl _) _).setCell (Nat.le_refl _) _).setCell (Nat.le_refl _) _))
    · have hkn : rn lowDig ((sb s).drop a) = k := by omega
      rw [hkn] at HW
      have hd : decide ((a : Int) + (k : Int) < (s.size : Int)) = false := by simp; omega
      clear hkn hrd hlt
      go_wp2_with (first | (go_at_call 40; refine (HS.out _).mono ?_; rintro e w1 ⟨rfl, rfl⟩) | (go_at_call 41; refine (HG.out _).mono ?_; rintro e w1 ⟨rfl, rfl⟩))
      refine bodyPost_ret (v := .tuple #[.agg (wval s a ⟨1, 0, k, k⟩).toArray, .int .i64 k]) (by simp [results, Try.results19, go_sem, wval, ext_nil]; try rfl) rfl (ref_yes _ HW.out rfl (by first | exact bel_new (Below.refl _ _) _ | exact (((bel_new (Below.refl _ _) _).setCell (Nat.le_refl _) _).setCell (Nat.le_refl _) _).setCell (Nat.le_refl _) _))

set_option maxHeartbeats 4000000 in
set_option maxRecDepth 100000 in
theorem ref_dig (s : ByteArray) (a : Nat) (w : World) (hs : s.size ≤ 100000) (ha : a < s.size) (c32 : ¬ (s[a].toNat : Int) = 32) (c9 : ¬ (s[a].toNat : Int) = 9) (c13 : ¬ (s[a].toNat : Int) = 13) (c10 : ¬ (s[a].toNat : Int) = 10) (c35 : ¬ (s[a].toNat : Int) = 35) (hl0 : isLow (s[a].toNat : Int) = false) (hl : isDig (s[a].toNat : Int) = true) :
    Calls Try.prog 19 #[.string s, .int .i64 a] w (RefPost s a w) := by
  have hD := sb_drop s a ha
  have HD := Lib.hid hD
  have hii : (0 : Int) ≤ (a : Int) := by omega
  have hij : (a : Int) < (s.size : Int) := by omega
  have t32 : ((s[a].toNat : Int) == 32) = false := by simpa using c32
  have t9 : ((s[a].toNat : Int) == 9) = false := by simpa using c9
  have t13 : ((s[a].toNat : Int) == 13) = false := by simpa using c13
  have t10 : ((s[a].toNat : Int) == 10) = false := by simpa using c10
  have t35 : ((s[a].toNat : Int) == 35) = false := by simpa using c35
  have hw : wd ((sb s).drop a) = some ⟨2, 0, rn isDig ((sb s).drop a), rn isDig ((sb s).drop a)⟩ := by
    have : 48 ≤ (s[a].toNat : Int) ∧ (s[a].toNat : Int) ≤ 57 := of_decide_eq_true hl
    rw [HD.out, wd, if_neg (by omega), if_neg (by omega), if_neg (by omega), if_neg (by omega), if_neg (by simp [hl0]), if_pos hl]
  have HW := Lib.hid hw
  have h1 : 1 ≤ rn isDig ((sb s).drop a) := by rw [HD.out]; exact rn_pos hl
  have H1 := Lib.hid h1
  clear hw hD h1 c32 c9 c13 c10 c35
  have hrl := rn_le isDig ((sb s).drop a)
  rw [List.length_drop, sb_len] at hrl
  go_enter Try.func19, Try.ntmps19
  have hsm := fun w => refSmall_any (s[a].toNat : Int) w
  rw [hl0] at hsm
  have HS := Lib.hid hsm
  clear hsm
  have hdg := fun w => refDigit_any (s[a].toNat : Int) w
  rw [hl] at hdg
  have HG := Lib.hid hdg
  clear hdg
  go_wp2_with (first | (go_at_call 40; refine (HS.out _).mono ?_; rintro e w1 ⟨rfl, rfl⟩) | (go_at_call 41; refine (HG.out _).mono ?_; rintro e w1 ⟨rfl, rfl⟩))
  go_loop [7] (fun n => ∃ k : Nat, 1 ≤ k ∧ k ≤ rn isDig ((sb s).drop a) ∧ n = .int .i64 k) (fun n => s.size - (intOf n).toNat)
  case atStart => exact ⟨1, Nat.le_refl _, H1.out, rfl⟩
  case round =>
    obtain ⟨k, hk1, hk, rfl⟩ := hrel
    have hrd := rn_drop hk
    rw [List.drop_drop] at hrd
    have hk0 : (0 : Int) ≤ (a : Int) + (k : Int) := by omega
    have hkt : ((a : Int) + (k : Int)).toNat = a + k := by omega
    by_cases hlt : a + k < s.size
    · rw [sb_drop s (a + k) hlt] at hrd
      have hd : decide ((a : Int) + (k : Int) < (s.size : Int)) = true := by simp; omega
      have hki : (a : Int) + (k : Int) < (s.size : Int) := by omega
      cases hp : isDig (s[a + k].toNat : Int) with
      | true =>
        rw [rn_hit hp] at hrd
        have hk2 : k + 1 ≤ rn isDig ((sb s).drop a) := by omega
        have hdg := fun w => refDigit_any (s[a + k].toNat : Int) w
        rw [hp] at hdg
        have HG := Lib.hid hdg
        clear hdg
        clear hp hrd
        go_wp2_with (first | (go_at_call 40; refine (HS.out _).mono ?_; rintro e w1 ⟨rfl, rfl⟩) | (go_at_call 41; refine (HG.out _).mono ?_; rintro e w1 ⟨rfl, rfl⟩))
        go_round
        case rel => exact ⟨k + 1, by omega, hk2, by go_num⟩
        case measure => simp [intOf]; omega
      | false =>
        rw [rn_miss hp] at hrd
        have hkn : rn isDig ((sb s).drop a) = k := by omega
        rw [hkn] at HW
        have hdg := fun w => refDigit_any (s[a + k].toNat : Int) w
        rw [hp] at hdg
        have HG := Lib.hid hdg
        clear hdg
        clear hp hrd hkn
        go_wp2_with (first | (go_at_call 40; refine (HS.out _).mono ?_; rintro e w1 ⟨rfl, rfl⟩) | (go_at_call 41; refine (HG.out _).mono ?_; rintro e w1 ⟨rfl, rfl⟩))
        refine bodyPost_ret (v := .tuple #[.agg (wval s a ⟨2, 0, k, k⟩).toArray, .int .i64 k]) (by simp [results, Try.results19, go_sem, wval, ext_nil]; try rfl) rfl (ref_yes _ HW.out rfl (by first | exact bel_new (Below.refl _ _) _ | exact (((bel_new (Below.refl _ _) _).setCell (Nat.le_refl _) _).setCell (Nat.le_refl _) _).setCell (Nat.le_refl _) _))
    · have hkn : rn isDig ((sb s).drop a) = k := by omega
      rw [hkn] at HW
      have hd : decide ((a : Int) + (k : Int) < (s.size : Int)) = false := by simp; omega
      clear hkn hrd hlt
      go_wp2_with (first | (go_at_call 40; refine (HS.out _).mono ?_; rintro e w1 ⟨rfl, rfl⟩) | (go_at_call 41; refine (HG.out _).mono ?_; rintro e w1 ⟨rfl, rfl⟩))
      refine bodyPost_ret (v := .tuple #[.agg (wval s a ⟨2, 0, k, k⟩).toArray, .int .i64 k]) (by simp [results, Try.results19, go_sem, wval, ext_nil]; try rfl) rfl (ref_yes _ HW.out rfl (by first | exact bel_new (Below.refl _ _) _ | exact (((bel_new (Below.refl _ _) _).setCell (Nat.le_refl _) _).setCell (Nat.le_refl _) _).setCell (Nat.le_refl _) _))

theorem ref_sign_byte : ∀ (k : Nat) (hk : k < (⟨#[123, 125, 40, 41, 124, 42, 94, 60, 62, 58, 95, 61]⟩ : ByteArray).size), (((⟨#[123, 125, 40, 41, 124, 42, 94, 60, 62, 58, 95, 61]⟩ : ByteArray)[k]'hk).toNat : Int) = signs.getD k 0 := by
  intro k hk
  have hk' : k < 12 := hk
  rcases (by omega : k = 0 ∨ k = 1 ∨ k = 2 ∨ k = 3 ∨ k = 4 ∨ k = 5 ∨ k = 6 ∨ k = 7 ∨ k = 8 ∨ k = 9 ∨ k = 10 ∨ k = 11) with rfl | rfl | rfl | rfl | rfl | rfl | rfl | rfl | rfl | rfl | rfl | rfl <;> rfl
theorem sign_at {c : Int} {k : Nat} (hk : k < 12) (h : signs.getD k 0 = c) : isSign c = true := by
  have : c ∈ signs := by
    rw [← h, List.getD, List.getElem?_eq_getElem (show k < signs.length from hk)]; exact List.getElem_mem _
  exact decide_eq_true this
theorem sign_not {c : Int} (h : ∀ k : Nat, k < 12 → signs.getD k 0 ≠ c) : isSign c = false := by
  refine decide_eq_false fun hm => ?_
  obtain ⟨k, hk⟩ := List.mem_iff_getElem?.1 hm
  have hlt : k < signs.length := (List.getElem?_eq_some_iff.1 hk).1
  exact h k hlt (by rw [List.getD, hk]; rfl)

set_option maxHeartbeats 4000000 in
set_option maxRecDepth 100000 in
theorem ref_rest (s : ByteArray) (a : Nat) (w : World) (hs : s.size ≤ 100000) (ha : a < s.size) (c32 : ¬ (s[a].toNat : Int) = 32) (c9 : ¬ (s[a].toNat : Int) = 9) (c13 : ¬ (s[a].toNat : Int) = 13) (c10 : ¬ (s[a].toNat : Int) = 10) (c35 : ¬ (s[a].toNat : Int) = 35) (hl0 : isLow (s[a].toNat : Int) = false) (hl1 : isDig (s[a].toNat : Int) = false) (c47 : ¬ (s[a].toNat : Int) = 47) :
    Calls Try.prog 19 #[.string s, .int .i64 a] w (RefPost s a w) := by
  have hD := sb_drop s a ha
  have HD := Lib.hid hD
  have hii : (0 : Int) ≤ (a : Int) := by omega
  have hij : (a : Int) < (s.size : Int) := by omega
  have t32 : ((s[a].toNat : Int) == 32) = false := by simpa using c32
  have t9 : ((s[a].toNat : Int) == 9) = false := by simpa using c9
  have t13 : ((s[a].toNat : Int) == 13) = false := by simpa using c13
  have t10 : ((s[a].toNat : Int) == 10) = false := by simpa using c10
  have t35 : ((s[a].toNat : Int) == 35) = false := by simpa using c35
  have t47 : ((s[a].toNat : Int) == 47) = false := by simpa using c47
  have hw : wd ((sb s).drop a) = if isSign (s[a].toNat : Int) = true then some ⟨3, 0, 1, 1⟩ else none := by
    rw [HD.out, wd, if_neg (by omega), if_neg (by omega), if_neg (by omega), if_neg (by omega), if_neg (by simp [hl0]), if_neg (by simp [hl1])]
  have HW0 := Lib.hid hw
  clear hw hD c47 c32 c9 c13 c10 c35
  have hsm := fun w => refSmall_any (s[a].toNat : Int) w
  rw [hl0] at hsm
  have HS := Lib.hid hsm
  clear hsm
  have hdg := fun w => refDigit_any (s[a].toNat : Int) w
  rw [hl1] at hdg
  have HG := Lib.hid hdg
  clear hdg
  go_enter Try.func19, Try.ntmps19
  go_wp2_with (first | (go_at_call 40; refine (HS.out _).mono ?_; rintro e w1 ⟨rfl, rfl⟩) | (go_at_call 41; refine (HG.out _).mono ?_; rintro e w1 ⟨rfl, rfl⟩))
  go_loop [8] (fun i => ∃ k : Nat, k ≤ 12 ∧ i = .int .i64 k ∧ ∀ j : Nat, j < k → signs.getD j 0 ≠ (s[a].toNat : Int)) (fun i => 12 - (intOf i).toNat)
  case atStart => exact ⟨0, by omega, rfl, fun j hj => by omega⟩
  case round =>
    obtain ⟨k, hk, rfl, hall⟩ := hrel
    by_cases hkt : k < 12
    · have hsb := ref_sign_byte k hkt
      have hk0 : (0 : Int) ≤ (k : Int) := by omega
      have hki : (k : Int) < 12 := by omega
      have hd : decide ((k : Int) < 12) = true := by simp; omega
      have ht : (((((⟨#[123, 125, 40, 41, 124, 42, 94, 60, 62, 58, 95, 61]⟩ : ByteArray)[k]'hkt).toNat : Int)) == (s[a].toNat : Int)) = decide (signs.getD k 0 = (s[a].toNat : Int)) := by rw [hsb]; rfl
      cases hq : decide (signs.getD k 0 = (s[a].toNat : Int)) with
      | true =>
        rw [hq] at ht
        have hsg := sign_at hkt (of_decide_eq_true hq)
        have HW := Lib.hid (show wd ((sb s).drop a) = some ⟨3, 0, 1, 1⟩ by rw [HW0.out, if_pos hsg])
        have ha1 : ((a : Int) + 1).toNat = a + 1 := by omega
        have ha2 : (a : Int) + 1 ≤ (s.size : Int) := by omega
        have ha3 : (a : Int) ≤ (a : Int) + 1 := by omega
        clear hsg hq hall hsb
        go_wp2
        refine bodyPost_ret (v := .tuple #[.agg (wval s a ⟨3, 0, 1, 1⟩).toArray, .int .i64 1]) (by simp [results, Try.results19, go_sem, wval, ext_nil]; try rfl) rfl (ref_yes _ HW.out rfl (by first | exact bel_new (Below.refl _ _) _ | exact (((bel_new (Below.refl _ _) _).setCell (Nat.le_refl _) _).setCell (Nat.le_refl _) _).setCell (Nat.le_refl _) _))
      | false =>
        rw [hq] at ht
        have HN := Lib.hid (show ∀ j : Nat, j < k + 1 → signs.getD j 0 ≠ (s[a].toNat : Int) by
          intro j hj
          by_cases hjk : j = k
          · subst hjk; exact of_decide_eq_false hq
          · exact hall j (by omega))
        clear hq hall hsb
        go_wp2
        go_round
        case rel => exact ⟨k + 1, by omega, by go_num, HN.out⟩
        case measure => simp [intOf]; omega
    · have hkn : k = 12 := by omega
      subst hkn
      have hsg := sign_not hall
      have HW := Lib.hid (show wd ((sb s).drop a) = none by rw [HW0.out, if_neg (by simp [hsg])])
      clear hsg hall
      go_wp2
      refine bodyPost_ret (v := .tuple #[.agg #[.int .i64 0, .string ⟨#[]⟩, .int .i64 0], .int .i64 0]) (by simp [results, Try.results19, go_sem]; try rfl) rfl (ref_no HW.out rfl (by first | exact bel_new (Below.refl _ _) _ | exact (((bel_new (Below.refl _ _) _).setCell (Nat.le_refl _) _).setCell (Nat.le_refl _) _).setCell (Nat.le_refl _) _))

theorem ex_stop10 {c : Int} {t : List Int} (h : c = 10) : ex false (c :: t) = none := by subst h; rfl
theorem ex_stop47 {c : Int} {t : List Int} (h : c = 47) : ex false (c :: t) = some 0 := by subst h; rfl
theorem ex_step {c : Int} {t : List Int} (h1 : c ≠ 10) (h2 : c ≠ 47) (h3 : c ≠ 92) : ex false (c :: t) = (ex false t).map (· + 1) := by
  simp [ex, h1, h2, h3]
theorem ex_esc {c d : Int} {t : List Int} (h3 : c = 92) (hd : d ≠ 10) : ex false (c :: d :: t) = (ex false t).map (· + 2) := by
  subst h3
  simp [ex, hd, Option.map_map]
  congr 1
theorem ex_esc10 {c d : Int} {t : List Int} (h3 : c = 92) (hd : d = 10) : ex false (c :: d :: t) = (ex false (d :: t)).map (· + 1) := by
  subst h3; subst hd; rfl
theorem ex_escE {c : Int} (h3 : c = 92) : ex false [c] = (ex false []).map (· + 1) := by
  subst h3; rfl
theorem ex_map {o p : Option Nat} {m j : Nat} (h : o = p.map (· + m)) {q : Option Nat} (hp : p = q.map (· + j)) : o = q.map (· + (m + j)) := by
  subst h; subst hp; cases q <;> simp; omega

set_option maxHeartbeats 4000000 in
set_option maxRecDepth 100000 in
theorem ref_slash (s : ByteArray) (a : Nat) (w : World) (hs : s.size ≤ 100000) (ha : a < s.size) (c32 : ¬ (s[a].toNat : Int) = 32) (c9 : ¬ (s[a].toNat : Int) = 9) (c13 : ¬ (s[a].toNat : Int) = 13) (c10 : ¬ (s[a].toNat : Int) = 10) (c35 : ¬ (s[a].toNat : Int) = 35) (hl0 : isLow (s[a].toNat : Int) = false) (hl1 : isDig (s[a].toNat : Int) = false) (c47 : (s[a].toNat : Int) = 47) :
    Calls Try.prog 19 #[.string s, .int .i64 a] w (RefPost s a w) := by
  have hD := sb_drop s a ha
  have HD := Lib.hid hD
  have hii : (0 : Int) ≤ (a : Int) := by omega
  have hij : (a : Int) < (s.size : Int) := by omega
  have t32 : ((s[a].toNat : Int) == 32) = false := by simpa using c32
  have t9 : ((s[a].toNat : Int) == 9) = false := by simpa using c9
  have t13 : ((s[a].toNat : Int) == 13) = false := by simpa using c13
  have t10 : ((s[a].toNat : Int) == 10) = false := by simpa using c10
  have t35 : ((s[a].toNat : Int) == 35) = false := by simpa using c35
  have t47 : ((s[a].toNat : Int) == 47) = true := by simp [c47]
  have hw : wd ((sb s).drop a) = (ex false ((sb s).drop (a + 1))).map fun n => ⟨4, 1, n, n + 2⟩ := by
    rw [HD.out, wd, if_neg (by omega), if_neg (by omega), if_neg (by omega), if_pos c47]
  have HW0 := Lib.hid hw
  clear hw hD c47 c32 c9 c13 c10 c35
  have hsm := fun w => refSmall_any (s[a].toNat : Int) w
  rw [hl0] at hsm
  have HS := Lib.hid hsm
  clear hsm
  have hdg := fun w => refDigit_any (s[a].toNat : Int) w
  rw [hl1] at hdg
  have HG := Lib.hid hdg
  clear hdg
  go_enter Try.func19, Try.ntmps19
  go_wp2_with (first | (go_at_call 40; refine (HS.out _).mono ?_; rintro e w1 ⟨rfl, rfl⟩) | (go_at_call 41; refine (HG.out _).mono ?_; rintro e w1 ⟨rfl, rfl⟩))
  go_loop [7] (fun n => ∃ k : Nat, 1 ≤ k ∧ a + k ≤ s.size ∧ n = .int .i64 k ∧ ex false ((sb s).drop (a + 1)) = (ex false ((sb s).drop (a + k))).map (· + (k - 1))) (fun n => s.size - (intOf n).toNat)
  case atStart => exact ⟨1, Nat.le_refl _, by omega, rfl, by cases ex false ((sb s).drop (a + 1)) <;> simp⟩
  case round =>
    obtain ⟨k, hk1, hm, rfl, hex⟩ := hrel
    have hk0 : (0 : Int) ≤ (a : Int) + (k : Int) := by omega
    have hkt : ((a : Int) + (k : Int)).toNat = a + k := by omega
    by_cases hlt : a + k < s.size
    · rw [sb_drop s (a + k) hlt] at hex
      have hd : decide ((a : Int) + (k : Int) < (s.size : Int)) = true := by simp; omega
      have hde : decide ((s.size : Int) ≤ (a : Int) + (k : Int)) = false := by simp; omega
      have hki : (a : Int) + (k : Int) < (s.size : Int) := by omega
      have hc := s[a + k].toNat_lt
      by_cases q47 : (s[a + k].toNat : Int) = 47
      · have u47 : ((s[a + k].toNat : Int) != 47) = false := by simp [q47]
        rw [ex_stop47 q47] at hex
        have HW := Lib.hid (show wd ((sb s).drop a) = some ⟨4, 1, k - 1, k + 1⟩ by rw [HW0.out, hex]; simp; omega)
        have HE := Lib.hid (show a + 1 + (k - 1) = a + k by omega)
        have ha1 : (0 : Int) ≤ (a : Int) + 1 := by omega
        have ha2 : ((a : Int) + 1).toNat = a + 1 := by omega
        have ha3 : (a : Int) + 1 ≤ (a : Int) + (k : Int) := by omega
        have ha4 : (a : Int) + (k : Int) ≤ (s.size : Int) := by omega
        clear hex hc q47
        go_wp2
        refine bodyPost_ret (v := .tuple #[.agg (wval s a ⟨4, 1, k - 1, k + 1⟩).toArray, .int .i64 (k + 1 : Nat)]) (by simp [results, Try.results19, go_sem, wval, HE.out]) rfl (ref_yes _ HW.out rfl (by first | exact bel_new (Below.refl _ _) _ | exact (((bel_new (Below.refl _ _) _).setCell (Nat.le_refl _) _).setCell (Nat.le_refl _) _).setCell (Nat.le_refl _) _))
      have u47 : ((s[a + k].toNat : Int) != 47) = true := by simpa using q47
      by_cases q10 : (s[a + k].toNat : Int) = 10
      · have u10 : ((s[a + k].toNat : Int) != 10) = false := by simp [q10]
        rw [ex_stop10 q10] at hex
        have HW := Lib.hid (show wd ((sb s).drop a) = none by rw [HW0.out, hex]; simp)
        clear hex hc q47 q10
        go_wp2
        refine bodyPost_ret (v := .tuple #[.agg #[.int .i64 0, .string ⟨#[]⟩, .int .i64 0], .int .i64 0]) (by simp [results, Try.results19, go_sem]; try rfl) rfl (ref_no HW.out rfl (by first | exact bel_new (Below.refl _ _) _ | exact (((bel_new (Below.refl _ _) _).setCell (Nat.le_refl _) _).setCell (Nat.le_refl _) _).setCell (Nat.le_refl _) _))
      have u10 : ((s[a + k].toNat : Int) != 10) = true := by simpa using q10
      by_cases q92 : (s[a + k].toNat : Int) = 92
      · have u92 : ((s[a + k].toNat : Int) == 92) = true := by simp [q92]
        by_cases hl2 : a + (k + 1) < s.size
        · have e2 : a + k + 1 = a + (k + 1) := by omega
          rw [e2, sb_drop s (a + (k + 1)) hl2] at hex
          have hd2 : decide ((a : Int) + (k : Int) + 1 < (s.size : Int)) = true := by simp; omega
          have hk3 : (0 : Int) ≤ (a : Int) + (k : Int) + 1 := by omega
          have hk4 : (a : Int) + (k : Int) + 1 < (s.size : Int) := by omega
          have hk5 : ((a : Int) + (k : Int) + 1).toNat = a + (k + 1) := by omega
          by_cases r10 : (s[a + (k + 1)].toNat : Int) = 10
          · have v10 : ((s[a + (k + 1)].toNat : Int) != 10) = false := by simp [r10]
            have HX := Lib.hid (show ex false ((sb s).drop (a + 1)) = (ex false ((sb s).drop (a + (k + 1)))).map (· + (k - 1 + 1)) by rw [sb_drop s (a + (k + 1)) hl2]; exact ex_map hex (ex_esc10 q92 r10))
            clear hex hc q47 q10 q92 r10 e2
            go_wp2
            go_round
            case rel => exact ⟨k + 1, by omega, by omega, by go_num, by rw [show k + 1 - 1 = k - 1 + 1 from by omega]; exact HX.out⟩
            case measure => simp [intOf]; omega
          · have v10 : ((s[a + (k + 1)].toNat : Int) != 10) = true := by simpa using r10
            have HX := Lib.hid (show ex false ((sb s).drop (a + 1)) = (ex false ((sb s).drop (a + (k + 2)))).map (· + (k - 1 + 2)) by exact ex_map hex (ex_esc q92 r10))
            clear hex hc q47 q10 q92 r10 e2
            go_wp2
            go_round
            case rel => exact ⟨k + 2, by omega, by omega, by go_num, by rw [show k + 2 - 1 = k - 1 + 2 from by omega]; exact HX.out⟩
            case measure => simp [intOf]; omega
        · have hd2 : decide ((a : Int) + (k : Int) + 1 < (s.size : Int)) = false := by simp; omega
          have hnil : (sb s).drop (a + (k + 1)) = [] := List.drop_of_length_le (by rw [sb_len]; omega)
          have HX := Lib.hid (show ex false ((sb s).drop (a + 1)) = (ex false ((sb s).drop (a + (k + 1)))).map (· + (k - 1 + 1)) by
            have e2 : a + k + 1 = a + (k + 1) := by omega
            rw [e2, hnil] at hex
            rw [hnil]; exact ex_map hex (ex_escE q92))
          clear hex hc q47 q10 q92 hnil
          go_wp2
          go_round
          case rel => exact ⟨k + 1, by omega, by omega, by go_num, by rw [show k + 1 - 1 = k - 1 + 1 from by omega]; exact HX.out⟩
          case measure => simp [intOf]; omega
      · have u92 : ((s[a + k].toNat : Int) == 92) = false := by simpa using q92
        have HX := Lib.hid (show ex false ((sb s).drop (a + 1)) = (ex false ((sb s).drop (a + (k + 1)))).map (· + (k - 1 + 1)) by exact ex_map hex (ex_step q10 q47 q92))
        clear hex hc q47 q10 q92
        go_wp2
        go_round
        case rel => exact ⟨k + 1, by omega, by omega, by go_num, by rw [show k + 1 - 1 = k - 1 + 1 from by omega]; exact HX.out⟩
        case measure => simp [intOf]; omega
    · have hnil : (sb s).drop (a + k) = [] := List.drop_of_length_le (by rw [sb_len]; omega)
      have HW := Lib.hid (show wd ((sb s).drop a) = none by rw [HW0.out, hex, hnil]; rfl)
      have hd : decide ((a : Int) + (k : Int) < (s.size : Int)) = false := by simp; omega
      have hde : decide ((s.size : Int) ≤ (a : Int) + (k : Int)) = true := by simp; omega
      clear hex hnil
      go_wp2
      refine bodyPost_ret (v := .tuple #[.agg #[.int .i64 0, .string ⟨#[]⟩, .int .i64 0], .int .i64 0]) (by simp [results, Try.results19, go_sem]; try rfl) rfl (ref_no HW.out rfl (by first | exact bel_new (Below.refl _ _) _ | exact (((bel_new (Below.refl _ _) _).setCell (Nat.le_refl _) _).setCell (Nat.le_refl _) _).setCell (Nat.le_refl _) _))

theorem refWord_any (s : ByteArray) (a : Nat) (w : World) (hs : s.size ≤ 100000) (ha : a < s.size) :
    Calls Try.prog 19 #[.string s, .int .i64 a] w (RefPost s a w) := by
  by_cases c32 : (s[a].toNat : Int) = 32
  · exact ref_b32 s a w hs ha c32
  by_cases c9 : (s[a].toNat : Int) = 9
  · exact ref_b9 s a w hs ha c32 c9
  by_cases c13 : (s[a].toNat : Int) = 13
  · exact ref_b13 s a w hs ha c32 c9 c13
  by_cases c10 : (s[a].toNat : Int) = 10
  · exact ref_b10 s a w hs ha c32 c9 c13 c10
  by_cases c35 : (s[a].toNat : Int) = 35
  · exact ref_b35 s a w hs ha c32 c9 c13 c10 c35
  cases hl : isLow (s[a].toNat : Int) with
  | true => exact ref_low s a w hs ha c32 c9 c13 c10 c35 hl
  | false =>
    cases hd : isDig (s[a].toNat : Int) with
    | true => exact ref_dig s a w hs ha c32 c9 c13 c10 c35 hl hd
    | false =>
      by_cases c47 : (s[a].toNat : Int) = 47
      · exact ref_slash s a w hs ha c32 c9 c13 c10 c35 hl hd c47
      · exact ref_rest s a w hs ha c32 c9 c13 c10 c35 hl hd c47

end Go.Proofs.Ytkngppkchaadhaa
