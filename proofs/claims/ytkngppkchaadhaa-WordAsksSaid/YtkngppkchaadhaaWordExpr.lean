/- word: fail, expression. -/
import Derived.Test.YtkngppkchaadhaaWordRun
set_option linter.unusedVariables false
set_option linter.unusedSimpArgs false
namespace Go.Proofs.Ytkngppkchaadhaa
open Go.RowKit De Wd

/-- the panic of an error -/
abbrev flt (code at_ : Int) : Ending := .panicked [{ v := .iface 45 (.agg #[.int .i64 code, .int .i64 at_]), recovered := false }]
abbrev failF (q : Nat) : Value := .func (Fn.func 16) #[] #[.pointer (some ⟨q, 0, none⟩)]
theorem flt_eq {a b : Int} (h : a = b) (c : Int) : flt c a = flt c b := by rw [h]
set_option maxHeartbeats 1000000 in
theorem fail_any (q : Nat) (a b : Int) (w : World) (hq : w.heap[q]? = some (.cells #[.int .i64 b] 3 (0, 0))) :
    Calls Try.prog 16 #[.int .i64 a, .pointer (some ⟨q, 0, none⟩)] w fun e w' => e = flt 2 (min a b) ∧ w = w' := by
  obtain ⟨c1, z1⟩ := cell1_of hq
  clear hq
  go_enter Try.func16, Try.ntmps16
  go_wp2
  exact ⟨rfl, rfl, rfl⟩

def ExprPost (s : ByteArray) (a b : Nat) (w : World) (e : Ending) (w' : World) : Prop :=
  (∃ n, ex false ((sb s).drop (a + 1)) = some n ∧ e = .returned (.string (s.extract (a + 1) (a + 1 + n))) ∧ Below w.heap.size w w') ∨
  (ex false ((sb s).drop (a + 1)) = none ∧ e = flt 2 (min (a : Int) b) ∧ w = w')

set_option maxHeartbeats 2000000 in
set_option maxRecDepth 100000 in
theorem expression_any (s : ByteArray) (a b q : Nat) (w : World) (hs : s.size ≤ 100000) (ha : a < s.size) (hq : w.heap[q]? = some (.cells #[.int .i64 b] 3 (0, 0))) :
    Calls Try.prog 33 #[.string s, .int .i64 a, failF q] w (ExprPost s a b w) := by
  have HQ := Lib.hid hq
  clear hq
  go_enter Try.func33, Try.ntmps33
  go_wp2_with fail
  go_loop [7] (fun n => ∃ i : Nat, a + 1 ≤ i ∧ i ≤ s.size ∧ n = .int .i64 i ∧ ex false ((sb s).drop (a + 1)) = (ex false ((sb s).drop i)).map (· + (i - (a + 1)))) (fun n => s.size - (intOf n).toNat)
  case atStart => exact ⟨a + 1, Nat.le_refl _, by omega, by go_num, by simp⟩
  case round =>
    obtain ⟨i, h1, h2, rfl, he⟩ := hrel
    by_cases hlt : i < s.size
    · rw [sb_drop s i hlt] at he
      by_cases c10 : (s[i].toNat : Int) = 10
      · have t1 : ((s[i].toNat : Int) != 10) = false := by simp [c10]
        have hn : ex false ((sb s).drop (a + 1)) = none := by rw [he, ex, if_pos c10]; rfl
        have HN := Lib.hid hn
        clear he c10 hn
        go_wp2_with fail
        refine (fail_any q a b _ HQ.out).mono ?_
        rintro e w' ⟨rfl, rfl⟩
        go_wp2
        exact ⟨rfl, .inr ⟨HN.out, rfl, rfl⟩⟩
      have t1 : ((s[i].toNat : Int) != 10) = true := by simp only [bne_iff_ne]; exact c10
      by_cases c47 : (s[i].toNat : Int) = 47
      · have t2 : ((s[i].toNat : Int) == 47) = true := by simp [c47]
        have hn : ex false ((sb s).drop (a + 1)) = some (i - (a + 1)) := by rw [he, ex, if_neg c10, if_neg (by decide), if_pos c47]; simp
        have HN := Lib.hid hn
        clear he c10 c47 hn
        go_wp2_with fail
        refine (clone_any _ _ (by simp; omega)).mono ?_
        rintro e w1 ⟨rfl, hb1⟩
        go_wp2
        go_ret
        exact .inl ⟨_, HN.out, by rw [show a + 1 + (i - (a + 1)) = i from by omega]; rfl, hb1⟩
      have t2 : ((s[i].toNat : Int) == 47) = false := by simpa using c47
      by_cases c92 : (s[i].toNat : Int) = 92
      · have t3 : ((s[i].toNat : Int) == 92) = true := by simp [c92]
        by_cases hl2 : i + 1 < s.size
        · by_cases d10 : (s[i + 1].toNat : Int) = 10
          · have t4 : ((s[i + 1].toNat : Int) != 10) = false := by simp [d10]
            have hn : ex false ((sb s).drop (a + 1)) = (ex false ((sb s).drop (i + 1))).map (· + (i + 1 - (a + 1))) := by
              rw [he, ex, if_neg c10, if_neg (by decide), if_neg c47, c92, sb_drop s (i + 1) hl2, ex, if_pos d10, ex, if_pos d10]; rfl
            have HN := Lib.hid hn
            clear he c10 c47 c92 d10 hn
            go_wp2
            go_round
            case rel => exact ⟨i + 1, by omega, by omega, by go_num, HN.out⟩
            case measure => simp [intOf]; omega
          · have t4 : ((s[i + 1].toNat : Int) != 10) = true := by simp only [bne_iff_ne]; exact d10
            have hn : ex false ((sb s).drop (a + 1)) = (ex false ((sb s).drop (i + 2))).map (· + (i + 2 - (a + 1))) := by
              rw [he, ex, if_neg c10, if_neg (by decide), if_neg c47, c92, sb_drop s (i + 1) hl2, ex, if_neg d10]
              simp only [decide_true, if_true, Option.map_map]
              congr 1; funext x; simp only [Function.comp]; omega
            have HN := Lib.hid hn
            clear he c10 c47 c92 d10 hn
            go_wp2
            go_round
            case rel => exact ⟨i + 2, by omega, by omega, by go_num, HN.out⟩
            case measure => simp [intOf]; omega
        · have hn : ex false ((sb s).drop (a + 1)) = (ex false ((sb s).drop (i + 1))).map (· + (i + 1 - (a + 1))) := by
            have hd : (sb s).drop (i + 1) = [] := by rw [List.drop_eq_nil_iff, sb_len]; omega
            rw [he, ex, if_neg c10, if_neg (by decide), if_neg c47, hd]; rfl
          have HN := Lib.hid hn
          clear he c10 c47 c92 hn
          go_wp2
          go_round
          case rel => exact ⟨i + 1, by omega, by omega, by go_num, HN.out⟩
          case measure => simp [intOf]; omega
      · have t3 : ((s[i].toNat : Int) == 92) = false := by simpa using c92
        have hn : ex false ((sb s).drop (a + 1)) = (ex false ((sb s).drop (i + 1))).map (· + (i + 1 - (a + 1))) := by
          rw [he, ex, if_neg c10, if_neg (by decide), if_neg c47, decide_eq_false c92, Option.map_map]
          congr 1; funext x; simp only [Function.comp]; omega
        have HN := Lib.hid hn
        clear he c10 c47 c92 hn
        go_wp2
        go_round
        case rel => exact ⟨i + 1, by omega, by omega, by go_num, HN.out⟩
        case measure => simp [intOf]; omega
    · have hi : (sb s).drop i = [] := by rw [List.drop_eq_nil_iff, sb_len]; omega
      have hn : ex false ((sb s).drop (a + 1)) = none := by rw [he, hi]; rfl
      have HN := Lib.hid hn
      have hd : decide (i < s.size) = false := by simp; omega
      clear he hi hn hlt
      go_wp2_with fail
      refine (fail_any q a b _ HQ.out).mono ?_
      rintro e w' ⟨rfl, rfl⟩
      go_wp2
      exact ⟨rfl, .inr ⟨HN.out, rfl, rfl⟩⟩
end Go.Proofs.Ytkngppkchaadhaa
