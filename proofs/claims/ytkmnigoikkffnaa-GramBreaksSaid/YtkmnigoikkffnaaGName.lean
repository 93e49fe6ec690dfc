/- gram: Name, class. -/
import Derived.Test.YtkmnigoikkffnaaPt
import Derived.Test.YtkmnigoikkffnaaReMay
import Derived.Lib.OthersKept
import Derived.Laws.RangeAny
import Derived.Deep.LoopGhost
set_option linter.unusedVariables false
set_option linter.unusedSimpArgs false
namespace Go.Proofs.Ytkmnigoikkffnaa
open Go.RowKit Ru
/-- may c stand in a name -/
def okc (c : Nat) : Bool := (decide (97 ≤ c) && decide (c ≤ 122)) || (decide (48 ≤ c) && decide (c ≤ 57))
def keyW (s : ByteArray) : Bool := (s.toList == [116, 111, 107]) || (s.toList == [114, 117, 108, 101]) || (s.toList == [105, 110, 116]) || (s.toList == [99, 97, 108, 108]) || (s.toList == [114, 101, 116]) || (s.toList == [102, 114, 101, 101])
/-- may s be a name -/
def namB (s : ByteArray) : Bool := decide (1 ≤ s.size) && (decide (s.size ≤ 12) && (decide (97 ≤ (s.get! 0).toNat) && (decide ((s.get! 0).toNat ≤ 122) && (((List.range s.size).all fun i => okc (s.get! i).toNat) && !keyW s))))
theorem get!_eq {s : ByteArray} {i : Nat} (h : i < s.size) : s.get! i = s[i] := by have := Go.get_at s i h; simpa using this
theorem rng_bad {s : ByteArray} {i : Nat} (h : i < s.size) (hb : okc (s.get! i).toNat = false) : namB s = false := by
  have : ((List.range s.size).all fun i => okc (s.get! i).toNat) = false := by
    rw [List.all_eq_false]
    exact ⟨i, List.mem_range.2 h, by rw [hb]; simp⟩
  unfold namB
  rw [this]
  simp
set_option maxHeartbeats 4000000 in
set_option maxRecDepth 100000 in
theorem gName_any (s : ByteArray) (w : World) (hs : s.size ≤ 1000) :
    Calls Try.prog 14 #[.string s] w fun e w' => e = .returned (.bool (namB s)) ∧ Below w.heap.size w w' := by
  by_cases h1 : s.size < 1
  · have d1 : decide ((s.size : Int) < 1) = true := by simp; omega
    have HX := Lib.hid (show namB s = false by unfold namB; rw [decide_eq_false (by omega)]; rfl)
    clear h1
    go_enter Try.func14, Try.ntmps14
    go_wp2_with fail
    go_ret
    exact ⟨by rw [HX.out]; rfl, Below.refl _ _⟩
  have d1 : decide ((s.size : Int) < 1) = false := by simp; omega
  by_cases h2 : 12 < s.size
  · have d2 : decide ((12 : Int) < (s.size : Int)) = true := by simp; omega
    have HX := Lib.hid (show namB s = false by unfold namB; rw [decide_eq_false (show ¬ s.size ≤ 12 by omega)]; simp)
    clear h1 h2
    go_enter Try.func14, Try.ntmps14
    go_wp2_with fail
    go_ret
    exact ⟨by rw [HX.out]; rfl, Below.refl _ _⟩
  have d2 : decide ((12 : Int) < (s.size : Int)) = false := by simp; omega
  have hl0 : (0 : Int) < (s.size : Int) := by omega
  have hp0 : 0 < s.size := by omega
  obtain ⟨c, hc⟩ : ∃ c, c = (s.get! 0).toNat := ⟨_, rfl⟩
  have hcs : (s[0]'hp0).toNat = c := by rw [hc, get!_eq hp0]
  by_cases h3 : c < 97
  · have d3 : decide ((c : Int) < 97) = true := by simp; omega
    have HX := Lib.hid (show namB s = false by unfold namB; rw [← hc, decide_eq_false (show ¬ 97 ≤ c by omega)]; simp)
    clear h1 h2 h3 hc
    go_enter Try.func14, Try.ntmps14
    go_wp2_with fail
    go_ret
    exact ⟨by rw [HX.out]; rfl, Below.refl _ _⟩
  have d3 : decide ((c : Int) < 97) = false := by simp; omega
  by_cases h4 : 122 < c
  · have d4 : decide ((122 : Int) < (c : Int)) = true := by simp; omega
    have HX := Lib.hid (show namB s = false by unfold namB; rw [← hc, decide_eq_false (show ¬ c ≤ 122 by omega)]; simp)
    clear h1 h2 h3 h4 hc
    go_enter Try.func14, Try.ntmps14
    go_wp2_with fail
    go_ret
    exact ⟨by rw [HX.out]; rfl, Below.refl _ _⟩
  have d4 : decide ((122 : Int) < (c : Int)) = false := by simp; omega
  have HN := Lib.hid (show namB s = (((List.range s.size).all fun i => okc (s.get! i).toNat) && !keyW s) by
    unfold namB; rw [← hc, decide_eq_true (show 1 ≤ s.size by omega), decide_eq_true (show s.size ≤ 12 by omega), decide_eq_true (show 97 ≤ c by omega), decide_eq_true (show c ≤ 122 by omega)]; simp)
  clear h1 h2 h3 h4 hc
  go_enter Try.func14, Try.ntmps14
  go_wp2_with fail
  have HW := Lib.hid (show ∀ pos, Below w.heap.size w (w.iter s pos) from fun pos => bel_new (Below.refl _ _) _)
  go_loopg [25] s.size (fun g u wx => ∃ pos : Nat, s.size ≤ pos + g ∧ wx = w.iter s pos ∧ ∀ i, i < pos → i < s.size → okc (s.get! i).toNat = true)
  case atStart => exact ⟨0, by omega, rfl, fun i h => by omega⟩
  case round =>
    obtain ⟨pos, hg, rfl, hall⟩ := hrel
    have HALL := Lib.hid hall
    clear hall
    by_cases hp : pos < s.size
    · obtain ⟨b, hb⟩ : ∃ b, b = (s.get! pos).toNat := ⟨_, rfl⟩
      have hbs : (s[pos]'hp).toNat = b := by rw [hb, get!_eq hp]
      by_cases hasc : b < 128
      · have hnx : ∀ ty, (Instr.next (.pointer (some ⟨w.heap.size, 0, none⟩)) true ty).run Try.prog (w.iter s pos) = .ok (.tuple #[.bool true, .int .i64 pos, .int .i32 b]) (w.iter s (pos + 1)) := fun ty => by
          rw [run_next_ascii w s pos ty hp (by omega), hbs]
        cases gk with
        | zero => omega
        | succ g =>
          have HOK := Lib.hid (show okc b = true → ∃ pos' : Nat, s.size ≤ pos' + g ∧ w.iter s (pos + 1) = w.iter s pos' ∧ ∀ i, i < pos' → i < s.size → okc (s.get! i).toNat = true from fun h => ⟨pos + 1, by omega, rfl, fun i hi hs => by
            rcases Nat.lt_or_ge i pos with h1 | h1
            · exact HALL.out i h1 hs
            · obtain rfl : i = pos := by omega
              rw [← hb]; exact h⟩)
          have HBAD := Lib.hid (show okc b = false → namB s = false from fun h => rng_bad hp (by rw [← hb]; exact h))
          have hb0 : (0 : Int) ≤ (b : Int) := by omega
          clear hb hbs
          by_cases t1 : b < 97
          · have u1 : decide ((b : Int) < 97) = true := by simp; omega
            by_cases t2 : b < 48
            · have u2 : decide ((b : Int) < 48) = true := by simp; omega
              have HX := Lib.hid (HBAD.out (by unfold okc; rw [decide_eq_false (show ¬ 97 ≤ b by omega), decide_eq_false (show ¬ 48 ≤ b by omega)]; rfl))
              clear t1 t2
              go_wp2_with fail
              go_ret
              exact ⟨by rw [HX.out]; rfl, HW.out _⟩
            have u2 : decide ((b : Int) < 48) = false := by simp; omega
            by_cases t3 : 57 < b
            · have u3 : decide ((57 : Int) < (b : Int)) = true := by simp; omega
              have HX := Lib.hid (HBAD.out (by unfold okc; rw [decide_eq_false (show ¬ 97 ≤ b by omega), decide_eq_false (show ¬ b ≤ 57 by omega)]; simp))
              clear t1 t2 t3
              go_wp2_with fail
              go_ret
              exact ⟨by rw [HX.out]; rfl, HW.out _⟩
            have u3 : decide ((57 : Int) < (b : Int)) = false := by simp; omega
            have HX := Lib.hid (HOK.out (by unfold okc; rw [decide_eq_true (show 48 ≤ b by omega), decide_eq_true (show b ≤ 57 by omega)]; simp))
            clear t1 t2 t3
            go_wp2
            go_roundg g
            case measure => omega
            case rel => exact HX.out
          have u1 : decide ((b : Int) < 97) = false := by simp; omega
          by_cases t2 : 122 < b
          · have u2 : decide ((122 : Int) < (b : Int)) = true := by simp; omega
            have u3 : decide ((b : Int) < 48) = false := by simp; omega
            have u4 : decide ((57 : Int) < (b : Int)) = true := by simp; omega
            have HX := Lib.hid (HBAD.out (by unfold okc; rw [decide_eq_false (show ¬ b ≤ 122 by omega), decide_eq_false (show ¬ b ≤ 57 by omega)]; simp))
            clear t1 t2
            go_wp2_with fail
            go_ret
            exact ⟨by rw [HX.out]; rfl, HW.out _⟩
          have u2 : decide ((122 : Int) < (b : Int)) = false := by simp; omega
          have HX := Lib.hid (HOK.out (by unfold okc; rw [decide_eq_true (show 97 ≤ b by omega), decide_eq_true (show b ≤ 122 by omega)]; simp))
          clear t1 t2
          go_wp2
          go_roundg g
          case measure => omega
          case rel => exact HX.out
      · have hd := decode_high s pos hp (by omega)
        obtain ⟨r, hr⟩ : ∃ r, r = (Utf8.decode s pos).1 := ⟨_, rfl⟩
        obtain ⟨wd, hwd⟩ : ∃ r, r = (Utf8.decode s pos).2 := ⟨_, rfl⟩
        have hnx : ∀ ty, (Instr.next (.pointer (some ⟨w.heap.size, 0, none⟩)) true ty).run Try.prog (w.iter s pos) = .ok (.tuple #[.bool true, .int .i64 pos, .int .i32 r]) (w.iter s (pos + wd)) := fun ty => by
          rw [run_next_any w s pos ty hp, hr, hwd]
        rw [← hr, ← hwd] at hd
        have HX := Lib.hid (show namB s = false from rng_bad hp (by rw [← hb]; unfold okc; rw [decide_eq_false (show ¬ b ≤ 122 by omega), decide_eq_false (show ¬ b ≤ 57 by omega)]; simp))
        have u1 : decide ((r : Int) < 97) = false := by simp; omega
        have u2 : decide ((122 : Int) < (r : Int)) = true := by simp; omega
        have u3 : decide ((r : Int) < 48) = false := by simp; omega
        have u4 : decide ((57 : Int) < (r : Int)) = true := by simp; omega
        clear hr hwd hd hb hbs hasc
        go_wp2_with fail
        go_ret
        exact ⟨by rw [HX.out]; rfl, HW.out _⟩
    · have hnx : ∀ ty, (Instr.next (.pointer (some ⟨w.heap.size, 0, none⟩)) true ty).run Try.prog (w.iter s pos) = .ok (.tuple #[.bool false]) (w.iter s pos) := fun ty => run_next_end w s pos ty hp
      have HX := Lib.hid (show namB s = !keyW s by
        rw [HN.out, show ((List.range s.size).all fun i => okc (s.get! i).toNat) = true from List.all_eq_true.2 (fun i hi => HALL.out i (by have := List.mem_range.1 hi; omega) (List.mem_range.1 hi))]; simp)
      have HK := Lib.hid (show keyW s = ((s.toList == [116, 111, 107]) || (s.toList == [114, 117, 108, 101]) || (s.toList == [105, 110, 116]) || (s.toList == [99, 97, 108, 108]) || (s.toList == [114, 101, 116]) || (s.toList == [102, 114, 101, 101])) from rfl)
      cases q0 : (s.toList == [116, 111, 107]) with
      | true =>
        have HY := Lib.hid (show namB s = false by rw [HX.out, HK.out, q0]; simp)
        go_wp2_with fail
        go_ret
        exact ⟨by rw [HY.out]; rfl, HW.out _⟩
      | false =>
      cases q1 : (s.toList == [114, 117, 108, 101]) with
      | true =>
        have HY := Lib.hid (show namB s = false by rw [HX.out, HK.out, q1]; simp)
        go_wp2_with fail
        go_ret
        exact ⟨by rw [HY.out]; rfl, HW.out _⟩
      | false =>
      cases q2 : (s.toList == [105, 110, 116]) with
      | true =>
        have HY := Lib.hid (show namB s = false by rw [HX.out, HK.out, q2]; simp)
        go_wp2_with fail
        go_ret
        exact ⟨by rw [HY.out]; rfl, HW.out _⟩
      | false =>
      cases q3 : (s.toList == [99, 97, 108, 108]) with
      | true =>
        have HY := Lib.hid (show namB s = false by rw [HX.out, HK.out, q3]; simp)
        go_wp2_with fail
        go_ret
        exact ⟨by rw [HY.out]; rfl, HW.out _⟩
      | false =>
      cases q4 : (s.toList == [114, 101, 116]) with
      | true =>
        have HY := Lib.hid (show namB s = false by rw [HX.out, HK.out, q4]; simp)
        go_wp2_with fail
        go_ret
        exact ⟨by rw [HY.out]; rfl, HW.out _⟩
      | false =>
      cases q5 : (s.toList == [102, 114, 101, 101]) with
      | true =>
        have HY := Lib.hid (show namB s = false by rw [HX.out, HK.out, q5]; simp)
        go_wp2_with fail
        go_ret
        exact ⟨by rw [HY.out]; rfl, HW.out _⟩
      | false =>
      have HY := Lib.hid (show namB s = true by rw [HX.out, HK.out, q0, q1, q2, q3, q4, q5]; rfl)
      go_wp2_with fail
      go_ret
      exact ⟨by rw [HY.out]; rfl, HW.out _⟩
/-- gram.class -/
theorem gClass_any (n : Int) (w : World) :
    Calls Try.prog 55 #[.int .i64 n] w fun e w' => e = .returned (.bool (decide (0 ≤ n ∧ n ≤ 31))) ∧ w' = w := by
  by_cases h0 : 0 ≤ n
  · have d0 : decide ((0 : Int) ≤ n) = true := by simpa using h0
    by_cases h1 : n ≤ 31
    · have d1 : decide (n ≤ (31 : Int)) = true := by simpa using h1
      have HX := Lib.hid (show decide (0 ≤ n ∧ n ≤ 31) = true by simp [h0, h1])
      clear h0 h1
      go_enter Try.func55, Try.ntmps55
      go_wp2_with fail
      go_ret
      exact ⟨by rw [HX.out]; rfl, rfl⟩
    · have d1 : decide (n ≤ (31 : Int)) = false := by simpa using h1
      have HX := Lib.hid (show decide (0 ≤ n ∧ n ≤ 31) = false by simp; omega)
      clear h0 h1
      go_enter Try.func55, Try.ntmps55
      go_wp2_with fail
      go_ret
      exact ⟨by rw [HX.out]; rfl, rfl⟩
  · have d0 : decide ((0 : Int) ≤ n) = false := by simpa using h0
    have HX := Lib.hid (show decide (0 ≤ n ∧ n ≤ 31) = false by simp; omega)
    clear h0
    go_enter Try.func55, Try.ntmps55
    go_wp2_with fail
    go_ret
    exact ⟨by rw [HX.out]; rfl, rfl⟩
end Go.Proofs.Ytkmnigoikkffnaa
