/- The document's grammars: goboref11.Find, Name. -/
import Derived.Test.YtbanmggkfpnalaaGreatDoorGSame
import Derived.Deep.DeepCutAuto
import Derived.Deep.CutBlock
import Derived.Deep.RegionHeld3
set_option linter.unusedVariables false
set_option linter.unusedSimpArgs false
namespace Go.Proofs.YtbanmggkfpnalaaGreatDoor
open Go.RowKit Ru

set_option maxHeartbeats 4000000 in
set_option maxRecDepth 100000 in
theorem refFind_any (l : List TK) (tv rv : Value) (s : ByteArray) (w : World) (h : TksAre w tv l) (hl : l.length ≤ 1000) (hrv : ∃ o n c, rv = .slice o n c) :
    Calls Tryz.prog 80 #[.agg #[tv, rv], .string s] w fun x w' => x = .returned (.int .i64 (findB l s)) ∧ Below w.heap.size w w' := by
  obtain ⟨o, cap, nm, kd, cl, rk, so, sn, sc, lo, ln, lc, rfl, hall⟩ := h.all
  obtain ⟨o9, n9, c9, rfl⟩ := hrv
  have HALL := Lib.hid hall
  obtain ⟨n, hn⟩ : ∃ n, n = l.length := ⟨_, rfl⟩
  rw [← hn]
  have HN := Lib.hid hn
  have hn9 : n ≤ 1000 := by omega
  clear hall h hn hl
  go_enter Tryz.func80, Tryz.ntmps80
  go_wp2_with fail
  obtain ⟨wB, hwB⟩ : ∃ wB, wB = w.alloc (.cells #[.slice o n cap, .slice o9 n9 c9] 35) := ⟨_, rfl⟩
  rw [← hwB]
  have HWB := Lib.hid (show Below w.heap.size w wB ∧ wB.cell? ⟨w.heap.size, 0, none⟩ = some (.slice o n cap) by rw [hwB]; exact ⟨bel_new (Below.refl _ _) _, by simp [go_sem]⟩)
  clear hwB
  go_loopg [5] n (fun g s5 wx => ∃ k : Nat, k + g = n ∧ s5 = .int .i64 (k : Int) ∧ wx = wB ∧ ∀ j u, j < k → l[j]? = some u → u.name ≠ s)
  case atStart => exact ⟨0, by omega, rfl, rfl, fun j u hj => by omega⟩
  case round =>
    obtain ⟨k, hkg, rfl, hwx, hno⟩ := hrel
    subst hwx
    have HNO := Lib.hid hno
    have e0 := HWB.out.2
    clear hno
    cases gk with
    | zero =>
      obtain rfl : k = n := by omega
      have hd : decide ((k : Int) < (k : Int)) = false := by simp
      have hd2 : decide (k < k) = false := by simp
      go_wp2_with fail
      go_ret
      exact ⟨by rw [findB_miss (l := l) (s := s) (fun j u hu => HNO.out j u (by have := (List.getElem?_eq_some_iff.1 hu).1; have := HN.out; omega) hu)]; rfl, HWB.out.1⟩
    | succ g =>
      have hk : k < n := by omega
      have hd : decide ((k : Int) < (n : Int)) = true := by simp; omega
      have hd2 : decide (k < n) = true := by simpa using hk
      have hk1 : (0 : Int) ≤ (k : Int) := by omega
      have hk2 : (k : Int) < (n : Int) := by omega
      obtain ⟨t, ht⟩ : ∃ t, l[k]? = some t := ⟨_, List.getElem?_eq_getElem (by have := HN.out; omega)⟩
      obtain ⟨x0, -, -, -, -, b, off, rfl, hbl, u0, -⟩ := HALL.out k t ht
      rw [x0] at u0
      rw [← HWB.out.1.cell hbl] at u0
      have HT := Lib.hid ht
      obtain ⟨tn, htn⟩ : ∃ x, x = t.name := ⟨_, rfl⟩
      rw [← htn] at u0
      have HTN := Lib.hid htn
      clear ht htn x0 hbl
      by_cases hts : tn = s
      · have heq : (tn.toList == s.toList) = true := by subst hts; simp
        have HS := Lib.hid hts
        clear hts
        go_wp2_with fail
        go_ret
        exact ⟨by rw [findB_hit HT.out (by rw [← HTN.out]; exact HS.out) (fun j u hj hu => HNO.out j u hj hu)]; rfl, HWB.out.1⟩
      · have heq : (tn.toList == s.toList) = false := bytes_ne hts
        have HS := Lib.hid hts
        clear hts
        go_wp2_with fail
        go_roundg g
        case measure => omega
        case rel =>
          refine ⟨k + 1, by omega, by simp, rfl, fun j u hj hu => ?_⟩
          rcases Nat.lt_or_ge j k with h | h
          · exact HNO.out j u h hu
          · obtain rfl : j = k := by omega
            rw [HT.out] at hu; cases hu; rw [← HTN.out]; exact HS.out
def smB (c : Nat) : Bool := decide (97 ≤ c) && decide (c ≤ 122)
def dgB (c : Nat) : Bool := decide (48 ≤ c) && decide (c ≤ 57)
set_option maxHeartbeats 4000000 in
set_option maxRecDepth 100000 in
theorem refSmall_any (c : Nat) (w : World) : Calls Tryz.prog 56 #[.int .u8 (c : Int)] w fun x w' => x = .returned (.bool (smB c)) ∧ w' = w := by
  by_cases h : 97 ≤ c
  · have h1 : decide ((97 : Int) ≤ (c : Int)) = true := by simp; omega
    have h1b : decide (97 ≤ c) = true := by simpa using h
    by_cases h2 : c ≤ 122
    · have h3 : decide ((c : Int) ≤ 122) = true := by simp; omega
      have h3b : decide (c ≤ 122) = true := by simpa using h2
      have HX := Lib.hid (show smB c = true by unfold smB; rw [h1b, h3b]; rfl)
      go_enter Tryz.func56, Tryz.ntmps56
      go_wp2_with fail
      go_ret
      exact ⟨by rw [HX.out]; rfl, rfl⟩
    · have h3 : decide ((c : Int) ≤ 122) = false := by simp; omega
      have h3b : decide (c ≤ 122) = false := by simpa using h2
      have HX := Lib.hid (show smB c = false by unfold smB; rw [h1b, h3b]; rfl)
      go_enter Tryz.func56, Tryz.ntmps56
      go_wp2_with fail
      go_ret
      exact ⟨by rw [HX.out]; rfl, rfl⟩
  · have h1 : decide ((97 : Int) ≤ (c : Int)) = false := by simp; omega
    have h1b : decide (97 ≤ c) = false := by simpa using h
    have HX := Lib.hid (show smB c = false by unfold smB; rw [h1b]; rfl)
    go_enter Tryz.func56, Tryz.ntmps56
    go_wp2_with fail
    go_ret
    exact ⟨by rw [HX.out]; rfl, rfl⟩
set_option maxHeartbeats 4000000 in
set_option maxRecDepth 100000 in
theorem refDigit_any (c : Nat) (w : World) : Calls Tryz.prog 57 #[.int .u8 (c : Int)] w fun x w' => x = .returned (.bool (dgB c)) ∧ w' = w := by
  by_cases h : 48 ≤ c
  · have h1 : decide ((48 : Int) ≤ (c : Int)) = true := by simp; omega
    have h1b : decide (48 ≤ c) = true := by simpa using h
    by_cases h2 : c ≤ 57
    · have h3 : decide ((c : Int) ≤ 57) = true := by simp; omega
      have h3b : decide (c ≤ 57) = true := by simpa using h2
      have HX := Lib.hid (show dgB c = true by unfold dgB; rw [h1b, h3b]; rfl)
      go_enter Tryz.func57, Tryz.ntmps57
      go_wp2_with fail
      go_ret
      exact ⟨by rw [HX.out]; rfl, rfl⟩
    · have h3 : decide ((c : Int) ≤ 57) = false := by simp; omega
      have h3b : decide (c ≤ 57) = false := by simpa using h2
      have HX := Lib.hid (show dgB c = false by unfold dgB; rw [h1b, h3b]; rfl)
      go_enter Tryz.func57, Tryz.ntmps57
      go_wp2_with fail
      go_ret
      exact ⟨by rw [HX.out]; rfl, rfl⟩
  · have h1 : decide ((48 : Int) ≤ (c : Int)) = false := by simp; omega
    have h1b : decide (48 ≤ c) = false := by simpa using h
    have HX := Lib.hid (show dgB c = false by unfold dgB; rw [h1b]; rfl)
    go_enter Tryz.func57, Tryz.ntmps57
    go_wp2_with fail
    go_ret
    exact ⟨by rw [HX.out]; rfl, rfl⟩
theorem okc_eq (c : Nat) : okc c = (smB c || dgB c) := rfl
set_option maxHeartbeats 8000000 in
set_option maxRecDepth 100000 in
theorem refName_any (s : ByteArray) (w : World) (hs : s.size ≤ 1000) :
    Calls Tryz.prog 79 #[.string s] w fun e w' => e = .returned (.bool (namB s)) ∧ w' = w := by
  by_cases h1 : s.size < 1
  · have d1 : decide ((s.size : Int) < 1) = true := by simp; omega
    have HX := Lib.hid (show namB s = false by unfold namB; rw [decide_eq_false (by omega)]; rfl)
    clear h1
    go_enter Tryz.func79, Tryz.ntmps79
    go_wp2_with fail
    go_ret
    exact ⟨by rw [HX.out]; rfl, rfl⟩
  have d1 : decide ((s.size : Int) < 1) = false := by simp; omega
  by_cases h2 : 12 < s.size
  · have d2 : decide ((12 : Int) < (s.size : Int)) = true := by simp; omega
    have HX := Lib.hid (show namB s = false by unfold namB; rw [decide_eq_false (show ¬ s.size ≤ 12 by omega)]; simp)
    clear h1 h2
    go_enter Tryz.func79, Tryz.ntmps79
    go_wp2_with fail
    go_ret
    exact ⟨by rw [HX.out]; rfl, rfl⟩
  have d2 : decide ((12 : Int) < (s.size : Int)) = false := by simp; omega
  have hl0 : (0 : Int) < (s.size : Int) := by omega
  have hp0 : 0 < s.size := by omega
  obtain ⟨c, hc⟩ : ∃ c, c = (s.get! 0).toNat := ⟨_, rfl⟩
  have hcs : (s[0]'hp0).toNat = c := by rw [hc, get!_eq hp0]
  cases hsm : smB c with
  | false =>
    have HX := Lib.hid (show namB s = false by
      unfold namB smB at *
      rw [← hc]
      cases e1 : decide (97 ≤ c) with
      | false => simp
      | true =>
        rw [e1] at hsm
        have e2 : decide (c ≤ 122) = false := by simpa using hsm
        rw [e2]; simp)
    have HC := Lib.hid (fun w' => refSmall_any c w')
    rw [hsm] at HC
    clear h1 h2 hc hsm
    go_enter Tryz.func79, Tryz.ntmps79
    go_wp2_with fail
    refine (HC.out _).mono ?_
    rintro e w3 ⟨rfl, rfl⟩
    go_wp2_with fail
    go_ret
    exact ⟨by rw [HX.out]; rfl, rfl⟩
  | true =>
    have HN := Lib.hid (show namB s = (((List.range s.size).all fun i => okc (s.get! i).toNat) && !keyW s) by
      unfold smB at hsm
      have e9 : 97 ≤ c ∧ c ≤ 122 := by simpa using hsm
      unfold namB; rw [← hc, decide_eq_true (show 1 ≤ s.size by omega), decide_eq_true (show s.size ≤ 12 by omega), decide_eq_true e9.1, decide_eq_true e9.2]; simp)
    have HC := Lib.hid (fun w' => refSmall_any c w')
    rw [hsm] at HC
    obtain ⟨n, hn⟩ : ∃ n, n = s.size := ⟨_, rfl⟩
    have HNN := Lib.hid hn
    have hn9 : n ≤ 12 := by omega
    clear h1 h2 hc hsm hn
    go_enter Tryz.func79, Tryz.ntmps79
    go_wp2_with fail
    refine (HC.out _).mono ?_
    rintro e w3 ⟨rfl, hw3⟩
    obtain rfl : w = w3 := hw3.symm
    go_wp2_with fail
    clear hcs
    go_loopg [3] n (fun g s3 wx => ∃ k : Nat, k + g = n ∧ s3 = .int .i64 (k : Int) ∧ wx = w ∧ ∀ i, i < k → i < s.size → okc (s.get! i).toNat = true)
    case atStart => exact ⟨0, by omega, rfl, rfl, fun i h => by omega⟩
    case round =>
      obtain ⟨k, hkg, rfl, hwx, hall⟩ := hrel
      obtain rfl : w = wr := hwx.symm
      have HALL := Lib.hid hall
      clear hall
      cases gk with
      | zero =>
        obtain rfl : k = n := by omega
        have e0 := HNN.out
        have e1 : decide ((k : Int) < (s.size : Int)) = false := by simp; omega
        have e2 : decide (k < s.size) = false := by simp; omega
        have HX := Lib.hid (show namB s = !keyW s by
          rw [HN.out, show ((List.range s.size).all fun i => okc (s.get! i).toNat) = true from List.all_eq_true.2 (fun i hi => HALL.out i (by have := List.mem_range.1 hi; omega) (List.mem_range.1 hi))]; simp)
        have HK := Lib.hid (show keyW s = ((s.toList == [116, 111, 107]) || (s.toList == [114, 117, 108, 101]) || (s.toList == [105, 110, 116]) || (s.toList == [99, 97, 108, 108]) || (s.toList == [114, 101, 116]) || (s.toList == [102, 114, 101, 101])) from rfl)
        clear e0
        cases q0 : (s.toList == [116, 111, 107]) with
        | true =>
          have HY := Lib.hid (show namB s = false by rw [HX.out, HK.out, q0]; simp)
          go_wp2_with fail
          go_ret
          exact ⟨by rw [HY.out]; rfl, rfl⟩
        | false =>
        cases q1 : (s.toList == [114, 117, 108, 101]) with
        | true =>
          have HY := Lib.hid (show namB s = false by rw [HX.out, HK.out, q1]; simp)
          go_wp2_with fail
          go_ret
          exact ⟨by rw [HY.out]; rfl, rfl⟩
        | false =>
        cases q2 : (s.toList == [105, 110, 116]) with
        | true =>
          have HY := Lib.hid (show namB s = false by rw [HX.out, HK.out, q2]; simp)
          go_wp2_with fail
          go_ret
          exact ⟨by rw [HY.out]; rfl, rfl⟩
        | false =>
        cases q3 : (s.toList == [99, 97, 108, 108]) with
        | true =>
          have HY := Lib.hid (show namB s = false by rw [HX.out, HK.out, q3]; simp)
          go_wp2_with fail
          go_ret
          exact ⟨by rw [HY.out]; rfl, rfl⟩
        | false =>
        cases q4 : (s.toList == [114, 101, 116]) with
        | true =>
          have HY := Lib.hid (show namB s = false by rw [HX.out, HK.out, q4]; simp)
          go_wp2_with fail
          go_ret
          exact ⟨by rw [HY.out]; rfl, rfl⟩
        | false =>
        cases q5 : (s.toList == [102, 114, 101, 101]) with
        | true =>
          have HY := Lib.hid (show namB s = false by rw [HX.out, HK.out, q5]; simp)
          go_wp2_with fail
          go_ret
          exact ⟨by rw [HY.out]; rfl, rfl⟩
        | false =>
        have HY := Lib.hid (show namB s = true by rw [HX.out, HK.out, q0, q1, q2, q3, q4, q5]; rfl)
        go_wp2_with fail
        go_ret
        exact ⟨by rw [HY.out]; rfl, rfl⟩
      | succ g =>
        have hk : k < s.size := by have := HNN.out; omega
        have e1 : decide ((k : Int) < (s.size : Int)) = true := by simp; omega
        have e2 : decide (k < s.size) = true := by simpa using hk
        have hk1 : (0 : Int) ≤ (k : Int) := by omega
        have hk2 : (k : Int) < (s.size : Int) := by omega
        obtain ⟨d, hd⟩ : ∃ d, d = (s.get! k).toNat := ⟨_, rfl⟩
        have hds : (s[k]'hk).toNat = d := by rw [hd, get!_eq hk]
        have HS := Lib.hid (fun w' => refSmall_any d w')
        have HD := Lib.hid (fun w' => refDigit_any d w')
        have HOK := Lib.hid (show okc d = true → ∀ i, i < k + 1 → i < s.size → okc (s.get! i).toNat = true from fun h i hi hs => by
          rcases Nat.lt_or_ge i k with h1 | h1
          · exact HALL.out i h1 hs
          · obtain rfl : i = k := by omega
            rw [← hd]; exact h)
        have HBAD := Lib.hid (show okc d = false → namB s = false from fun h => rng_bad hk (by rw [← hd]; exact h))
        cases hsm : smB d with
        | true =>
          rw [hsm] at HS
          have HO := Lib.hid (HOK.out (by rw [okc_eq, hsm]; rfl))
          clear hd hsm
          go_wp2_with fail
          refine (HS.out _).mono ?_
          rintro e w3 ⟨rfl, hw3⟩
          obtain rfl : w = w3 := hw3.symm
          go_wp2_with fail
          go_roundg g
          case measure => omega
          case rel => exact ⟨k + 1, by omega, by simp, rfl, HO.out⟩
        | false =>
          rw [hsm] at HS
          cases hdg : dgB d with
          | true =>
            rw [hdg] at HD
            have HO := Lib.hid (HOK.out (by rw [okc_eq, hsm, hdg]; rfl))
            clear hd hsm hdg
            go_wp2_with fail
            refine (HS.out _).mono ?_
            rintro e w3 ⟨rfl, hw3⟩
            obtain rfl : w = w3 := hw3.symm
            go_wp2_with fail
            refine (HD.out _).mono ?_
            rintro e w3 ⟨rfl, hw3⟩
            obtain rfl : w = w3 := hw3.symm
            go_wp2_with fail
            go_roundg g
            case measure => omega
            case rel => exact ⟨k + 1, by omega, by simp, rfl, HO.out⟩
          | false =>
            rw [hdg] at HD
            have HX := Lib.hid (HBAD.out (by rw [okc_eq, hsm, hdg]; rfl))
            clear hd hsm hdg
            go_wp2_with fail
            refine (HS.out _).mono ?_
            rintro e w3 ⟨rfl, hw3⟩
            obtain rfl : w = w3 := hw3.symm
            go_wp2_with fail
            refine (HD.out _).mono ?_
            rintro e w3 ⟨rfl, hw3⟩
            obtain rfl : w = w3 := hw3.symm
            go_wp2_with fail
            go_ret
            exact ⟨by rw [HX.out]; rfl, rfl⟩
/-- the code of the first error, 0 where there is none -/
def codeOf : Option Int → Int | some c => c | none => 0
theorem drop_at {α : Type} {l : List α} {k : Nat} {x : α} (h : l[k]? = some x) : l.drop k = x :: l.drop (k + 1) := by
  obtain ⟨hk, rfl⟩ := List.getElem?_eq_some_iff.1 h
  exact List.drop_eq_getElem_cons hk
theorem take_at {α : Type} {l : List α} {k : Nat} {x : α} (h : l[k]? = some x) : l.take (k + 1) = l.take k ++ [x] := by rw [List.take_add_one, h]; rfl
theorem mem_take_of {l : List ByteArray} {k : Nat} {x : ByteArray} (h : ∀ i y, i < k → l[i]? = some y → y ≠ x) : memS (l.take k) x = false := by
  cases hm : memS (l.take k) x with
  | false => rfl
  | true =>
    obtain ⟨i, hi, e⟩ := List.getElem_of_mem ((memS_iff _ _).1 hm)
    have h1 : (l.take k)[i]? = some x := by rw [List.getElem?_eq_getElem hi, e]
    rw [List.length_take] at hi
    rw [List.getElem?_take_of_lt (by omega)] at h1
    exact absurd rfl (h i x (by omega) h1)
theorem mem_take_hit {l : List ByteArray} {k i : Nat} {x : ByteArray} (hi : i < k) (h : l[i]? = some x) : memS (l.take k) x = true := by
  rw [memS_iff]
  refine List.mem_of_getElem? (i := i) ?_
  rw [List.getElem?_take_of_lt hi]; exact h
set_option maxHeartbeats 8000000 in
set_option maxRecDepth 100000 in
theorem refNames_any (T : List TK) (tv rv lv : Value) (l : List ByteArray) (kind : Int) (w : World) (hT : TksAre w tv T) (hTl : T.length ≤ 1000) (hrv : ∃ o n c, rv = .slice o n c) (hl : Row w lv l.length (strs l)) (hll : l.length ≤ 1000) :
    Calls Tryz.prog 109 #[.agg #[tv, rv], lv, .int .i64 kind] w fun x w' => x = .returned (.int .i64 (codeOf (namesE T kind [] l))) ∧ Below w.heap.size w w' := by
  obtain ⟨o, cap, nm, kd, cl, rk, so, sn, sc, lo, ln, lc, rfl, hall⟩ := hT.all
  obtain ⟨o9, n9, c9, rfl⟩ := hrv
  have hfind := fun (s : ByteArray) (w' : World) (hb : Below w.heap.size w w') => refFind_any T _ (.slice o9 n9 c9) s w' (hT.moved hb) hTl ⟨_, _, _, rfl⟩
  have HF := Lib.hid hfind
  have HALL := Lib.hid hall
  have HROW := Lib.hid hl
  obtain ⟨oL, cL, rfl, -⟩ := hl
  obtain ⟨n, hn⟩ : ∃ n, n = l.length := ⟨_, rfl⟩
  obtain ⟨tn, htn⟩ : ∃ tn, tn = T.length := ⟨_, rfl⟩
  rw [← htn] at HF
  rw [← hn, ← htn]
  have HN := Lib.hid (And.intro hn htn)
  have hn9 : n ≤ 1000 := by omega
  have ht9 : tn ≤ 1000 := by omega
  clear hfind hall hT hn htn hTl hll
  go_enter Tryz.func109, Tryz.ntmps109
  go_wp2_with fail
  obtain ⟨wB, hwB⟩ : ∃ wB, wB = w.alloc (.cells #[.slice o tn cap, .slice o9 n9 c9] 35) := ⟨_, rfl⟩
  rw [← hwB]
  have HWB := Lib.hid (show Below w.heap.size w wB ∧ wB.cell? ⟨w.heap.size, 0, none⟩ = some (.slice o tn cap) ∧ wB.cell? ⟨w.heap.size, 1, none⟩ = some (.slice o9 n9 c9) by rw [hwB]; exact ⟨bel_new (Below.refl _ _) _, by simp [go_sem], by simp [go_sem]⟩)
  clear hwB
  go_loopg [7] n (fun g s7 wx => ∃ k : Nat, k + g = n ∧ s7 = .int .i64 (k : Int) ∧ Below w.heap.size w wx ∧ wx.cell? ⟨w.heap.size, 0, none⟩ = some (.slice o tn cap) ∧ wx.cell? ⟨w.heap.size, 1, none⟩ = some (.slice o9 n9 c9) ∧ namesE T kind [] l = namesE T kind (l.take k) (l.drop k))
  case atStart => exact ⟨0, by omega, rfl, HWB.out.1, HWB.out.2.1, HWB.out.2.2, by rw [List.take_zero, List.drop_zero]⟩
  case round =>
    obtain ⟨k, hkg, rfl, hbel, e0, e1, hE⟩ := hrel
    have HBE := Lib.hid hbel
    have HE := Lib.hid hE
    clear hE hbel
    cases gk with
    | zero =>
      obtain rfl : k = n := by omega
      have d1 : decide ((k : Int) < (k : Int)) = false := by simp
      have d2 : decide (k < k) = false := by simp
      have HX := Lib.hid (show codeOf (namesE T kind [] l) = 0 by
        rw [HE.out, List.drop_of_length_le (by have := HN.out.1; omega), namesE_nil]; rfl)
      go_wp2_with fail
      go_ret
      exact ⟨by rw [HX.out]; rfl, HBE.out⟩
    | succ g =>
      have hk : k < n := by omega
      have d1 : decide ((k : Int) < (n : Int)) = true := by simp; omega
      have d2 : decide (k < n) = true := by simpa using hk
      have hk1 : (0 : Int) ≤ (k : Int) := by omega
      have hk2 : (k : Int) < (n : Int) := by omega
      obtain ⟨x, hx⟩ : ∃ x, l[k]? = some x := ⟨_, List.getElem?_eq_getElem (by have := HN.out.1; omega)⟩
      obtain ⟨bL, fL, cL', E, hlL, hcL⟩ := HROW.out.cells' (by have := HN.out.1; omega)
      simp only [Value.slice.injEq, true_and] at E
      obtain ⟨rfl, rfl⟩ := E
      have u0 := hcL k _ (strs_get hx)
      rw [← HBE.out.cell hlL] at u0
      have HX := Lib.hid (And.intro hx (And.intro hlL hcL))
      have HE2 := Lib.hid (show namesE T kind [] l = if findB T x < 0 ∨ memS (l.take k) x = true then some 4 else if (T[(findB T x).toNat]?.map (·.kind)) ≠ some kind then some 5 else namesE T kind (l.take (k + 1)) (l.drop (k + 1)) by
        rw [HE.out, drop_at hx, namesE_cons, take_at hx])
      obtain ⟨fi, hfi⟩ : ∃ fi, fi = findB T x := ⟨_, rfl⟩
      have HC := Lib.hid (HF.out x)
      rw [← hfi] at HC
      have HFI := Lib.hid hfi
      clear hx hlL hcL hfi
      go_upto_region 4 with (fail)
      go_cut [8] from 10 to 45 (fun s8 wx => s8 = .int .i64 fi ∧ Below wr.heap.size wr wx)
      case first =>
        go_region_held3 (fun w' => w'.cell? ⟨w.heap.size, 0, none⟩ = some (.slice o tn cap) ∧ w'.cell? ⟨w.heap.size, 1, none⟩ = some (.slice o9 n9 c9) ∧ w'.cell? ⟨bL, fL + k, none⟩ = some (.string x))
          (first | trivial | exact ⟨cell_later (by first | assumption | exact (Below.refl _ _).drew) e0, cell_later (by first | assumption | exact (Below.refl _ _).drew) e1, cell_later (by first | assumption | exact (Below.refl _ _).drew) u0⟩)
          (first
            | (go_simp; go_at_call 80; refine (HC.out _ (HBE.out.drew)).mono ?_; rintro e w3 ⟨rfl, hb3⟩; have hB3 : Below wr.heap.size wr w3 := Below.trans (Below.refl _ _).drew hb3; clear hb3))
        all_goals (go_wp2_with fail)
        all_goals go_meet
        all_goals (exact ⟨rfl, hB3⟩)
      case rest =>
        obtain ⟨rfl, hbc⟩ := hcut
        have f0 := cell_later hbc e0
        have f1 := cell_later hbc e1
        have HB2 := Lib.hid (bel_then HBE.out hbc)
        clear hbc e0 e1 u0
        go_wp2_with fail
        go_loopg [9] k (fun g2 s9 wx => ∃ j : Nat, j + g2 = k ∧ s9 = .int .i64 (j : Int) ∧ Below w.heap.size w wx ∧ wx.cell? ⟨w.heap.size, 0, none⟩ = some (.slice o tn cap) ∧ wx.cell? ⟨w.heap.size, 1, none⟩ = some (.slice o9 n9 c9) ∧ ∀ i y, i < j → l[i]? = some y → y ≠ x)
        case atStart => exact ⟨0, by omega, rfl, HB2.out, f0, f1, fun i y h => by omega⟩
        case round =>
          obtain ⟨j, hjg, rfl, hbj, e0, e1, hno⟩ := hrel
          have HBJ := Lib.hid hbj
          have HNO := Lib.hid hno
          clear hbj hno f0 f1
          cases gk with
          | zero =>
            obtain rfl : j = k := by omega
            have g1 : decide ((j : Int) < (j : Int)) = false := by simp
            have g2 : decide (j < j) = false := by simp
            have HM := Lib.hid (mem_take_of HNO.out)
            by_cases hfn : fi < 0
            · have g3 : decide (fi < 0) = true := by simpa using hfn
              have HZ := Lib.hid (show codeOf (namesE T kind [] l) = 4 by rw [HE2.out, if_pos (.inl (by rw [← HFI.out]; exact hfn))]; rfl)
              clear hfn
              go_wp2_with fail
              go_ret
              exact ⟨by rw [HZ.out]; rfl, HBJ.out⟩
            · have g3 : decide (fi < 0) = false := by simpa using hfn
              obtain ⟨i, hi, hit⟩ := findB_lt (T := T) (s := x) (by rw [← HFI.out]; exact hfn)
              have hfi : fi = (i : Int) := HFI.out.trans hi
              obtain ⟨t, ht⟩ : ∃ t, T[i]? = some t := ⟨_, List.getElem?_eq_getElem hit⟩
              obtain ⟨-, x1, -, -, -, b, off, rfl, hbl, -, v1, -⟩ := HALL.out i t ht
              rw [x1] at v1
              rw [← HBJ.out.cell hbl] at v1
              have HE3 := Lib.hid (show namesE T kind [] l = if t.kind ≠ kind then some 5 else namesE T kind (l.take (j + 1)) (l.drop (j + 1)) by
                rw [HE2.out, if_neg (by
                  intro h
                  rcases h with h | h
                  · rw [← HFI.out] at h; exact hfn h
                  · rw [HM.out] at h; cases h), hi, Int.toNat_natCast, ht]
                simp)
              obtain ⟨tk, htk⟩ : ∃ z, z = t.kind := ⟨_, rfl⟩
              rw [← htk] at v1 HE3
              have hi0 : (0 : Int) ≤ (i : Int) := by omega
              have hi1 : (i : Int) < (tn : Int) := by have := HN.out.2; omega
              have HHI := Lib.hid (And.intro hi hit)
              clear hfn ht htk x1 hbl hi hit
              subst hfi
              by_cases hkk : tk = kind
              · have g4 : (tk != kind) = false := by simpa using hkk
                have HW := Lib.hid (show namesE T kind [] l = namesE T kind (l.take (j + 1)) (l.drop (j + 1)) by rw [HE3.out, if_neg (by simpa using hkk)])
                clear hkk
                go_wp2_with fail
                go_roundg g
                case measure => omega
                case rel => exact ⟨j + 1, by omega, by simp, HBJ.out, e0, e1, HW.out⟩
              · have g4 : (tk != kind) = true := by simpa using hkk
                have HZ := Lib.hid (show codeOf (namesE T kind [] l) = 5 by rw [HE3.out, if_pos hkk]; rfl)
                clear hkk
                go_wp2_with fail
                go_ret
                exact ⟨by rw [HZ.out]; rfl, HBJ.out⟩
          | succ g2 =>
            have hj : j < k := by omega
            have g1 : decide ((j : Int) < (k : Int)) = true := by simp; omega
            have g3 : decide (j < k) = true := by simpa using hj
            have hj1 : (0 : Int) ≤ (j : Int) := by omega
            have hj2 : (j : Int) < (n : Int) := by omega
            obtain ⟨y, hy⟩ : ∃ y, l[j]? = some y := ⟨_, List.getElem?_eq_getElem (by have := HN.out.1; omega)⟩
            have v0 := HX.out.2.2 j _ (strs_get hy)
            have v1 := HX.out.2.2 k _ (strs_get HX.out.1)
            rw [← HBJ.out.cell HX.out.2.1] at v0 v1
            have HY := Lib.hid hy
            clear hy
            by_cases hyx : y = x
            · have g4 : (y.toList == x.toList) = true := by subst hyx; simp
              have HZ := Lib.hid (show codeOf (namesE T kind [] l) = 4 by rw [HE2.out, if_pos (.inr (mem_take_hit hj (by rw [HY.out, hyx])))]; rfl)
              clear hyx
              go_wp2_with fail
              go_quiet (fail)
              go_wp2_with fail
              go_ret
              exact ⟨by rw [HZ.out]; rfl, by have := HBJ.out; repeat (first | assumption | (refine Below.drew ?_) | (refine below_drewN ?_ _))⟩
            · have g4 : (y.toList == x.toList) = false := bytes_ne hyx
              have HZ := Lib.hid hyx
              clear hyx
              go_wp2_with fail
              go_quiet (fail)
              have HBQ := Lib.hid (show Below w.heap.size w (wr.drewN nq) by have := HBJ.out; repeat (first | assumption | (refine Below.drew ?_) | (refine below_drewN ?_ _)))
              have k0 : (wr.drewN nq).cell? ⟨w.heap.size, 0, none⟩ = some (.slice o tn cap) := cell_later (below_drewN (Below.refl _ _) nq) e0
              have k1 : (wr.drewN nq).cell? ⟨w.heap.size, 1, none⟩ = some (.slice o9 n9 c9) := cell_later (below_drewN (Below.refl _ _) nq) e1
              go_wp2
              go_roundg g2
              case measure => omega
              case rel =>
                refine ⟨j + 1, by omega, by simp, HBQ.out, k0, k1, fun i y' hi hy' => ?_⟩
                rcases Nat.lt_or_ge i j with h | h
                · exact HNO.out i y' h hy'
                · obtain rfl : i = j := by omega
                  rw [HY.out] at hy'; cases hy'; exact HZ.out
/-- what a node of a kind has: parts, names, ends -/
def kN (k : Int) : Nat := if k = 3 then 1 else if k = 5 ∨ k = 6 then 2 else if k = 7 then 1 else 0
def kA (k : Int) : Nat := if k = 2 ∨ k = 3 then 1 else 0
def kB (k : Int) : Nat := if k = 3 then 1 else 0
def kOk (k : Int) : Prop := k = 1 ∨ k = 2 ∨ k = 3 ∨ k = 4 ∨ k = 5 ∨ k = 6 ∨ k = 7
theorem shp_iff (e : PT) : e.shp = true ↔ kOk e.kind ∧ e.parts.length = kN e.kind ∧ (0 < e.names.length ↔ 0 < kA e.kind) ∧ (0 < e.ends.length ↔ 0 < kB e.kind) := by
  unfold PT.shp kOk kN kA kB
  generalize e.kind = k
  generalize e.names.length = a
  generalize e.ends.length = b
  generalize e.parts.length = c
  by_cases h2 : k = 2
  · subst h2; simp; omega
  by_cases h3 : k = 3
  · subst h3; simp; omega
  by_cases h1 : k = 1
  · subst h1; simp; omega
  by_cases h4 : k = 4
  · subst h4; simp; omega
  by_cases h5 : k = 5
  · subst h5; simp; omega
  by_cases h6 : k = 6
  · subst h6; simp; omega
  by_cases h7 : k = 7
  · subst h7; simp; omega
  · simp [h1, h2, h3, h4, h5, h6, h7]
theorem namesE_ne {T : List TK} {kind : Int} : ∀ (l seen : List ByteArray) (c : Int), namesE T kind seen l = some c → c ≠ 0 := by
  intro l
  induction l with
  | nil => intro seen c h; rw [namesE_nil] at h; cases h
  | cons x l ih =>
    intro seen c h
    rw [namesE_cons] at h
    split at h
    · cases h; decide
    · split at h
      · cases h; decide
      · exact ih _ c h
theorem codeOf_zero {o : Option Int} (h : ∀ c, o = some c → c ≠ 0) : codeOf o = 0 ↔ o = none := by
  cases o with
  | none => simp [codeOf]
  | some c => simp [codeOf]; exact h c rfl
theorem nodeE_eq {T : List TK} {e : PT} (h : e.shp = true) : nodeE T e.kind e.names e.ends = orE (namesE T (if e.kind = 3 then 1 else 0) [] e.names) (namesE T 2 [] e.ends) := by
  obtain ⟨h0, h1, h2, h3⟩ := (shp_iff e).1 h
  unfold nodeE
  have en : ∀ l : List ByteArray, l.length = 0 → l = [] := fun l h => List.eq_nil_of_length_eq_zero h
  by_cases k2 : e.kind = 2
  · rw [if_pos k2, if_neg (by omega)]
    have : e.ends = [] := en _ (by rw [k2] at h3; simp [kB] at h3; simpa using h3)
    rw [this, namesE_nil]
    cases namesE T 0 [] e.names <;> rfl
  rw [if_neg k2]
  by_cases k3 : e.kind = 3
  · rw [if_pos k3, if_pos k3]
  rw [if_neg k3, if_neg k3]
  have e1 : e.names = [] := en _ (by
    have : kA e.kind = 0 := by unfold kA; rw [if_neg (by omega)]
    rw [this] at h2; omega)
  have e2 : e.ends = [] := en _ (by
    have : kB e.kind = 0 := by unfold kB; rw [if_neg (by omega)]
    rw [this] at h3; omega)
  rw [e1, e2, namesE_nil, namesE_nil]; rfl
theorem patE_ne {T : List TK} : ∀ (N : Nat) (e : PT), e.size ≤ N → ∀ c, patE T e = some c → c ≠ 0 := by
  intro N
  induction N with
  | zero => intro e h; have := e.size_pos; omega
  | succ N ih =>
    have all : ∀ (l : List PT), PT.sizes l ≤ N → ∀ c, patEL T l = some c → c ≠ 0 := by
      intro l
      induction l with
      | nil => intro _ c h; rw [patEL_nil] at h; cases h
      | cons a l ihl =>
        intro hl c h
        rw [PT.sizes_cons] at hl
        rw [patEL_cons] at h
        cases ha : patE T a with
        | none => rw [ha] at h; exact ihl (by omega) c h
        | some d => rw [ha] at h; cases h; exact ih a (by omega) _ ha
    intro e hs c h
    have hz := PT.size_sizes e
    rw [patE_eq] at h
    cases hsh : e.shp with
    | false => rw [hsh, if_pos rfl] at h; cases h; decide
    | true =>
      rw [hsh, if_neg (by simp), nodeE_eq hsh] at h
      cases h1 : namesE T (if e.kind = 3 then 1 else 0) [] e.names with
      | some d => rw [h1] at h; cases h; exact namesE_ne _ _ _ h1
      | none =>
        rw [h1] at h
        cases h2 : namesE T 2 [] e.ends with
        | some d => rw [h2] at h; cases h; exact namesE_ne _ _ _ h2
        | none => rw [h2] at h; exact all e.parts (by omega) c h
end Go.Proofs.YtbanmggkfpnalaaGreatDoor
