/- PrintSets' walk: a set's text is read as the set. -/
import Derived.Test.YtahckikemljlnaaGreatDoorPaText
import Derived.Test.YtahckikemljlnaaGreatDoorPmUse
import Derived.Test.YtahckikemljlnaaGreatDoorPrTold
set_option linter.unusedVariables false
set_option linter.unusedSimpArgs false
namespace Go.Proofs.YtahckikemljlnaaGreatDoor
open Go.RowKit Ru

theorem few5_any (o : Option Addr) (n c : Nat) (w : World) : Calls Tryz.prog 30 #[.slice o n c] w fun e w' => e = .returned (.bool (decide (n ≤ 30))) ∧ w = w' := by
  by_cases h : n ≤ 30
  · go_enter Tryz.func30, Tryz.ntmps30
    go_wp2
    go_ret
    exact ⟨ret_bool (by simp; omega), rfl⟩
  · go_enter Tryz.func30, Tryz.ntmps30
    go_wp2
    go_ret
    exact ⟨ret_bool (by simp; omega), rfl⟩
set_option maxHeartbeats 4000000 in
set_option maxRecDepth 100000 in
theorem printSets_walk (l : List (Int × Int)) (v : Value) (w : World) (hr : Row w v l.length (flatK .i32 l)) (hz : i32s l) (hT : TZ w) :
    Calls Tryz.prog 10 #[v] w fun x w' => x = .returned (.bool true) ∧ Below w.heap.size w w' := by
  have hr0 := hr
  obtain ⟨o, c, rfl, hc, hm, hrr⟩ := hr
  have HTO := Lib.hid (fun w' (hb : Below w.heap.size w w') => told14_any w' (hT.moved hb))
  have hno := fun (hn : l.length ≤ 5000) => refNorm_any l _ w hr0 hz hn
  have hps := fun v' w' (hb : Below w.heap.size w w') (hn : l.length ≤ 5000) (hr : Row w' v' (nrm l).length (flatK .i32 (nrm l))) => prSet_any (nrm l) v' w' hr (may_rok ((may_nrm _).2 (nrm_norm l).symm)) (by have := nrm_le l; omega) (hT.moved hb)
  have hre := fun (h1 : (nrm l).length ≠ 0) (h2 : (nrm l).length ≤ 20) w' => re_text (.mk 2 (nrm l) []) w' (Pm.set_prt h1 h2).1 (Pm.set_prt h1 h2).2.1 (Pm.set_prt h1 h2).2.2.1 (by rw [RE.size_mk, RE.sizes_nil]; omega)
  have hte := fun (h1 : (nrm l).length ≠ 0) (h2 : (nrm l).length ≤ 20) => (Pm.set_prt h1 h2).2.2.2
  obtain ⟨n, hn⟩ : ∃ n, n = l.length := ⟨_, rfl⟩
  obtain ⟨N, hN⟩ : ∃ N, N = nrm l := ⟨_, rfl⟩
  rw [← hn] at hno hps ⊢
  rw [← hN] at hno hps hre hte
  obtain ⟨S, hS⟩ : ∃ S, S = setB N := ⟨_, rfl⟩
  rw [← hS] at hps hte
  have HNO := Lib.hid hno
  have HPS := Lib.hid hps
  have HRE := Lib.hid hre
  have HTE := Lib.hid hte
  clear hno hps hre hte hr0 hrr hz hT hn hN hS
  by_cases h30 : n ≤ 30
  case neg =>
    have d1 : decide (n ≤ 30) = false := by simpa using h30
    clear h30
    go_enter Tryz.func10, Tryz.ntmps10
    go_wp2_with fail
    refine (few5_any o n c _).mono ?_
    rintro x w1 ⟨rfl, rfl⟩
    rw [d1]
    go_wp2_with fail
    refine (HTO.out _ (Below.refl _ _)).mono ?_
    rintro x w2 ⟨rfl, hb2⟩
    have HB2 := Lib.hid hb2
    clear hb2
    go_wp2_with fail
    go_ret
    exact ⟨rfl, HB2.out⟩
  have d1 : decide (n ≤ 30) = true := by simpa using h30
  have HN := Lib.hid (show n ≤ 5000 by omega)
  clear h30
  obtain ⟨m, hm'⟩ : ∃ m, m = N.length := ⟨_, rfl⟩
  have HM := Lib.hid hm'
  clear hm'
  by_cases hm0 : m = 0 ∨ 20 < m
  · have HC : Hid (m = 0 ∨ 20 < m) := Lib.hid hm0
    have e0 : True := trivial
    rcases hm0 with h0 | h20
    · have t1 : ((m : Int) == 0) = true := by simp [h0]
      have t2 : (m == 0) = true := beq_iff_eq.2 h0
      clear h0 e0 HC
      go_enter Tryz.func10, Tryz.ntmps10
      go_wp2_with fail
      refine (few5_any o n c _).mono ?_
      rintro x w1 ⟨rfl, rfl⟩
      rw [d1]
      go_wp2_with fail
      refine (HNO.out HN.out).mono ?_
      rintro x w2 ⟨u, rfl, hou, hb2⟩
      rw [← HM.out] at hou
      obtain ⟨ou, cu, rfl⟩ := owns_slice hou
      have HB2 := Lib.hid hb2
      clear hb2 hou
      go_wp2_with fail
      refine (HTO.out _ HB2.out).mono ?_
      rintro x w3 ⟨rfl, hb3⟩
      have HB3 := Lib.hid (bel_then HB2.out hb3)
      clear hb3
      go_wp2_with fail
      go_ret
      exact ⟨rfl, HB3.out⟩
    · have t1 : ((m : Int) == 0) = false := beq_eq_false_iff_ne.2 (by omega)
      have t2 : (m == 0) = false := beq_eq_false_iff_ne.2 (by omega)
      have t3 : decide ((20 : Int) < (m : Int)) = true := by simp; omega
      have t4 : decide (20 < m) = true := by simpa using h20
      clear h20 e0 HC
      go_enter Tryz.func10, Tryz.ntmps10
      go_wp2_with fail
      refine (few5_any o n c _).mono ?_
      rintro x w1 ⟨rfl, rfl⟩
      rw [d1]
      go_wp2_with fail
      refine (HNO.out HN.out).mono ?_
      rintro x w2 ⟨u, rfl, hou, hb2⟩
      rw [← HM.out] at hou
      obtain ⟨ou, cu, rfl⟩ := owns_slice hou
      have HB2 := Lib.hid hb2
      clear hb2 hou
      go_wp2_with fail
      refine (HTO.out _ HB2.out).mono ?_
      rintro x w3 ⟨rfl, hb3⟩
      have HB3 := Lib.hid (bel_then HB2.out hb3)
      clear hb3
      go_wp2_with fail
      go_ret
      exact ⟨rfl, HB3.out⟩
  have HC : Hid (N.length ≠ 0 ∧ N.length ≤ 20) := Lib.hid (by rw [← HM.out]; omega)
  have t1 : ((m : Int) == 0) = false := beq_eq_false_iff_ne.2 (by omega)
  have t2 : (m == 0) = false := beq_eq_false_iff_ne.2 (by omega)
  have t3 : decide ((20 : Int) < (m : Int)) = false := by simp; omega
  have t4 : decide (20 < m) = false := by simp; omega
  clear hm0
  go_enter Tryz.func10, Tryz.ntmps10
  go_wp2_with fail
  refine (few5_any o n c _).mono ?_
  rintro x w1 ⟨rfl, rfl⟩
  rw [d1]
  go_wp2_with fail
  refine (HNO.out HN.out).mono ?_
  rintro x w2 ⟨u, rfl, hou, hb2⟩
  have hrow := Row.owned hou
  rw [← HM.out] at hou
  obtain ⟨ou, cu, rfl⟩ := owns_slice hou
  have HB2 := Lib.hid hb2
  have HRO := Lib.hid hrow
  clear hb2 hou hrow
  go_wp2_with fail
  refine (HPS.out _ _ HB2.out HN.out HRO.out).mono ?_
  rintro x w3 ⟨rfl, hb3⟩
  have HB3 := Lib.hid (bel_then HB2.out hb3)
  have HRO3 := Lib.hid (HRO.out.below hb3)
  have hre := HRE.out HC.out.1 HC.out.2 w3
  rw [HTE.out HC.out.1 HC.out.2] at hre
  have HR := Lib.hid hre
  clear hb3 hre
  go_wp2_with fail
  refine HR.out.mono ?_
  rintro x w4 ⟨sv, lv, rfl, hkp, hb4⟩
  obtain ⟨⟨o1, q1, e1⟩, ⟨o2, q2, e2⟩⟩ := hkp.here.form
  have hs1 := hkp.here.set
  simp only [RE.set, RE.parts, RE.kind, List.length_nil] at e1 e2 hs1 ⊢
  subst e1 e2
  have HB4 := Lib.hid (bel_then HB3.out hb4)
  have HRO4 := Lib.hid (HRO3.out.below hb4)
  have HS1 := Lib.hid hs1
  clear hb4 hkp hs1
  rw [← HM.out]
  go_wp2_with fail
  refine (HTO.out _ (bel_new HB4.out _)).mono ?_
  rintro x w5 ⟨rfl, hb5⟩
  obtain ⟨c0, c1, c2⟩ := cell3_of (box_kept hb5)
  have hbel := bel_new (Below.refl w4.heap.size w4) (.cells #[.int .i64 2, .slice o1 m q1, .slice o2 0 q2] 35)
  have HRO5 := Lib.hid ((HRO4.out.below hbel).below hb5)
  have HS5 := Lib.hid ((HS1.out.below hbel).below hb5)
  have HB5 := Lib.hid (bel_then (bel_new HB4.out _) hb5)
  clear hb5 hbel
  go_wp2_with fail
  have hsm := refSame_any N N (.slice o1 m q1) (.slice ou m cu) w5 (by rw [HM.out]; exact HS5.out) (by rw [HM.out]; have h9 := HRO5.out; rwa [← HM.out] at h9 ⊢) (by have := HC.out.2; omega) (by have := HC.out.2; omega)
  refine hsm.mono ?_
  rintro x w6 ⟨rfl, hb6⟩
  have HB6 := Lib.hid (bel_then HB5.out hb6)
  rw [decide_eq_true rfl]
  clear hb6
  go_wp2_with fail
  go_ret
  exact ⟨rfl, HB6.out⟩
end Go.Proofs.YtahckikemljlnaaGreatDoor
