/- A pattern fits: its nodes and its depth. -/
import Derived.Test.YtbanmggkfpnalaaGreatDoorGRefG
import Derived.Deep.DeepCutAuto
import Derived.Deep.CutBlock
import Derived.Deep.RegionHeld3
import Derived.Test.YtbanmggkfpnalaaGreatDoorGRefP
set_option linter.unusedVariables false
set_option linter.unusedSimpArgs false
namespace Go.Proofs.YtbanmggkfpnalaaGreatDoor
open Go.RowKit Ru

def RPatIh (T : List TK) (w0 : World) (tv rv : Value) (N : Nat) : Prop := ∀ (e : PT) (nv ev lv : Value) (w : World), e.size ≤ N → e.Fit → PtIs w0 e nv ev lv → Below w0.heap.size w0 w →
  Calls Tryz.prog 111 #[.agg #[tv, rv], .agg #[.int .i64 e.kind, nv, ev, lv]] w fun x w' => x = .returned (.int .i64 (codeOf (patE T e))) ∧ Below w.heap.size w w'
set_option maxHeartbeats 8000000 in
set_option maxRecDepth 100000 in
theorem rpat_all (T : List TK) (w0 : World) (tv rv : Value) (hT : TksAre w0 tv T) (hTl : T.length ≤ 1000) (hrv : ∃ o n c, rv = .slice o n c) : ∀ N, RPatIh T w0 tv rv N := by
  intro N
  induction N with
  | zero => intro e nv ev lv w hs; have := e.size_pos; omega
  | succ N ih =>
    intro e nv ev lv w hs hf hr hb0
    obtain ⟨⟨o1, q1, rfl⟩, ⟨o3, q3, rfl⟩, -⟩ := hr.form
    obtain ⟨o2, q2, c1, c3, c2, rfl, hall⟩ := hr.all
    obtain ⟨ot, ct, nmx, kdx, clx, rkx, sox, snx, scx, lox, lnx, lcx, htv, -⟩ := hT.all
    obtain ⟨o9, n9, c9, hrv'⟩ := hrv
    have hm1 := hf.lens
    have HALL := Lib.hid hall
    have hin : ∀ (i : Nat) (p : PT) (w' : World), e.parts[i]? = some p → Below w.heap.size w w' → Calls Tryz.prog 111 #[.agg #[tv, rv], .agg #[.int .i64 p.kind, c1 i, c3 i, c2 i]] w' fun x w'' => x = .returned (.int .i64 (codeOf (patE T p))) ∧ Below w'.heap.size w' w'' := by
      intro i p w' hp hb
      exact ih p _ _ _ w' (by have := PT.size_part hp; omega) (hf.part hp) (hall i p hp).1 (bel_then hb0 hb)
    have hnam := fun (kk : Int) (w' : World) (hb : Below w.heap.size w w') => refNames_any T tv rv (.slice o1 e.names.length q1) e.names kk w' (hT.moved (bel_then hb0 hb)) hTl ⟨_, _, _, hrv'⟩ (hr.names.below (bel_then hb0 hb)) (by omega)
    have hend := fun (kk : Int) (w' : World) (hb : Below w.heap.size w w') => refNames_any T tv rv (.slice o3 e.ends.length q3) e.ends kk w' (hT.moved (bel_then hb0 hb)) hTl ⟨_, _, _, hrv'⟩ (hr.ends.below (bel_then hb0 hb)) (by omega)
    subst htv hrv'
    obtain ⟨tn, htn⟩ : ∃ x, x = T.length := ⟨_, rfl⟩
    obtain ⟨en, hen⟩ : ∃ x, x = e.names.length := ⟨_, rfl⟩
    obtain ⟨ee, hee⟩ : ∃ x, x = e.ends.length := ⟨_, rfl⟩
    obtain ⟨n, hn⟩ : ∃ x, x = e.parts.length := ⟨_, rfl⟩
    rw [← htn] at hin hnam hend
    rw [← hen] at hnam
    rw [← hee] at hend
    rw [← htn, ← hen, ← hee, ← hn]
    have HIN := Lib.hid hin
    have HNA := Lib.hid hnam
    have HEN := Lib.hid hend
    have HB0 := Lib.hid hb0
    have HS := Lib.hid (show e.shp = true ↔ kOk e.kind ∧ n = kN e.kind ∧ (0 < en ↔ 0 < kA e.kind) ∧ (0 < ee ↔ 0 < kB e.kind) by rw [hn, hen, hee]; exact shp_iff e)
    have HL := Lib.hid hn
    have hn9 : n ≤ 1000 := by omega
    clear hall hin hnam hend hr hb0 ih htn hen hee hn hT hTl hf hm1 nmx kdx clx rkx sox snx scx lox lnx lcx
    obtain ⟨k, hk⟩ : ∃ k, k = e.kind := ⟨_, rfl⟩
    rw [← hk] at HS ⊢
    have HK := Lib.hid hk
    clear hk
    have hB1 : ∀ (x y : Obj), Below w.heap.size w ((w.alloc x).alloc y) := fun x y => bel_new (bel_new (Below.refl _ _) _) _
    go_enter Tryz.func111, Tryz.ntmps111
    go_upto_block 0 with (fail)
    obtain ⟨wB, hwB⟩ : ∃ wB, wB = (w.alloc (.cells #[.slice ot tn ct, .slice o9 n9 c9] 35)).alloc (.cells #[.int .i64 k, .slice o1 en q1, .slice o3 ee q3, .slice o2 n q2] 47) := ⟨_, rfl⟩
    rw [← hwB]
    have HWB := Lib.hid (show Below w.heap.size w wB ∧ wB.cell? ⟨w.heap.size, 0, none⟩ = some (.slice ot tn ct) ∧ wB.cell? ⟨w.heap.size, 1, none⟩ = some (.slice o9 n9 c9) ∧ wB.cell? ⟨w.heap.size + 1, 0, none⟩ = some (.int .i64 k) ∧ wB.cell? ⟨w.heap.size + 1, 1, none⟩ = some (.slice o1 en q1) ∧ wB.cell? ⟨w.heap.size + 1, 2, none⟩ = some (.slice o3 ee q3) ∧ wB.cell? ⟨w.heap.size + 1, 3, none⟩ = some (.slice o2 n q2) by
      rw [hwB]; exact ⟨hB1 _ _, by simp [go_sem], by simp [go_sem], by simp [go_sem], by simp [go_sem], by simp [go_sem], by simp [go_sem]⟩)
    clear hwB hB1
    go_cut [5, 6, 7] (fun s5 s6 s7 wx => kOk k ∧ s5 = .int .i64 (kN k : Nat) ∧ s6 = .int .i64 (kA k : Nat) ∧ s7 = .int .i64 (kB k : Nat) ∧ wx = wB)
    case first =>
      by_cases h1 : k = 1
      · subst h1
        go_wp2_with fail
        go_meet
        case rel => exact ⟨by unfold kOk; decide, rfl, rfl, rfl, rfl⟩
      have b1 : (k == 1) = false := by simpa using h1
      by_cases h2 : k = 2
      · subst h2
        go_wp2_with fail
        go_meet
        case rel => exact ⟨by unfold kOk; decide, rfl, rfl, rfl, rfl⟩
      have b2 : (k == 2) = false := by simpa using h2
      by_cases h3 : k = 3
      · subst h3
        go_wp2_with fail
        go_meet
        case rel => exact ⟨by unfold kOk; decide, rfl, rfl, rfl, rfl⟩
      have b3 : (k == 3) = false := by simpa using h3
      by_cases h4 : k = 4
      · subst h4
        go_wp2_with fail
        go_meet
        case rel => exact ⟨by unfold kOk; decide, rfl, rfl, rfl, rfl⟩
      have b4 : (k == 4) = false := by simpa using h4
      by_cases h5 : k = 5
      · subst h5
        go_wp2_with fail
        go_meet
        case rel => exact ⟨by unfold kOk; decide, rfl, rfl, rfl, rfl⟩
      have b5 : (k == 5) = false := by simpa using h5
      by_cases h6 : k = 6
      · subst h6
        go_wp2_with fail
        go_meet
        case rel => exact ⟨by unfold kOk; decide, rfl, rfl, rfl, rfl⟩
      have b6 : (k == 6) = false := by simpa using h6
      by_cases h7 : k = 7
      · subst h7
        go_wp2_with fail
        go_meet
        case rel => exact ⟨by unfold kOk; decide, rfl, rfl, rfl, rfl⟩
      have b7 : (k == 7) = false := by simpa using h7
      have HX := Lib.hid (show codeOf (patE T e) = 5 by
        rw [patE_eq, if_pos (by
          cases hsh : e.shp with
          | false => rfl
          | true => exact absurd (HS.out.1 hsh).1 (by unfold kOk; omega))]; rfl)
      go_wp2_with fail
      go_ret
      exact ⟨by rw [HX.out]; rfl, HWB.out.1⟩
    case rest =>
      obtain ⟨hok, rfl, rfl, rfl, hwx⟩ := hcut
      obtain rfl : wB = wc := hwx.symm
      obtain ⟨m, hm⟩ : ∃ m, m = kN k := ⟨_, rfl⟩
      obtain ⟨a, ha⟩ : ∃ a, a = kA k := ⟨_, rfl⟩
      obtain ⟨b, hb⟩ : ∃ b, b = kB k := ⟨_, rfl⟩
      rw [← hm, ← ha, ← hb] at HS ⊢
      have HSH := Lib.hid (show e.shp = true ↔ n = m ∧ (0 < en ↔ 0 < a) ∧ (0 < ee ↔ 0 < b) from ⟨fun h => (HS.out.1 h).2, fun h => HS.out.2 ⟨hok, h⟩⟩)
      obtain ⟨w0', w1', w2', w3', w4', w5'⟩ := HWB.out.2
      obtain ⟨pa, hpa⟩ : ∃ x, x = decide (0 < en) := ⟨_, rfl⟩
      obtain ⟨qa, hqa⟩ : ∃ x, x = decide (0 < a) := ⟨_, rfl⟩
      obtain ⟨pb, hpb⟩ : ∃ x, x = decide (0 < ee) := ⟨_, rfl⟩
      obtain ⟨qb, hqb⟩ : ∃ x, x = decide (0 < b) := ⟨_, rfl⟩
      have ea1 : decide ((0 : Int) < (en : Int)) = pa := by rw [hpa]; simp
      have ea2 : decide (0 < en) = pa := hpa.symm
      have eb1 : decide ((0 : Int) < (a : Int)) = qa := by rw [hqa]; simp
      have eb2 : decide (0 < a) = qa := hqa.symm
      have ec1 : decide ((0 : Int) < (ee : Int)) = pb := by rw [hpb]; simp
      have ec2 : decide (0 < ee) = pb := hpb.symm
      have ed1 : decide ((0 : Int) < (b : Int)) = qb := by rw [hqb]; simp
      have ed2 : decide (0 < b) = qb := hqb.symm
      have HPA := Lib.hid (And.intro hpa (And.intro hqa (And.intro hpb hqb)))
      have HM := Lib.hid hm
      clear hpa hqa hpb hqb hm ha hb
      by_cases z1 : n = m
      case neg =>
        have y1 : ((n : Int) != (m : Int)) = true := by simp; omega
        have y2 : (n != m) = true := by simpa using z1
        have HX := Lib.hid (show codeOf (patE T e) = 5 by
          rw [patE_eq, if_pos (by
            cases hsh : e.shp with
            | false => rfl
            | true => exact absurd (HSH.out.1 hsh).1 z1)]; rfl)
        clear z1
        go_wp2_with fail
        go_ret
        exact ⟨by rw [HX.out]; rfl, HWB.out.1⟩
      have y1 : ((n : Int) != (m : Int)) = false := by simp; omega
      have y2 : (n != m) = false := by simpa using z1
      by_cases z2 : pa = qa
      case neg =>
        have y3 : (pa != qa) = true := by simpa using z2
        have HX := Lib.hid (show codeOf (patE T e) = 5 by
          rw [patE_eq, if_pos (by
            cases hsh : e.shp with
            | false => rfl
            | true => exact absurd (by rw [HPA.out.1, HPA.out.2.1]; exact decide_eq_decide.2 (HSH.out.1 hsh).2.1) z2)]; rfl)
        clear z1 y3 HPA HSH HS
        cases pa <;> cases qa <;> first
          | exact absurd rfl z2
          | (clear z2
             go_wp2_with fail
             go_ret
             exact ⟨by rw [HX.out]; rfl, HWB.out.1⟩)
      have y3 : (pa != qa) = false := by simpa using z2
      by_cases z3 : pb = qb
      case neg =>
        have y4 : (pb != qb) = true := by simpa using z3
        have HX := Lib.hid (show codeOf (patE T e) = 5 by
          rw [patE_eq, if_pos (by
            cases hsh : e.shp with
            | false => rfl
            | true => exact absurd (by rw [HPA.out.2.2.1, HPA.out.2.2.2]; exact decide_eq_decide.2 (HSH.out.1 hsh).2.2) z3)]; rfl)
        clear z1 y4 HPA HSH HS
        subst z2
        cases pa <;> cases pb <;> cases qb <;> first
          | exact absurd rfl z3
          | (clear z3 y3
             go_wp2_with fail
             go_ret
             exact ⟨by rw [HX.out]; rfl, HWB.out.1⟩)
      have y4 : (pb != qb) = false := by simpa using z3
      have HOK := Lib.hid (show e.shp = true from HSH.out.2 ⟨z1, by rw [HPA.out.1, HPA.out.2.1] at z2; exact decide_eq_decide.1 z2, by rw [HPA.out.2.2.1, HPA.out.2.2.2] at z3; exact decide_eq_decide.1 z3⟩)
      have HNM := Lib.hid z1
      obtain ⟨kk, hkk⟩ : ∃ kk : Int, kk = if k = 3 then 1 else 0 := ⟨_, rfl⟩
      have HPE := Lib.hid (show patE T e = orE (orE (namesE T kk [] e.names) (namesE T 2 [] e.ends)) (patEL T e.parts) by
        rw [patE_eq, if_neg (by rw [HOK.out]; simp), nodeE_eq HOK.out, hkk, ← HK.out])
      clear z1 y3 y4
      subst z2 z3
      go_upto_if 52 with (fail)
      have HKK := Lib.hid hkk
      clear hkk
      go_cut [8] (fun s8 wx => s8 = .int .i64 kk ∧ wx = wB)
      case first =>
        by_cases h3 : k = 3
        · have b3 : (k == 3) = true := by simpa using h3
          have HZ := Lib.hid (show (1 : Int) = kk by rw [HKK.out, if_pos h3])
          clear h3
          go_wp2_with fail
          go_meet
          case rel => exact ⟨by rw [HZ.out], rfl⟩
        · have b3 : (k == 3) = false := by simpa using h3
          have HZ := Lib.hid (show (0 : Int) = kk by rw [HKK.out, if_neg h3])
          clear h3
          go_wp2_with fail
          go_meet
          case rel => exact ⟨by rw [HZ.out], rfl⟩
      case rest =>
        obtain ⟨rfl, hwy⟩ := hcut
        obtain rfl : wB = wc := hwy.symm
        go_wp2_with fail
        refine (HNA.out kk _ (by exact HWB.out.1)).mono ?_
        rintro x w2 ⟨rfl, hb2⟩
        have m0 := cell_later hb2 w0'
        have m1 := cell_later hb2 w1'
        have m2 := cell_later hb2 w4'
        have m3 := cell_later hb2 w5'
        have HB2 := Lib.hid (bel_then HWB.out.1 hb2)
        clear hb2 w0' w1' w2' w3' w4' w5'
        obtain ⟨d1, hd1⟩ : ∃ d, d = codeOf (namesE T kk [] e.names) := ⟨_, rfl⟩
        rw [← hd1]
        by_cases hz1 : d1 = 0
        case neg =>
          have g1 : (d1 != 0) = true := by simpa using hz1
          have HX := Lib.hid (show codeOf (patE T e) = d1 by
            rw [HPE.out]
            cases hq : namesE T kk [] e.names with
            | none => rw [hq] at hd1; exact absurd hd1 hz1
            | some c => rw [hq] at hd1; rw [hd1]; rfl)
          clear hz1 hd1
          go_wp2_with fail
          go_ret
          exact ⟨by rw [HX.out]; rfl, HB2.out⟩
        have g1 : (d1 != 0) = false := by simpa using hz1
        have HPE1 := Lib.hid (show patE T e = orE (namesE T 2 [] e.ends) (patEL T e.parts) by
          rw [HPE.out, (codeOf_zero (fun c => namesE_ne _ _ c)).1 (hd1.symm.trans hz1)]; rfl)
        clear hd1
        subst hz1
        go_wp2_with fail
        refine (HEN.out 2 _ (by exact HB2.out)).mono ?_
        rintro x w3 ⟨rfl, hb3⟩
        have n0 := cell_later hb3 m0
        have n1 := cell_later hb3 m1
        have n3 := cell_later hb3 m3
        have HB3 := Lib.hid (bel_then HB2.out hb3)
        clear hb3 m0 m1 m2 m3
        obtain ⟨d2, hd2⟩ : ∃ d, d = codeOf (namesE T 2 [] e.ends) := ⟨_, rfl⟩
        rw [← hd2]
        by_cases hz2 : d2 = 0
        case neg =>
          have g2 : (d2 != 0) = true := by simpa using hz2
          have HX := Lib.hid (show codeOf (patE T e) = d2 by
            rw [HPE1.out]
            cases hq : namesE T 2 [] e.ends with
            | none => rw [hq] at hd2; exact absurd hd2 hz2
            | some c => rw [hq] at hd2; rw [hd2]; rfl)
          clear hz2 hd2
          go_wp2_with fail
          go_ret
          exact ⟨by rw [HX.out]; rfl, HB3.out⟩
        have g2 : (d2 != 0) = false := by simpa using hz2
        have HPE2 := Lib.hid (show patE T e = patEL T e.parts by
          rw [HPE1.out, (codeOf_zero (fun c => namesE_ne _ _ c)).1 (hd2.symm.trans hz2)]; rfl)
        clear hd2
        subst hz2
        obtain rfl : n = m := HNM.out
        go_wp2_with fail
        go_loopg [11] n (fun g s11 wx => ∃ j : Nat, j + g = n ∧ s11 = .int .i64 (j : Int) ∧ patE T e = patEL T (e.parts.drop j) ∧ Below w.heap.size w wx ∧ wx.cell? ⟨w.heap.size, 0, none⟩ = some (.slice ot tn ct) ∧ wx.cell? ⟨w.heap.size, 1, none⟩ = some (.slice o9 n9 c9) ∧ wx.cell? ⟨w.heap.size + 1, 3, none⟩ = some (.slice o2 n q2))
        case atStart => exact ⟨0, by omega, rfl, by rw [List.drop_zero]; exact HPE2.out, HB3.out, n0, n1, n3⟩
        case round =>
          obtain ⟨j, hjg, rfl, hpe, hbel, e0, e1, e2⟩ := hrel
          have HBE := Lib.hid hbel
          have HPJ := Lib.hid hpe
          clear hpe n0 n1 n3
          cases gk with
          | zero =>
            obtain rfl : j = n := by omega
            have hx1 : decide ((j : Int) < (j : Int)) = false := by simp
            have hx2 : decide (j < j) = false := by simp
            have HD := Lib.hid (show codeOf (patE T e) = 0 by rw [HPJ.out, List.drop_of_length_le (by have := HL.out; omega), patEL_nil]; rfl)
            clear hbel
            go_wp2_with fail
            go_ret
            exact ⟨by rw [HD.out]; rfl, HBE.out⟩
          | succ g =>
            have hk : j < n := by omega
            have hx1 : decide ((j : Int) < (n : Int)) = true := by simp; omega
            have hx2 : decide (j < n) = true := by simpa using hk
            have hk1 : (0 : Int) ≤ (j : Int) := by omega
            have hk2 : (j : Int) < (n : Int) := by omega
            obtain ⟨p, hp⟩ : ∃ p, e.parts[j]? = some p := ⟨_, List.getElem?_eq_getElem (by have := HL.out; omega)⟩
            obtain ⟨-, b0, off, rfl, hbl, k0, k1, k3, k2⟩ := HALL.out j p hp
            have hbb := bel_then HB0.out hbel
            rw [← hbb.cell hbl] at k0 k1 k3 k2
            have hcal := fun w' hb' => HIN.out j p w' hp hb'
            obtain ⟨x1, hx1'⟩ : ∃ x, x = c1 j := ⟨_, rfl⟩
            obtain ⟨x3, hx3'⟩ : ∃ x, x = c3 j := ⟨_, rfl⟩
            obtain ⟨x2, hx2'⟩ : ∃ x, x = c2 j := ⟨_, rfl⟩
            rw [← hx1', ← hx2', ← hx3'] at hcal
            rw [← hx1'] at k1
            rw [← hx3'] at k3
            rw [← hx2'] at k2
            have HCAL := Lib.hid hcal
            have HPD := Lib.hid (show patE T e = orE (patE T p) (patEL T (e.parts.drop (j + 1))) by rw [HPJ.out, drop_at hp, patEL_cons])
            clear hcal hp hbb hx1' hx2' hx3' hbl hbel
            obtain ⟨d3, hd3⟩ : ∃ d, d = codeOf (patE T p) := ⟨_, rfl⟩
            go_upto_region 29 with (fail)
            go_cut [12] from 73 to 79 (fun s12 wx => s12 = .int .i64 d3 ∧ Below wr.heap.size wr wx)
            case first =>
              go_region_held3 (fun w' => w'.cell? ⟨w.heap.size, 0, none⟩ = some (.slice ot tn ct) ∧ w'.cell? ⟨w.heap.size, 1, none⟩ = some (.slice o9 n9 c9) ∧ w'.cell? ⟨w.heap.size + 1, 3, none⟩ = some (.slice (some ⟨b0, off, none⟩) n q2) ∧ w'.cell? ⟨b0, off + j * 4, none⟩ = some (.int .i64 p.kind) ∧ w'.cell? ⟨b0, off + j * 4 + 1, none⟩ = some x1 ∧ w'.cell? ⟨b0, off + j * 4 + 2, none⟩ = some x3 ∧ w'.cell? ⟨b0, off + j * 4 + 3, none⟩ = some x2)
                (first | exact ⟨e0, e1, e2, k0, k1, k3, k2⟩ | exact ⟨cell_later hB4 e0, cell_later hB4 e1, cell_later hB4 e2, cell_later hB4 k0, cell_later hB4 k1, cell_later hB4 k3, cell_later hB4 k2⟩)
                (first
                  | (go_simp; go_at_call 111; refine (HCAL.out _ (HBE.out.drew)).mono ?_; rintro e w4 ⟨rfl, hb4⟩; have hB4 : Below wr.heap.size wr w4 := Below.trans (Below.refl _ _).drew hb4; clear hb4))
              all_goals (go_wp2_with fail)
              all_goals go_meet
              all_goals (exact ⟨by rw [hd3], hB4⟩)
            case rest =>
            obtain ⟨rfl, hb4⟩ := hcut
            have l0 := cell_later hb4 e0
            have l1 := cell_later hb4 e1
            have l2 := cell_later hb4 e2
            have HB4 := Lib.hid (bel_then HBE.out hb4)
            clear hb4 e0 e1 e2 k0 k1 k2 k3
            by_cases hz3 : d3 = 0
            case neg =>
              have g3 : (d3 != 0) = true := by simpa using hz3
              have HX := Lib.hid (show codeOf (patE T e) = d3 by
                rw [HPD.out]
                cases hq : patE T p with
                | none => rw [hq] at hd3; exact absurd hd3 hz3
                | some c => rw [hq] at hd3; rw [hd3]; rfl)
              clear hz3 hd3
              go_wp2_with fail
              go_ret
              exact ⟨by rw [HX.out]; rfl, HB4.out⟩
            have g3 : (d3 != 0) = false := by simpa using hz3
            have HPN := Lib.hid (show patE T e = patEL T (e.parts.drop (j + 1)) by
              rw [HPD.out, (codeOf_zero (patE_ne p.size p (Nat.le_refl _))).1 (hd3.symm.trans hz3)]; rfl)
            clear hd3
            subst hz3
            go_wp2_with fail
            go_roundg g
            case measure => omega
            case rel => exact ⟨j + 1, by omega, by simp, HPN.out, HB4.out, l0, l1, l2⟩
end Go.Proofs.YtbanmggkfpnalaaGreatDoor

namespace Go.Proofs.YtbanmggkfpnalaaGreatDoor
open Go.RowKit Ru

def rstepE (T : List TK) (pos : Bool) (s : ST) : Option Int := if decide (0 < s.calls.length) ≠ pos then some 5 else orE (namesE T 1 [] s.calls) (if 60 < s.p.size ∨ 12 < s.p.dep then some 6 else patE T s.p)
def rstepsE (T : List TK) (free : Bool) : Nat → List ST → Option Int
  | _, [] => none
  | i, s :: l => orE (rstepE T (decide (0 < i) || free) s) (rstepsE T free (i + 1) l)
theorem rstepsE_cons (T : List TK) (free : Bool) (i : Nat) (s : ST) (l : List ST) : rstepsE T free i (s :: l) = orE (rstepE T (decide (0 < i) || free) s) (rstepsE T free (i + 1) l) := rfl
def rruleE (T : List TK) (r : RU) : Option Int := if ¬ ((0 ≤ r.cls ∧ r.cls ≤ 31) ∧ 1 ≤ r.steps.length ∧ r.steps.length ≤ 4) then some 6 else rstepsE T r.free 0 r.steps
set_option maxHeartbeats 8000000 in
set_option maxRecDepth 100000 in
theorem rrule_any (T : List TK) (w : World) (tv rv sv : Value) (r : RU) (hT : TksAre w tv T) (hTl : T.length ≤ 1000) (hrv : ∃ o n c, rv = .slice o n c) (hs : StsAre w sv r.steps) (hsl : r.steps.length ≤ 1000) (hsf : SFit r.steps) (hsz : ∀ (i : Nat) (s : ST), r.steps[i]? = some s → s.p.size ≤ 1000) :
    Calls Tryz.prog 82 #[.agg #[tv, rv], .agg #[.int .i64 r.cls, .bool r.free, sv]] w fun x w' => x = .returned (.int .i64 (codeOf (rruleE T r))) ∧ Below w.heap.size w w' := by
  obtain ⟨so, sc, rfl⟩ := hs.form
  obtain ⟨ot, ct, nmx, kdx, clx, rkx, sox, snx, scx, lox, lnx, lcx, htv, -⟩ := hT.all
  obtain ⟨o9, n9, c9, hrv'⟩ := hrv
  have hnam := fun (l : List ByteArray) (lv : Value) (w' : World) (hb : Below w.heap.size w w') (hl : Row w lv l.length (strs l)) (hll : l.length ≤ 1000) => refNames_any T tv rv lv l 1 w' (hT.moved hb) hTl ⟨_, _, _, hrv'⟩ (hl.below hb) hll
  have hpat := fun (p : PT) (nv ev lv : Value) (w' : World) (hf : p.Fit) (hp : PtIs w p nv ev lv) (hb : Below w.heap.size w w') => rpat_all T w tv rv hT hTl ⟨_, _, _, hrv'⟩ p.size p nv ev lv w' (Nat.le_refl _) hf hp hb
  have hcnt := fun (p : PT) (nv ev lv : Value) (w' : World) (h9 : p.size ≤ 1000) (hf : p.Fit) (hp : PtIs w p nv ev lv) (hb : Below w.heap.size w w') => rcnt_all w p.size p nv ev lv w' (Nat.le_refl _) h9 hf hp hb
  subst htv hrv'
  obtain ⟨tn, htn⟩ : ∃ x, x = T.length := ⟨_, rfl⟩
  obtain ⟨n, hn⟩ : ∃ x, x = r.steps.length := ⟨_, rfl⟩
  rw [← htn] at hnam hpat ⊢
  rw [← hn] at hsl ⊢
  have HGET := Lib.hid (fun (i : Nat) (s : ST) (h : r.steps[i]? = some s) => hs.get h)
  have HNA := Lib.hid hnam
  have HPA := Lib.hid hpat
  have HCN := Lib.hid hcnt
  have HSF := Lib.hid hsf
  have HSZ := Lib.hid hsz
  have HL := Lib.hid hn
  have HR := Lib.hid (show rruleE T r = if ¬ ((0 ≤ r.cls ∧ r.cls ≤ 31) ∧ 1 ≤ n ∧ n ≤ 4) then some 6 else rstepsE T r.free 0 r.steps by rw [hn]; rfl)
  obtain ⟨k, hk⟩ : ∃ k, k = r.cls := ⟨_, rfl⟩
  obtain ⟨fr, hfr⟩ : ∃ k, k = r.free := ⟨_, rfl⟩
  rw [← hk, ← hfr] at HR ⊢
  have hB1 : ∀ (x y : Obj), Below w.heap.size w ((w.alloc x).alloc y) := fun x y => bel_new (bel_new (Below.refl _ _) _) _
  clear hnam hpat hcnt hsf hsz hn hs hT hTl hk hfr htn nmx kdx clx rkx sox snx scx lox lnx lcx
  by_cases h1 : k < 0
  · have b1 : decide (k < 0) = true := decide_eq_true h1
    have HX := Lib.hid (show codeOf (rruleE T r) = 6 by rw [HR.out, if_pos (by omega)]; rfl)
    clear h1
    go_enter Tryz.func82, Tryz.ntmps82
    go_wp2_with fail
    go_ret
    exact ⟨by rw [HX.out]; rfl, hB1 _ _⟩
  have b1 : decide (k < 0) = false := decide_eq_false h1
  by_cases h2 : 31 < k
  · have b2 : decide (31 < k) = true := decide_eq_true h2
    have HX := Lib.hid (show codeOf (rruleE T r) = 6 by rw [HR.out, if_pos (by omega)]; rfl)
    clear h1 h2
    go_enter Tryz.func82, Tryz.ntmps82
    go_wp2_with fail
    go_ret
    exact ⟨by rw [HX.out]; rfl, hB1 _ _⟩
  have b2 : decide (31 < k) = false := decide_eq_false h2
  by_cases h3 : n < 1
  · have b3 : decide ((n : Int) < 1) = true := by simp; omega
    have HX := Lib.hid (show codeOf (rruleE T r) = 6 by rw [HR.out, if_pos (by omega)]; rfl)
    clear h1 h2 h3
    go_enter Tryz.func82, Tryz.ntmps82
    go_wp2_with fail
    go_ret
    exact ⟨by rw [HX.out]; rfl, hB1 _ _⟩
  have b3 : decide ((n : Int) < 1) = false := by simp; omega
  by_cases h4 : 4 < n
  · have b4 : decide ((4 : Int) < (n : Int)) = true := by simp; omega
    have HX := Lib.hid (show codeOf (rruleE T r) = 6 by rw [HR.out, if_pos (by omega)]; rfl)
    clear h1 h2 h3 h4
    go_enter Tryz.func82, Tryz.ntmps82
    go_wp2_with fail
    go_ret
    exact ⟨by rw [HX.out]; rfl, hB1 _ _⟩
  have b4 : decide ((4 : Int) < (n : Int)) = false := by simp; omega
  have HRS := Lib.hid (show rruleE T r = rstepsE T fr 0 r.steps by rw [HR.out, if_neg (by omega)])
  clear h1 h2 h3 h4
  go_enter Tryz.func82, Tryz.ntmps82
  go_upto_block 0 with (fail)
  obtain ⟨wB, hwB⟩ : ∃ wB, wB = (w.alloc (.cells #[.slice ot tn ct, .slice o9 n9 c9] 35)).alloc (.cells #[.int .i64 k, .bool fr, .slice so n sc] 64) := ⟨_, rfl⟩
  rw [← hwB]
  have HWB := Lib.hid (show Below w.heap.size w wB ∧ wB.cell? ⟨w.heap.size, 0, none⟩ = some (.slice ot tn ct) ∧ wB.cell? ⟨w.heap.size, 1, none⟩ = some (.slice o9 n9 c9) ∧ wB.cell? ⟨w.heap.size + 1, 1, none⟩ = some (.bool fr) ∧ wB.cell? ⟨w.heap.size + 1, 2, none⟩ = some (.slice so n sc) by
    rw [hwB]; exact ⟨hB1 _ _, by simp [go_sem], by simp [go_sem], by simp [go_sem], by simp [go_sem]⟩)
  clear hwB hB1 b1 b2 b3 b4
  go_wp2_with fail
  go_loopg [5] n (fun g s5 wx => ∃ j : Nat, j + g = n ∧ s5 = .int .i64 (j : Int) ∧ rruleE T r = rstepsE T fr j (r.steps.drop j) ∧ Below w.heap.size w wx ∧ wx.cell? ⟨w.heap.size, 0, none⟩ = some (.slice ot tn ct) ∧ wx.cell? ⟨w.heap.size, 1, none⟩ = some (.slice o9 n9 c9) ∧ wx.cell? ⟨w.heap.size + 1, 1, none⟩ = some (.bool fr) ∧ wx.cell? ⟨w.heap.size + 1, 2, none⟩ = some (.slice so n sc))
  case atStart => exact ⟨0, by omega, rfl, by rw [List.drop_zero]; exact HRS.out, HWB.out⟩
  case round =>
    obtain ⟨j, hjg, rfl, hpe, hbel, e0, e1, e2, e3⟩ := hrel
    have HBE := Lib.hid hbel
    have HPJ := Lib.hid hpe
    clear hpe
    cases gk with
    | zero =>
      obtain rfl : j = n := by omega
      have hx1 : decide ((j : Int) < (j : Int)) = false := by simp
      have hx2 : decide (j < j) = false := by simp
      have HD := Lib.hid (show codeOf (rruleE T r) = 0 by rw [HPJ.out, List.drop_of_length_le (by have := HL.out; omega)]; rfl)
      clear hbel
      go_wp2_with fail
      go_ret
      exact ⟨by rw [HD.out]; rfl, HBE.out⟩
    | succ g =>
      have hk : j < n := by omega
      have hx1 : decide ((j : Int) < (n : Int)) = true := by simp; omega
      have hx2 : decide (j < n) = true := by simpa using hk
      have hk1 : (0 : Int) ≤ (j : Int) := by omega
      have hk2 : (j : Int) < (n : Int) := by omega
      obtain ⟨s, hp⟩ : ∃ p, r.steps[j]? = some p := ⟨_, List.getElem?_eq_getElem (by have := HL.out; omega)⟩
      obtain ⟨b0, off, cap, co, cc, no, nc, eo, ec, lo, lc, hso, hbl, hrow, hpt, k0, k1, k2, k3, k4⟩ := HGET.out j s hp
      obtain ⟨rfl, -, rfl⟩ : so = some ⟨b0, off, none⟩ ∧ n = r.steps.length ∧ sc = cap := by injection hso with q1 q2 q3; exact ⟨q1, HL.out, q3⟩
      rw [← hbel.cell hbl] at k0 k1 k2 k3 k4
      have hcal := fun w' hb' => HNA.out s.calls _ w' hb' hrow (HSF.out j s hp).1
      have hcn := fun w' hb' => HCN.out s.p _ _ _ w' (HSZ.out j s hp) (HSF.out j s hp).2 hpt hb'
      have hpa := fun w' hb' => HPA.out s.p _ _ _ w' (HSF.out j s hp).2 hpt hb'
      have HPD := Lib.hid (show rruleE T r = orE (rstepE T (decide (0 < j) || fr) s) (rstepsE T fr (j + 1) (r.steps.drop (j + 1))) by rw [HPJ.out, drop_at hp, rstepsE_cons])
      have HZ2 := Lib.hid (And.intro (HSZ.out j s hp) (PT.dep_le s.p.size s.p (Nat.le_refl _)))
      obtain ⟨pd, hpd⟩ : ∃ x, x = s.p.dep := ⟨_, rfl⟩
      obtain ⟨pz, hpz⟩ : ∃ x, x = s.p.size := ⟨_, rfl⟩
      rw [← hpd, ← hpz] at hcn
      obtain ⟨pk, hpk⟩ : ∃ x, x = s.p.kind := ⟨_, rfl⟩
      obtain ⟨cn, hcnn⟩ : ∃ x, x = s.calls.length := ⟨_, rfl⟩
      obtain ⟨nn, hnn⟩ : ∃ x, x = s.p.names.length := ⟨_, rfl⟩
      obtain ⟨en, hen⟩ : ∃ x, x = s.p.ends.length := ⟨_, rfl⟩
      obtain ⟨ln, hln⟩ : ∃ x, x = s.p.parts.length := ⟨_, rfl⟩
      rw [← hcnn] at k0 hcal
      rw [← hpk] at k1 hcn hpa
      rw [← hnn] at k2 hcn hpa
      rw [← hen] at k3 hcn hpa
      rw [← hln] at k4 hcn hpa
      have HCAL := Lib.hid hcal
      have HCNT := Lib.hid hcn
      have HPAT := Lib.hid hpa
      have HSD := Lib.hid (And.intro hpd (And.intro hpz hcnn))
      clear hcal hcn hpa hp hso hrow hpt hpk hcnn hnn hen hln hpd hpz hbl hbel
      obtain ⟨ps, hps⟩ : ∃ x, x = (decide (0 < j) || fr) := ⟨_, rfl⟩
      obtain ⟨pc, hpc⟩ : ∃ x, x = decide (0 < cn) := ⟨_, rfl⟩
      have ea1 : decide ((0 : Int) < (cn : Int)) = pc := by rw [hpc]; simp
      rw [← hps] at HPD
      have ea2 : decide (0 < cn) = pc := hpc.symm
      have HPC := Lib.hid hpc
      clear hpc
      obtain ⟨wS, hwS⟩ : ∃ wS, wS = wr.alloc (.cells #[.slice co cn cc, .int .i64 pk, .slice no nn nc, .slice eo en ec, .slice lo ln lc] 66) := ⟨_, rfl⟩
      have HWS := Lib.hid (show Below wr.heap.size wr wS ∧ wS.cell? ⟨wr.heap.size, 0, none⟩ = some (.slice co cn cc) ∧ wS.cell? ⟨wr.heap.size, 1, none⟩ = some (.int .i64 pk) ∧ wS.cell? ⟨wr.heap.size, 2, none⟩ = some (.slice no nn nc) ∧ wS.cell? ⟨wr.heap.size, 3, none⟩ = some (.slice eo en ec) ∧ wS.cell? ⟨wr.heap.size, 4, none⟩ = some (.slice lo ln lc) by
        rw [hwS]; exact ⟨bel_new (Below.refl _ _) _, by simp [go_sem], by simp [go_sem], by simp [go_sem], by simp [go_sem], by simp [go_sem]⟩)
      have f0 : wS.cell? ⟨w.heap.size, 0, none⟩ = some (.slice ot tn ct) := cell_later HWS.out.1 e0
      have f1 : wS.cell? ⟨w.heap.size, 1, none⟩ = some (.slice o9 n9 c9) := cell_later HWS.out.1 e1
      have f2 : wS.cell? ⟨w.heap.size + 1, 1, none⟩ = some (.bool fr) := cell_later HWS.out.1 e2
      have f3 : wS.cell? ⟨w.heap.size + 1, 2, none⟩ = some (.slice (some ⟨b0, off, none⟩) n sc) := cell_later HWS.out.1 e3
      go_upto_region 7 with (fail)
      rw [← hwS]
      clear hwS e0 e1 e2 e3 k0 k1 k2 k3 k4
      obtain ⟨i0, i1, i2, i3, i4⟩ := HWS.out.2
      have HPS := Lib.hid hps
      clear hps
      go_cut [53] from 43 to 53 (fun s53 wx => s53 = .bool (pc != ps) ∧ wx = wS)
      case first =>
        by_cases hj0 : 0 < j
        · have hj1 : decide ((0 : Int) < (j : Int)) = true := by simp; omega
          have hj2 : decide (0 < j) = true := by simpa using hj0
          have hps1 : ps = true := by rw [HPS.out, decide_eq_true hj0]; rfl
          clear hj0
          subst hps1
          go_wp2_with fail
          go_meet
          case rel => exact ⟨by cases pc <;> rfl, rfl⟩
        · have hj1 : decide ((0 : Int) < (j : Int)) = false := by simp; omega
          have hj2 : decide (0 < j) = false := by simpa using hj0
          have hps1 : ps = fr := by rw [HPS.out, decide_eq_false hj0]; rfl
          clear hj0
          subst hps1
          go_wp2_with fail
          go_meet
          case rel => exact ⟨by cases pc <;> cases ps <;> rfl, rfl⟩
      case rest =>
      obtain ⟨rfl, hwy⟩ := hcut
      obtain rfl : wS = wc := hwy.symm
      have HBS := Lib.hid (bel_then HBE.out HWS.out.1)
      by_cases z1 : pc = ps
      case neg =>
        have y1 : (pc != ps) = true := by simpa using z1
        have HX := Lib.hid (show codeOf (rruleE T r) = 5 by
          rw [HPD.out, rstepE, if_pos (by rw [← HSD.out.2.2, ← HPC.out]; exact z1)]; rfl)
        clear z1 ea1 ea2
        rw [y1]
        go_wp2_with fail
        go_ret
        exact ⟨by rw [HX.out]; rfl, HBS.out⟩
      have y1 : (pc != ps) = false := by simpa using z1
      have HPD2 := Lib.hid (show rruleE T r = orE (orE (namesE T 1 [] s.calls) (if 60 < pz ∨ 12 < pd then some 6 else patE T s.p)) (rstepsE T fr (j + 1) (r.steps.drop (j + 1))) by
        rw [HPD.out, rstepE, if_neg (by rw [← HSD.out.2.2, ← HPC.out]; exact fun h => h z1), ← HSD.out.1, ← HSD.out.2.1])
      clear z1 ea1 ea2
      rw [y1]
      go_wp2_with fail
      refine (HCAL.out _ (by exact HBS.out)).mono ?_
      rintro x w2 ⟨rfl, hb2⟩
      have m0 := cell_later hb2 f0
      have m1 := cell_later hb2 f1
      have m2 := cell_later hb2 f2
      have m3 := cell_later hb2 f3
      have l1 := cell_later hb2 i1
      have l2 := cell_later hb2 i2
      have l3 := cell_later hb2 i3
      have l4 := cell_later hb2 i4
      have HB2 := Lib.hid (bel_then HBS.out hb2)
      clear hb2 f0 f1 f2 f3 i0 i1 i2 i3 i4
      obtain ⟨d1, hd1⟩ : ∃ d, d = codeOf (namesE T 1 [] s.calls) := ⟨_, rfl⟩
      rw [← hd1]
      by_cases hz1 : d1 = 0
      case neg =>
        have g1 : (d1 != 0) = true := by simpa using hz1
        have HX := Lib.hid (show codeOf (rruleE T r) = d1 by
          rw [HPD2.out]
          cases hq : namesE T 1 [] s.calls with
          | none => rw [hq] at hd1; exact absurd hd1 hz1
          | some c => rw [hq] at hd1; rw [hd1]; rfl)
        clear hz1 hd1
        go_wp2_with fail
        go_ret
        exact ⟨by rw [HX.out]; rfl, HB2.out⟩
      have HPD3 := Lib.hid (show rruleE T r = orE (if 60 < pz ∨ 12 < pd then some 6 else patE T s.p) (rstepsE T fr (j + 1) (r.steps.drop (j + 1))) by
        rw [HPD2.out, (codeOf_zero (fun c => namesE_ne _ _ c)).1 (hd1.symm.trans hz1)]; rfl)
      clear hd1
      subst hz1
      go_wp2_with fail
      refine (HCNT.out _ (by exact HB2.out)).mono ?_
      rintro x w3 ⟨rfl, hb3⟩
      have n0 := cell_later hb3 m0
      have n1 := cell_later hb3 m1
      have n2 := cell_later hb3 m2
      have n3 := cell_later hb3 m3
      have j1 := cell_later hb3 l1
      have j2 := cell_later hb3 l2
      have j3 := cell_later hb3 l3
      have j4 := cell_later hb3 l4
      have HB3 := Lib.hid (bel_then HB2.out hb3)
      clear hb3 m0 m1 m2 m3 l1 l2 l3 l4
      by_cases q1 : 60 < pz
      · have y2 : decide ((60 : Int) < (pz : Int)) = true := by simp; omega
        have y3 : decide (60 < pz) = true := decide_eq_true q1
        have HX := Lib.hid (show codeOf (rruleE T r) = 6 by rw [HPD3.out, if_pos (.inl q1)]; rfl)
        clear q1
        go_wp2_with fail
        go_ret
        exact ⟨by rw [HX.out]; rfl, HB3.out⟩
      have y2 : decide ((60 : Int) < (pz : Int)) = false := by simp; omega
      have y3 : decide (60 < pz) = false := decide_eq_false q1
      by_cases q2 : 12 < pd
      · have y4 : decide ((12 : Int) < (pd : Int)) = true := by simp; omega
        have y5 : decide (12 < pd) = true := decide_eq_true q2
        have HX := Lib.hid (show codeOf (rruleE T r) = 6 by rw [HPD3.out, if_pos (.inr q2)]; rfl)
        clear q1 q2
        go_wp2_with fail
        go_ret
        exact ⟨by rw [HX.out]; rfl, HB3.out⟩
      have y4 : decide ((12 : Int) < (pd : Int)) = false := by simp; omega
      have y5 : decide (12 < pd) = false := decide_eq_false q2
      have HPD4 := Lib.hid (show rruleE T r = orE (patE T s.p) (rstepsE T fr (j + 1) (r.steps.drop (j + 1))) by
        rw [HPD3.out, if_neg (by omega)])
      clear q1 q2
      go_wp2_with fail
      refine (HPAT.out _ (by exact HB3.out)).mono ?_
      rintro x w4 ⟨rfl, hb4⟩
      have l0 := cell_later hb4 n0
      have l1 := cell_later hb4 n1
      have l2 := cell_later hb4 n2
      have l3 := cell_later hb4 n3
      have HB4 := Lib.hid (bel_then HB3.out hb4)
      clear hb4 n0 n1 n2 n3 j1 j2 j3 j4
      obtain ⟨d3, hd3⟩ : ∃ d, d = codeOf (patE T s.p) := ⟨_, rfl⟩
      rw [← hd3]
      by_cases hz3 : d3 = 0
      case neg =>
        have g3 : (d3 != 0) = true := by simpa using hz3
        have HX := Lib.hid (show codeOf (rruleE T r) = d3 by
          rw [HPD4.out]
          cases hq : patE T s.p with
          | none => rw [hq] at hd3; exact absurd hd3 hz3
          | some c => rw [hq] at hd3; rw [hd3]; rfl)
        clear hz3 hd3
        go_wp2_with fail
        go_ret
        exact ⟨by rw [HX.out]; rfl, HB4.out⟩
      have HPN := Lib.hid (show rruleE T r = rstepsE T fr (j + 1) (r.steps.drop (j + 1)) by
        rw [HPD4.out, (codeOf_zero (patE_ne s.p.size s.p (Nat.le_refl _))).1 (hd3.symm.trans hz3)]; rfl)
      clear hd3
      subst hz3
      go_wp2_with fail
      go_roundg g
      case measure => omega
      case rel => exact ⟨j + 1, by omega, by simp, HPN.out, HB4.out, l0, l1, l2, l3⟩
end Go.Proofs.YtbanmggkfpnalaaGreatDoor

namespace Go.Proofs.YtbanmggkfpnalaaGreatDoor
open Go.RowKit Ru

namespace PT
theorem deps_cons (e : PT) (l : List PT) : deps (e :: l) = max e.dep (deps l) := by rw [deps]
theorem deps_nil0 : deps [] = 0 := by rw [deps]
theorem vis_both : ∀ (N : Nat) (e : PT), e.size ≤ N → ∀ n d, ((e.vis n d).1 = true ↔ n + e.size ≤ 60 ∧ e.dep + d ≤ 13) ∧ ((e.vis n d).1 = true → (e.vis n d).2 = n + e.size) := by
  intro N
  induction N with
  | zero => intro e h; have := e.size_pos; omega
  | succ N ih =>
    have all : ∀ (l : List PT) (n d : Nat), sizes l ≤ N → n ≤ 60 → d ≤ 13 → ((visL l n d).1 = true ↔ n + sizes l ≤ 60 ∧ deps l + d ≤ 13) ∧ ((visL l n d).1 = true → (visL l n d).2 = n + sizes l) := by
      intro l
      induction l with
      | nil => intro n d _ hn hd; rw [visL_nil, sizes_nil, deps_nil0]; exact ⟨⟨fun _ => ⟨by omega, by omega⟩, fun _ => rfl⟩, fun _ => rfl⟩
      | cons a l ihl =>
        intro n d hl hn hd
        rw [sizes_cons] at hl
        obtain ⟨i1, i2⟩ := ih a (by omega) n d
        rw [visL_cons, sizes_cons, deps_cons]
        by_cases h1 : (a.vis n d).1 = true
        · rw [if_pos h1, i2 h1]
          have h2 := i1.1 h1
          obtain ⟨j1, j2⟩ := ihl (n + a.size) d (by omega) h2.1 hd
          refine ⟨j1.trans ⟨fun h => ⟨by omega, by omega⟩, fun h => ⟨by omega, by omega⟩⟩, fun h => by rw [j2 h]; omega⟩
        · rw [if_neg h1]
          refine ⟨⟨fun h => (by cases h), fun h => absurd (i1.2 ⟨by omega, by omega⟩) h1⟩, fun h => by cases h⟩
    intro e hs n d
    have hz := size_sizes e
    have hp := e.size_pos
    have hdp := dep_eq e
    rw [vis_eq]
    by_cases hc : 60 < n + 1 ∨ 12 < d
    · rw [if_pos hc]
      exact ⟨⟨fun h => (by cases h), fun h => (by omega)⟩, fun h => by cases h⟩
    · rw [if_neg hc]
      obtain ⟨j1, j2⟩ := all e.parts (n + 1) (d + 1) (by omega) (by omega) (by omega)
      exact ⟨j1.trans ⟨fun h => ⟨by omega, by omega⟩, fun h => ⟨by omega, by omega⟩⟩, fun h => by rw [j2 h]; omega⟩
theorem fits_iff (e : PT) : e.fitsB = true ↔ e.size ≤ 60 ∧ e.dep ≤ 12 := by
  unfold fitsB
  have := (vis_both e.size e (Nat.le_refl _) 0 1).1
  exact this.trans ⟨fun h => ⟨by omega, by omega⟩, fun h => ⟨by omega, by omega⟩⟩
end PT
theorem rstepE_eq (T : List TK) (pos : Bool) (s : ST) : rstepE T pos s = stepE T (!pos) s := by
  have hf : (60 < s.p.size ∨ 12 < s.p.dep) ↔ s.p.fitsB = false := by
    have := PT.fits_iff s.p
    cases hb : s.p.fitsB with
    | true => rw [hb] at this; have := this.1 rfl; exact ⟨fun h => by omega, fun h => by cases h⟩
    | false =>
      rw [hb] at this
      exact ⟨fun _ => rfl, fun _ => Classical.byContradiction fun h => by cases this.2 ⟨by omega, by omega⟩⟩
  unfold rstepE stepE
  have hc : (decide (0 < s.calls.length) ≠ pos) ↔ (decide (s.calls.length = 0) == !pos) = false := by
    rcases Nat.eq_zero_or_pos s.calls.length with h | h
    · rw [h]; cases pos <;> decide
    · have h0 : ¬ s.calls.length = 0 := by omega
      rw [decide_eq_true h, decide_eq_false h0]; cases pos <;> decide
  by_cases h1 : decide (0 < s.calls.length) ≠ pos
  · rw [if_pos h1, if_pos (hc.1 h1)]
  · rw [if_neg h1, if_neg (fun h => h1 (hc.2 h))]
    by_cases h2 : 60 < s.p.size ∨ 12 < s.p.dep
    · rw [if_pos h2, if_pos (hf.1 h2)]
    · rw [if_neg h2, if_neg (fun h => h2 (hf.2 h))]
theorem rstepsE_eq (T : List TK) (free : Bool) : ∀ (l : List ST) (i : Nat), rstepsE T free i l = stepsE T free i l := by
  intro l
  induction l with
  | nil => intro i; rfl
  | cons s l ih =>
    intro i
    rw [rstepsE_cons, stepsE_cons, ih, rstepE_eq]
    congr 2
    rcases Nat.eq_zero_or_pos i with h | h
    · rw [h]; simp
    · have h0 : ¬ i = 0 := by omega
      rw [decide_eq_true h, decide_eq_false h0]; simp
theorem rruleE_eq (T : List TK) (r : RU) : rruleE T r = ruleE T r := by unfold rruleE ruleE; rw [rstepsE_eq]
end Go.Proofs.YtbanmggkfpnalaaGreatDoor
