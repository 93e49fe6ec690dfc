/- The document's grammars: goboref11.pat. -/
import Derived.Test.YtkmnigoikkffnaaGSame
import Derived.Test.YtkmnigoikkffnaaPtCount
import Derived.Test.YtkmnigoikkffnaaGRefG
import Derived.Deep.DeepCutAuto
import Derived.Deep.CutBlock
import Derived.Deep.RegionHeld3
set_option linter.unusedVariables false
set_option linter.unusedSimpArgs false
namespace Go.Proofs.Ytkmnigoikkffnaa
open Go.RowKit Ru

def RPatIh (T : List TK) (w0 : World) (tv rv : Value) (N : Nat) : Prop := ∀ (e : PT) (nv ev lv : Value) (w : World), e.size ≤ N → e.Fit → PtIs w0 e nv ev lv → Below w0.heap.size w0 w →
  Calls Try.prog 64 #[.agg #[tv, rv], .agg #[.int .i64 e.kind, nv, ev, lv]] w fun x w' => x = .returned (.int .i64 (codeOf (patE T e))) ∧ Below w.heap.size w w'
set_option maxHeartbeats 8000000 in
set_option maxRecDepth 100000 in
theorem rpat_all (T : List TK) (w0 : World) (tv rv : Value) (hT : TksAre w0 tv T) (hTl : T.length ≤ 1000) (hrv : ∃ o n c, rv = .slice o n c) : ∀ N, RPatIh T w0 tv rv N := by
  intro N
  induction N with
  | zero => intro e nv ev lv w hs; have := e.size_pos; omega
  | succ N ih =>
    intro e nv ev lv w hs hf hr hb0
    obtain ⟨⟨o1, q1, rfl⟩, ⟨o3, q3, rfl⟩, -⟩ := hr.form
    obtain ⟨o2, q2, c1, c3, c2, rfl, hall⟩ := hr.all
    obtain ⟨ot, ct, nmx, kdx, clx, rkx, sox, snx, scx, lox, lnx, lcx, htv, -⟩ := hT.all
    obtain ⟨o9, n9, c9, hrv'⟩ := hrv
    have hm1 := hf.lens
    have HALL := Lib.hid hall
    have hin : ∀ (i : Nat) (p : PT) (w' : World), e.parts[i]? = some p → Below w.heap.size w w' → Calls Try.prog 64 #[.agg #[tv, rv], .agg #[.int .i64 p.kind, c1 i, c3 i, c2 i]] w' fun x w'' => x = .returned (.int .i64 (codeOf (patE T p))) ∧ Below w'.heap.size w' w'' := by
      intro i p w' hp hb
      exact ih p _ _ _ w' (by have := PT.size_part hp; omega) (hf.part hp) (hall i p hp).1 (bel_then hb0 hb)
    have hnam := fun (kk : Int) (w' : World) (hb : Below w.heap.size w w') => refNames_any T tv rv (.slice o1 e.names.length q1) e.names kk w' (hT.moved (bel_then hb0 hb)) hTl ⟨_, _, _, hrv'⟩ (hr.names.below (bel_then hb0 hb)) (by omega)
    have hend := fun (kk : Int) (w' : World) (hb : Below w.heap.size w w') => refNames_any T tv rv (.slice o3 e.ends.length q3) e.ends kk w' (hT.moved (bel_then hb0 hb)) hTl ⟨_, _, _, hrv'⟩ (hr.ends.below (bel_then hb0 hb)) (by omega)
    subst htv hrv'
    obtain ⟨tn, htn⟩ : ∃ x, x = T.length := ⟨_, rfl⟩
    obtain ⟨en, hen⟩ : ∃ x, x = e.names.length := ⟨_, rfl⟩
    obtain ⟨ee, hee⟩ : ∃ x, x = e.ends.length := ⟨_, rfl⟩
    obtain ⟨n, hn⟩ : ∃ x, x = e.parts.length := ⟨_, rfl⟩
    rw [← htn] at hin hnam hend
    rw [← hen] at hnam
    rw [← hee] at hend
    rw [← htn, ← hen, ← hee, ← hn]
    have HIN := Lib.hid hin
    have HNA := Lib.hid hnam
    have HEN := Lib.hid hend
    have HB0 := Lib.hid hb0
    have HS := Lib.hid (show e.shp = true ↔ kOk e.kind ∧ n = kN e.kind ∧ (0 < en ↔ 0 < kA e.kind) ∧ (0 < ee ↔ 0 < kB e.kind) by rw [hn, hen, hee]; exact shp_iff e)
    have HL := Lib.hid hn
    have hn9 : n ≤ 1000 := by omega
    clear hall hin hnam hend hr hb0 ih htn hen hee hn hT hTl hf hm1 nmx kdx clx rkx sox snx scx lox lnx lcx
    obtain ⟨k, hk⟩ : ∃ k, k = e.kind := ⟨_, rfl⟩
    rw [← hk] at HS ⊢
    have HK := Lib.hid hk
    clear hk
    have hB1 : ∀ (x y : Obj), Below w.heap.size w ((w.alloc x).alloc y) := fun x y => bel_new (bel_new (Below.refl _ _) _) _
    go_enter Try.func64, Try.ntmps64
    go_upto_block 0 with (fail)
    obtain ⟨wB, hwB⟩ : ∃ wB, wB = (w.alloc (.cells #[.slice ot tn ct, .slice o9 n9 c9] 25)).alloc (.cells #[.int .i64 k, .slice o1 en q1, .slice o3 ee q3, .slice o2 n q2] 43) := ⟨_, rfl⟩
    rw [← hwB]
    have HWB := Lib.hid (show Below w.heap.size w wB ∧ wB.cell? ⟨w.heap.size, 0, none⟩ = some (.slice ot tn ct) ∧ wB.cell? ⟨w.heap.size, 1, none⟩ = some (.slice o9 n9 c9) ∧ wB.cell? ⟨w.heap.size + 1, 0, none⟩ = some (.int .i64 k) ∧ wB.cell? ⟨w.heap.size + 1, 1, none⟩ = some (.slice o1 en q1) ∧ wB.cell? ⟨w.heap.size + 1, 2, none⟩ = some (.slice o3 ee q3) ∧ wB.cell? ⟨w.heap.size + 1, 3, none⟩ = some (.slice o2 n q2) by
      rw [hwB]; exact ⟨hB1 _ _, by simp [go_sem], by simp [go_sem], by simp [go_sem], by simp [go_sem], by simp [go_sem], by simp [go_sem]⟩)
    clear hwB hB1
    go_cut [5, 6, 7] (fun s5 s6 s7 wx => kOk k ∧ s5 = .int .i64 (kN k : Nat) ∧ s6 = .int .i64 (kA k : Nat) ∧ s7 = .int .i64 (kB k : Nat) ∧ wx = wB)
    case first =>
      by_cases h1 : k = 1
      · subst h1
        go_wp2_with fail
        go_meet
        case rel => exact ⟨by unfold kOk; decide, rfl, rfl, rfl, rfl⟩
      have b1 : (k == 1) = false := by simpa using h1
      by_cases h2 : k = 2
      · subst h2
        go_wp2_with fail
        go_meet
        case rel => exact ⟨by unfold kOk; decide, rfl, rfl, rfl, rfl⟩
      have b2 : (k == 2) = false := by simpa using h2
      by_cases h3 : k = 3
      · subst h3
        go_wp2_with fail
        go_meet
        case rel => exact ⟨by unfold kOk; decide, rfl, rfl, rfl, rfl⟩
      have b3 : (k == 3) = false := by simpa using h3
      by_cases h4 : k = 4
      · subst h4
        go_wp2_with fail
        go_meet
        case rel => exact ⟨by unfold kOk; decide, rfl, rfl, rfl, rfl⟩
      have b4 : (k == 4) = false := by simpa using h4
      by_cases h5 : k = 5
      · subst h5
        go_wp2_with fail
        go_meet
        case rel => exact ⟨by unfold kOk; decide, rfl, rfl, rfl, rfl⟩
      have b5 : (k == 5) = false := by simpa using h5
      by_cases h6 : k = 6
      · subst h6
        go_wp2_with fail
        go_meet
        case rel => exact ⟨by unfold kOk; decide, rfl, rfl, rfl, rfl⟩
      have b6 : (k == 6) = false := by simpa using h6
      by_cases h7 : k = 7
      · subst h7
        go_wp2_with fail
        go_meet
        case rel => exact ⟨by unfold kOk; decide, rfl, rfl, rfl, rfl⟩
      have b7 : (k == 7) = false := by simpa using h7
      have HX := Lib.hid (show codeOf (patE T e) = 5 by
        rw [patE_eq, if_pos (by
          cases hsh : e.shp with
          | false => rfl
          | true => exact absurd (HS.out.1 hsh).1 (by unfold kOk; omega))]; rfl)
      go_wp2_with fail
      go_ret
      exact ⟨by rw [HX.out]; rfl, HWB.out.1⟩
    case rest =>
      obtain ⟨hok, rfl, rfl, rfl, hwx⟩ := hcut
      obtain rfl : wB = wc := hwx.symm
      obtain ⟨m, hm⟩ : ∃ m, m = kN k := ⟨_, rfl⟩
      obtain ⟨a, ha⟩ : ∃ a, a = kA k := ⟨_, rfl⟩
      obtain ⟨b, hb⟩ : ∃ b, b = kB k := ⟨_, rfl⟩
      rw [← hm, ← ha, ← hb] at HS ⊢
      have HSH := Lib.hid (show e.shp = true ↔ n = m ∧ (0 < en ↔ 0 < a) ∧ (0 < ee ↔ 0 < b) from ⟨fun h => (HS.out.1 h).2, fun h => HS.out.2 ⟨hok, h⟩⟩)
      obtain ⟨w0', w1', w2', w3', w4', w5'⟩ := HWB.out.2
      obtain ⟨pa, hpa⟩ : ∃ x, x = decide (0 < en) := ⟨_, rfl⟩
      obtain ⟨qa, hqa⟩ : ∃ x, x = decide (0 < a) := ⟨_, rfl⟩
      obtain ⟨pb, hpb⟩ : ∃ x, x = decide (0 < ee) := ⟨_, rfl⟩
      obtain ⟨qb, hqb⟩ : ∃ x, x = decide (0 < b) := ⟨_, rfl⟩
      have ea1 : decide ((0 : Int) < (en : Int)) = pa := by rw [hpa]; simp
      have ea2 : decide (0 < en) = pa := hpa.symm
      have eb1 : decide ((0 : Int) < (a : Int)) = qa := by rw [hqa]; simp
      have eb2 : decide (0 < a) = qa := hqa.symm
      have ec1 : decide ((0 : Int) < (ee : Int)) = pb := by rw [hpb]; simp
      have ec2 : decide (0 < ee) = pb := hpb.symm
      have ed1 : decide ((0 : Int) < (b : Int)) = qb := by rw [hqb]; simp
      have ed2 : decide (0 < b) = qb := hqb.symm
      have HPA := Lib.hid (And.intro hpa (And.intro hqa (And.intro hpb hqb)))
      have HM := Lib.hid hm
      clear hpa hqa hpb hqb hm ha hb
      by_cases z1 : n = m
      case neg =>
        have y1 : ((n : Int) != (m : Int)) = true := by simp; omega
        have y2 : (n != m) = true := by simpa using z1
        have HX := Lib.hid (show codeOf (patE T e) = 5 by
          rw [patE_eq, if_pos (by
            cases hsh : e.shp with
            | false => rfl
            | true => exact absurd (HSH.out.1 hsh).1 z1)]; rfl)
        clear z1
        go_wp2_with fail
        go_ret
        exact ⟨by rw [HX.out]; rfl, HWB.out.1⟩
      have y1 : ((n : Int) != (m : Int)) = false := by simp; omega
      have y2 : (n != m) = false := by simpa using z1
      by_cases z2 : pa = qa
      case neg =>
        have y3 : (pa != qa) = true := by simpa using z2
        have HX := Lib.hid (show codeOf (patE T e) = 5 by
          rw [patE_eq, if_pos (by
            cases hsh : e.shp with
            | false => rfl
            | true => exact absurd (by rw [HPA.out.1, HPA.out.2.1]; exact decide_eq_decide.2 (HSH.out.1 hsh).2.1) z2)]; rfl)
        clear z1 y3 HPA HSH HS
        cases pa <;> cases qa <;> first
          | exact absurd rfl z2
          | (clear z2
             go_wp2_with fail
             go_ret
             exact ⟨by rw [HX.out]; rfl, HWB.out.1⟩)
      have y3 : (pa != qa) = false := by simpa using z2
      by_cases z3 : pb = qb
      case neg =>
        have y4 : (pb != qb) = true := by simpa using z3
        have HX := Lib.hid (show codeOf (patE T e) = 5 by
          rw [patE_eq, if_pos (by
            cases hsh : e.shp with
            | false => rfl
            | true => exact absurd (by rw [HPA.out.2.2.1, HPA.out.2.2.2]; exact decide_eq_decide.2 (HSH.out.1 hsh).2.2) z3)]; rfl)
        clear z1 y4 HPA HSH HS
        subst z2
        cases pa <;> cases pb <;> cases qb <;> first
          | exact absurd rfl z3
          | (clear z3 y3
             go_wp2_with fail
             go_ret
             exact ⟨by rw [HX.out]; rfl, HWB.out.1⟩)
      have y4 : (pb != qb) = false := by simpa using z3
      have HOK := Lib.hid (show e.shp = true from HSH.out.2 ⟨z1, by rw [HPA.out.1, HPA.out.2.1] at z2; exact decide_eq_decide.1 z2, by rw [HPA.out.2.2.1, HPA.out.2.2.2] at z3; exact decide_eq_decide.1 z3⟩)
      have HNM := Lib.hid z1
      obtain ⟨kk, hkk⟩ : ∃ kk : Int, kk = if k = 3 then 1 else 0 := ⟨_, rfl⟩
      have HPE := Lib.hid (show patE T e = orE (orE (namesE T kk [] e.names) (namesE T 2 [] e.ends)) (patEL T e.parts) by
        rw [patE_eq, if_neg (by rw [HOK.out]; simp), nodeE_eq HOK.out, hkk, ← HK.out])
      clear z1 y3 y4
      subst z2 z3
      go_upto_if 52 with (fail)
      have HKK := Lib.hid hkk
      clear hkk
      go_cut [8] (fun s8 wx => s8 = .int .i64 kk ∧ wx = wB)
      case first =>
        by_cases h3 : k = 3
        · have b3 : (k == 3) = true := by simpa using h3
          have HZ := Lib.hid (show (1 : Int) = kk by rw [HKK.out, if_pos h3])
          clear h3
          go_wp2_with fail
          go_meet
          case rel => exact ⟨by rw [HZ.out], rfl⟩
        · have b3 : (k == 3) = false := by simpa using h3
          have HZ := Lib.hid (show (0 : Int) = kk by rw [HKK.out, if_neg h3])
          clear h3
          go_wp2_with fail
          go_meet
          case rel => exact ⟨by rw [HZ.out], rfl⟩
      case rest =>
        obtain ⟨rfl, hwy⟩ := hcut
        obtain rfl : wB = wc := hwy.symm
        go_wp2_with fail
        refine (HNA.out kk _ (by exact HWB.out.1)).mono ?_
        rintro x w2 ⟨rfl, hb2⟩
        have m0 := cell_later hb2 w0'
        have m1 := cell_later hb2 w1'
        have m2 := cell_later hb2 w4'
        have m3 := cell_later hb2 w5'
        have HB2 := Lib.hid (bel_then HWB.out.1 hb2)
        clear hb2 w0' w1' w2' w3' w4' w5'
        obtain ⟨d1, hd1⟩ : ∃ d, d = codeOf (namesE T kk [] e.names) := ⟨_, rfl⟩
        rw [← hd1]
        by_cases hz1 : d1 = 0
        case neg =>
          have g1 : (d1 != 0) = true := by simpa using hz1
          have HX := Lib.hid (show codeOf (patE T e) = d1 by
            rw [HPE.out]
            cases hq : namesE T kk [] e.names with
            | none => rw [hq] at hd1; exact absurd hd1 hz1
            | some c => rw [hq] at hd1; rw [hd1]; rfl)
          clear hz1 hd1
          go_wp2_with fail
          go_ret
          exact ⟨by rw [HX.out]; rfl, HB2.out⟩
        have g1 : (d1 != 0) = false := by simpa using hz1
        have HPE1 := Lib.hid (show patE T e = orE (namesE T 2 [] e.ends) (patEL T e.parts) by
          rw [HPE.out, (codeOf_zero (fun c => namesE_ne _ _ c)).1 (hd1.symm.trans hz1)]; rfl)
        clear hd1
        subst hz1
        go_wp2_with fail
        refine (HEN.out 2 _ (by exact HB2.out)).mono ?_
        rintro x w3 ⟨rfl, hb3⟩
        have n0 := cell_later hb3 m0
        have n1 := cell_later hb3 m1
        have n3 := cell_later hb3 m3
        have HB3 := Lib.hid (bel_then HB2.out hb3)
        clear hb3 m0 m1 m2 m3
        obtain ⟨d2, hd2⟩ : ∃ d, d = codeOf (namesE T 2 [] e.ends) := ⟨_, rfl⟩
        rw [← hd2]
        by_cases hz2 : d2 = 0
        case neg =>
          have g2 : (d2 != 0) = true := by simpa using hz2
          have HX := Lib.hid (show codeOf (patE T e) = d2 by
            rw [HPE1.out]
            cases hq : namesE T 2 [] e.ends with
            | none => rw [hq] at hd2; exact absurd hd2 hz2
            | some c => rw [hq] at hd2; rw [hd2]; rfl)
          clear hz2 hd2
          go_wp2_with fail
          go_ret
          exact ⟨by rw [HX.out]; rfl, HB3.out⟩
        have g2 : (d2 != 0) = false := by simpa using hz2
        have HPE2 := Lib.hid (show patE T e = patEL T e.parts by
          rw [HPE1.out, (codeOf_zero (fun c => namesE_ne _ _ c)).1 (hd2.symm.trans hz2)]; rfl)
        clear hd2
        subst hz2
        obtain rfl : n = m := HNM.out
        go_wp2_with fail
        go_loopg [11] n (fun g s11 wx => ∃ j : Nat, j + g = n ∧ s11 = .int .i64 (j : Int) ∧ patE T e = patEL T (e.parts.drop j) ∧ Below w.heap.size w wx ∧ wx.cell? ⟨w.heap.size, 0, none⟩ = some (.slice ot tn ct) ∧ wx.cell? ⟨w.heap.size, 1, none⟩ = some (.slice o9 n9 c9) ∧ wx.cell? ⟨w.heap.size + 1, 3, none⟩ = some (.slice o2 n q2))
        case atStart => exact ⟨0, by omega, rfl, by rw [List.drop_zero]; exact HPE2.out, HB3.out, n0, n1, n3⟩
        case round =>
          obtain ⟨j, hjg, rfl, hpe, hbel, e0, e1, e2⟩ := hrel
          have HBE := Lib.hid hbel
          have HPJ := Lib.hid hpe
          clear hpe n0 n1 n3
          cases gk with
          | zero =>
            obtain rfl : j = n := by omega
            have hx1 : decide ((j : Int) < (j : Int)) = false := by simp
            have hx2 : decide (j < j) = false := by simp
            have HD := Lib.hid (show codeOf (patE T e) = 0 by rw [HPJ.out, List.drop_of_length_le (by have := HL.out; omega), patEL_nil]; rfl)
            clear hbel
            go_wp2_with fail
            go_ret
            exact ⟨by rw [HD.out]; rfl, HBE.out⟩
          | succ g =>
            have hk : j < n := by omega
            have hx1 : decide ((j : Int) < (n : Int)) = true := by simp; omega
            have hx2 : decide (j < n) = true := by simpa using hk
            have hk1 : (0 : Int) ≤ (j : Int) := by omega
            have hk2 : (j : Int) < (n : Int) := by omega
            obtain ⟨p, hp⟩ : ∃ p, e.parts[j]? = some p := ⟨_, List.getElem?_eq_getElem (by have := HL.out; omega)⟩
            obtain ⟨-, b0, off, rfl, hbl, k0, k1, k3, k2⟩ := HALL.out j p hp
            have hbb := bel_then HB0.out hbel
            rw [← hbb.cell hbl] at k0 k1 k3 k2
            have hcal := fun w' hb' => HIN.out j p w' hp hb'
            obtain ⟨x1, hx1'⟩ : ∃ x, x = c1 j := ⟨_, rfl⟩
            obtain ⟨x3, hx3'⟩ : ∃ x, x = c3 j := ⟨_, rfl⟩
            obtain ⟨x2, hx2'⟩ : ∃ x, x = c2 j := ⟨_, rfl⟩
            rw [← hx1', ← hx2', ← hx3'] at hcal
            rw [← hx1'] at k1
            rw [← hx3'] at k3
            rw [← hx2'] at k2
            have HCAL := Lib.hid hcal
            have HPD := Lib.hid (show patE T e = orE (patE T p) (patEL T (e.parts.drop (j + 1))) by rw [HPJ.out, drop_at hp, patEL_cons])
            clear hcal hp hbb hx1' hx2' hx3' hbl hbel
            obtain ⟨d3, hd3⟩ : ∃ d, d = codeOf (patE T p) := ⟨_, rfl⟩
            go_upto_region 29 with (fail)
            go_cut [12] from 73 to 79 (fun s12 wx => s12 = .int .i64 d3 ∧ Below wr.heap.size wr wx)
            case first =>
              go_region_held3 (fun w' => w'.cell? ⟨w.heap.size, 0, none⟩ = some (.slice ot tn ct) ∧ w'.cell? ⟨w.heap.size, 1, none⟩ = some (.slice o9 n9 c9) ∧ w'.cell? ⟨w.heap.size + 1, 3, none⟩ = some (.slice (some ⟨b0, off, none⟩) n q2) ∧ w'.cell? ⟨b0, off + j * 4, none⟩ = some (.int .i64 p.kind) ∧ w'.cell? ⟨b0, off + j * 4 + 1, none⟩ = some x1 ∧ w'.cell? ⟨b0, off + j * 4 + 2, none⟩ = some x3 ∧ w'.cell? ⟨b0, off + j * 4 + 3, none⟩ = some x2)
                (first | exact ⟨e0, e1, e2, k0, k1, k3, k2⟩ | exact ⟨cell_later hB4 e0, cell_later hB4 e1, cell_later hB4 e2, cell_later hB4 k0, cell_later hB4 k1, cell_later hB4 k3, cell_later hB4 k2⟩)
                (first
                  | (go_simp; go_at_call 64; refine (HCAL.out _ (HBE.out.drew)).mono ?_; rintro e w4 ⟨rfl, hb4⟩; have hB4 : Below wr.heap.size wr w4 := Below.trans (Below.refl _ _).drew hb4; clear hb4))
              all_goals (go_wp2_with fail)
              all_goals go_meet
              all_goals (exact ⟨by rw [hd3], hB4⟩)
            case rest =>
            obtain ⟨rfl, hb4⟩ := hcut
            have l0 := cell_later hb4 e0
            have l1 := cell_later hb4 e1
            have l2 := cell_later hb4 e2
            have HB4 := Lib.hid (bel_then HBE.out hb4)
            clear hb4 e0 e1 e2 k0 k1 k2 k3
            by_cases hz3 : d3 = 0
            case neg =>
              have g3 : (d3 != 0) = true := by simpa using hz3
              have HX := Lib.hid (show codeOf (patE T e) = d3 by
                rw [HPD.out]
                cases hq : patE T p with
                | none => rw [hq] at hd3; exact absurd hd3 hz3
                | some c => rw [hq] at hd3; rw [hd3]; rfl)
              clear hz3 hd3
              go_wp2_with fail
              go_ret
              exact ⟨by rw [HX.out]; rfl, HB4.out⟩
            have g3 : (d3 != 0) = false := by simpa using hz3
            have HPN := Lib.hid (show patE T e = patEL T (e.parts.drop (j + 1)) by
              rw [HPD.out, (codeOf_zero (patE_ne p.size p (Nat.le_refl _))).1 (hd3.symm.trans hz3)]; rfl)
            clear hd3
            subst hz3
            go_wp2_with fail
            go_roundg g
            case measure => omega
            case rel => exact ⟨j + 1, by omega, by simp, HPN.out, HB4.out, l0, l1, l2⟩
end Go.Proofs.Ytkmnigoikkffnaa
