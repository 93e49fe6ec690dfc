/- The document's patterns: goboref11.texts, SamePat, Empty, CountPat. -/
import Derived.Test.YtkmnigoikkffnaaPtCount
import Derived.Test.YtkmnigoikkffnaaPtEmpty
import Derived.Test.YtkmnigoikkffnaaPtSame
import Derived.Deep.RegionHeld3
import Derived.Deep.DeepCutAuto
set_option linter.unusedVariables false
set_option linter.unusedSimpArgs false
namespace Go.Proofs.Ytkmnigoikkffnaa
open Go.RowKit Ru

set_option maxHeartbeats 4000000 in
set_option maxRecDepth 1000000 in
theorem refTexts_any (a b : List ByteArray) (va vb : Value) (w : World) (ha : Row w va a.length (strs a)) (hb : Row w vb b.length (strs b)) (hna : a.length ≤ 1000000) (hnb : b.length ≤ 1000000) :
    Calls Try.prog 44 #[va, vb] w fun e w' => e = .returned (.bool (decide (a = b))) ∧ Below w.heap.size w w' := by
  have ha' := ha
  have hb' := hb
  obtain ⟨oa, ca, rfl, _⟩ := ha'
  obtain ⟨ob, cb, rfl, _⟩ := hb'
  have Ha := Lib.hid ha
  have Hb := Lib.hid hb
  clear ha hb
  by_cases hl : a.length = b.length
  · have Hl := Lib.hid hl
    have hl1 : ((a.length : Int) != (b.length : Int)) = false := by simp [hl]
    go_enter Try.func44, Try.ntmps44
    obtain ⟨n, hn⟩ : ∃ n, n = a.length := ⟨_, rfl⟩
    have hn2 : n = b.length := by omega
    rw [← hn, ← hn2]
    have Hn := Lib.hid (And.intro hn hn2)
    have hnn : n ≤ 1000000 := by omega
    clear hl hl1 hn hn2 hna hnb
    go_wp2_with fail
    go_loopg [5] n (fun g i wr => ∃ k : Nat, k + g = n ∧ i = .int .i64 k ∧ Below w.heap.size w wr ∧ ∀ j x y, j < k → a[j]? = some x → b[j]? = some y → x = y)
    case atStart => exact ⟨0, by omega, rfl, Below.refl _ _, fun j x y hj => by omega⟩
    case round =>
      obtain ⟨k, hkg, rfl, hbel, hall⟩ := hrel
      obtain ⟨wo, rfl⟩ : ∃ wo : World, wo = wr := ⟨_, rfl⟩
      have HA := Lib.hid (And.intro hbel hall)
      clear hall
      cases gk with
      | zero =>
        obtain rfl : k = n := by omega
        have hd : decide ((k : Int) < (k : Int)) = false := by simp
        clear hbel
        go_wp2
        go_ret
        refine ⟨ret_bool ?_, HA.out.1⟩
        have : a = b := List.ext_getElem Hl.out (fun i h1 h2 => HA.out.2 i _ _ (by have := Hn.out.1; omega) (List.getElem?_eq_getElem h1) (List.getElem?_eq_getElem h2))
        simp [this]
      | succ g =>
        have hk : k < n := by omega
        have hd : decide ((k : Int) < (n : Int)) = true := by simp; omega
        have hk1 : (0 : Int) ≤ (k : Int) := by omega
        have hk2 : (k : Int) < (n : Int) := by omega
        have hk9 : (k : Int) ≤ 1000000 := by omega
        obtain ⟨x, hx⟩ : ∃ x, a[k]? = some x := ⟨_, List.getElem?_eq_getElem (by have := Hn.out.1; omega)⟩
        obtain ⟨y, hy⟩ : ∃ y, b[k]? = some y := ⟨_, List.getElem?_eq_getElem (by have := Hn.out.2; omega)⟩
        obtain ⟨b1, f1, p1, e, hlta, hca⟩ := Ha.out.cells' (by have := Hn.out.1; omega)
        simp only [Value.slice.injEq, true_and] at e
        obtain ⟨rfl, rfl⟩ := e
        obtain ⟨b2, f2, p2, e, hltb, hcb⟩ := Hb.out.cells' (by have := Hn.out.2; omega)
        simp only [Value.slice.injEq, true_and] at e
        obtain ⟨rfl, rfl⟩ := e
        have c1 := hca k _ (strs_get hx)
        have d1 := hcb k _ (strs_get hy)
        rw [← hbel.cell hlta] at c1
        rw [← hbel.cell hltb] at d1
        have HXY := Lib.hid (And.intro hx hy)
        clear hx hy hca hcb hbel
        by_cases hxy : x = y
        · subst hxy
          go_wp2_with fail
          go_quiet (fail)
          go_wp2
          go_roundg g
          case measure => omega
          case rel =>
            refine ⟨k + 1, by omega, by go_num, by have := HA.out.1; repeat (first | exact Below.refl _ _ | assumption | (refine Below.drew ?_) | (refine below_drewN ?_ _)), fun j x' y' hj hx' hy' => ?_⟩
            rcases Nat.lt_or_ge j k with h | h
            · exact HA.out.2 j x' y' h hx' hy'
            · obtain rfl : j = k := by omega
              rw [HXY.out.1] at hx'; rw [HXY.out.2] at hy'; cases hx'; cases hy'; rfl
        · have hne : (x.toList == y.toList) = false := bytes_ne hxy
          go_wp2_with fail
          go_quiet (fail)
          go_wp2
          go_ret
          refine ⟨ret_bool ?_, by have := HA.out.1; repeat (first | exact Below.refl _ _ | assumption | (refine Below.drew ?_) | (refine below_drewN ?_ _))⟩
          have := strs_ne HXY.out.1 HXY.out.2 hxy
          simp [this]
  · have hl1 : ((a.length : Int) != (b.length : Int)) = true := by simp; omega
    have Hl := Lib.hid hl
    clear hl
    go_enter Try.func44, Try.ntmps44
    go_wp2
    go_ret
    exact ⟨ret_bool (by have : a ≠ b := fun e => Hl.out (by rw [e])
                        simp [this]), Below.refl _ _⟩
def RSameIh (w0 : World) (N : Nat) : Prop := ∀ (a b : PT) (na ea la nb eb lb : Value) (w : World), a.size ≤ N → a.Fit → b.Fit → PtIs w0 a na ea la → PtIs w0 b nb eb lb → Below w0.heap.size w0 w →
  Calls Try.prog 24 #[.agg #[.int .i64 a.kind, na, ea, la], .agg #[.int .i64 b.kind, nb, eb, lb]] w fun x w' => x = .returned (.bool (a.same b)) ∧ Below w.heap.size w w'
set_option maxHeartbeats 8000000 in
set_option maxRecDepth 100000 in
theorem rsame_all (w0 : World) : ∀ N, RSameIh w0 N := by
  intro N
  induction N with
  | zero => intro a b na ea la nb eb lb w hs; have := a.size_pos; omega
  | succ N ih =>
    intro a b na ea la nb eb lb w hs hfa hfb hra hrb hb0
    obtain ⟨⟨o1, q1, rfl⟩, ⟨o3, q3, rfl⟩, -⟩ := hra.form
    obtain ⟨⟨o2, q2, rfl⟩, ⟨o4, q4, rfl⟩, -⟩ := hrb.form
    obtain ⟨p1, r1, ka, nao, nan, nac, eao, ean, eac, lao, lan, lac, rfl, halla⟩ := hra.row4
    obtain ⟨p2, r2, kb, nbo, nbn, nbc, ebo, ebn, ebc, lbo, lbn, lbc, rfl, hallb⟩ := hrb.row4
    have m1 := hfa.lens
    have m2 := hfb.lens
    have hnam := fun w' (hb : Below w.heap.size w w') => refTexts_any a.names b.names (.slice o1 a.names.length q1) (.slice o2 b.names.length q2) w' (hra.names.below (bel_then hb0 hb)) (hrb.names.below (bel_then hb0 hb)) (by omega) (by omega)
    have hend := fun w' (hb : Below w.heap.size w w') => refTexts_any a.ends b.ends (.slice o3 a.ends.length q3) (.slice o4 b.ends.length q4) w' (hra.ends.below (bel_then hb0 hb)) (hrb.ends.below (bel_then hb0 hb)) (by omega) (by omega)
    have hin : ∀ (i : Nat) (x y : PT) (w' : World), a.parts[i]? = some x → b.parts[i]? = some y → Below w.heap.size w w' → Calls Try.prog 24 #[.agg #[.int .i64 (ka i), .slice (nao i) (nan i) (nac i), .slice (eao i) (ean i) (eac i), .slice (lao i) (lan i) (lac i)], .agg #[.int .i64 (kb i), .slice (nbo i) (nbn i) (nbc i), .slice (ebo i) (ebn i) (ebc i), .slice (lbo i) (lbn i) (lbc i)]] w' fun e w'' => e = .returned (.bool (x.same y)) ∧ Below w'.heap.size w' w'' := by
      intro i x y w' hx hy hb
      obtain ⟨h1, h2, -⟩ := halla i x hx
      obtain ⟨h3, h4, -⟩ := hallb i y hy
      rw [h1, h3]
      exact ih _ _ _ _ _ _ _ _ w' (by have := PT.size_part hx; omega) (hfa.part hx) (hfb.part hy) h2 h4 (bel_then hb0 hb)
    have HN := Lib.hid hnam
    have HN2 := Lib.hid hend
    have HIN := Lib.hid hin
    have HA := Lib.hid halla
    have HB := Lib.hid hallb
    have HB0 := Lib.hid hb0
    have HE := Lib.hid (PT.same_eq a b)
    clear hnam hend hin halla hallb hra hrb hb0 ih
    have hB1 : ∀ (x y : Obj), Below w.heap.size w ((w.alloc x).alloc y) := fun x y => bel_new (bel_new (Below.refl _ _) _) _
    by_cases k1 : a.kind = b.kind
    case neg =>
      have b1 : (a.kind != b.kind) = true := by simpa using k1
      have HX := Lib.hid (show a.same b = false by rw [HE.out, decide_eq_false k1]; rfl)
      clear k1
      go_enter Try.func24, Try.ntmps24
      go_wp2_with fail
      go_ret
      exact ⟨by rw [HX.out]; rfl, hB1 _ _⟩
    have b1 : (a.kind != b.kind) = false := by simpa using k1
    have HK := Lib.hid k1
    clear k1
    by_cases k2 : a.parts.length = b.parts.length
    case neg =>
      have l1 : ((a.parts.length : Int) != (b.parts.length : Int)) = true := by simp; omega
      have l2 : (a.parts.length != b.parts.length) = true := by simpa using k2
      have HX := Lib.hid (show a.same b = false by rw [HE.out, decide_eq_false k2]; simp)
      clear k2
      go_enter Try.func24, Try.ntmps24
      go_wp2_with fail
      go_ret
      exact ⟨by rw [HX.out]; rfl, hB1 _ _⟩
    obtain ⟨n, hn⟩ : ∃ n, n = a.parts.length := ⟨_, rfl⟩
    have hn2 : n = b.parts.length := by omega
    have HLN := Lib.hid (And.intro hn (And.intro hn2 k2))
    have hn9 : n ≤ 1000 := by omega
    rw [← hn, ← hn2]
    clear k2 hn hn2
    have l1 : ((n : Int) != (n : Int)) = false := by simp
    have l2 : (n != n) = false := by simp
    go_enter Try.func24, Try.ntmps24
    go_wp2_with fail
    refine (HN.out _ (by exact hB1 _ _)).mono ?_
    rintro x w2 ⟨rfl, hb2'⟩
    have c2 : w2.cell? ⟨w.heap.size, 2, none⟩ = some (.slice o3 a.ends.length q3) := cell_later hb2' (by simp [go_sem])
    have c3 : w2.cell? ⟨w.heap.size + 1, 2, none⟩ = some (.slice o4 b.ends.length q4) := cell_later hb2' (by simp [go_sem])
    have d2 : w2.cell? ⟨w.heap.size, 3, none⟩ = some (.slice p1 n r1) := cell_later hb2' (by simp [go_sem])
    have d3 : w2.cell? ⟨w.heap.size + 1, 3, none⟩ = some (.slice p2 n r2) := cell_later hb2' (by simp [go_sem])
    have hb2 : Below w.heap.size w w2 := bel_then (hB1 _ _) hb2'
    clear hb2'
    have HB2 := Lib.hid hb2
    clear hb2
    cases hs : decide (a.names = b.names) with
    | false =>
      have HX := Lib.hid (show a.same b = false by rw [HE.out, hs]; simp)
      go_wp2_with fail
      go_ret
      exact ⟨by rw [HX.out]; rfl, HB2.out⟩
    | true =>
    have HXS := Lib.hid hs
    go_wp2_with fail
    refine (HN2.out _ (by exact HB2.out)).mono ?_
    rintro x w4 ⟨rfl, hb4'⟩
    have e2 : w4.cell? ⟨w.heap.size, 3, none⟩ = some (.slice p1 n r1) := cell_later hb4' d2
    have e3 : w4.cell? ⟨w.heap.size + 1, 3, none⟩ = some (.slice p2 n r2) := cell_later hb4' d3
    have HB4 := Lib.hid (bel_then HB2.out hb4')
    clear hb4' c2 c3 d2 d3
    cases hs2 : decide (a.ends = b.ends) with
    | false =>
      have HX := Lib.hid (show a.same b = false by rw [HE.out, hs2]; simp)
      go_wp2_with fail
      go_ret
      exact ⟨by rw [HX.out]; rfl, HB4.out⟩
    | true =>
      have HXS2 := Lib.hid hs2
      have HW4 := Lib.hid (And.intro e2 e3)
      go_wp2_with fail
      clear e2 e3
      go_loopg [5] n (fun g s5 wx => ∃ k : Nat, k + g = n ∧ s5 = .int .i64 (k : Int) ∧ Below w.heap.size w wx ∧ wx.cell? ⟨w.heap.size, 3, none⟩ = some (.slice p1 n r1) ∧ wx.cell? ⟨w.heap.size + 1, 3, none⟩ = some (.slice p2 n r2) ∧ ∀ j x y, j < k → a.parts[j]? = some x → b.parts[j]? = some y → x.same y = true)
      case atStart => exact ⟨0, by omega, rfl, HB4.out, HW4.out.1, HW4.out.2, fun j x y hj => by omega⟩
      case round =>
        obtain ⟨k, hkg, rfl, hbel, e2, e3, hall⟩ := hrel
        have HR := Lib.hid (And.intro hbel hall)
        clear hall
        cases gk with
        | zero =>
          obtain rfl : k = n := by omega
          have hd : decide ((k : Int) < (k : Int)) = false := by simp
          have hd2 : decide (k < k) = false := by simp
          have HX := Lib.hid (show a.same b = true by
            rw [HE.out, decide_eq_true HK.out, HXS.out, HXS2.out, decide_eq_true HLN.out.2.2, (PT.sameL_iff a.parts b.parts).2 (fun i x y hx hy => HR.out.2 i x y (by have := (List.getElem?_eq_some_iff.1 hx).1; have := HLN.out.1; omega) hx hy)]
            rfl)
          clear hbel
          go_wp2_with fail
          go_ret
          exact ⟨by rw [HX.out]; rfl, HR.out.1⟩
        | succ g =>
          have hk : k < n := by omega
          have hd : decide ((k : Int) < (n : Int)) = true := by simp; omega
          have hd2 : decide (k < n) = true := by simpa using hk
          have hk1 : (0 : Int) ≤ (k : Int) := by omega
          have hk2 : (k : Int) < (n : Int) := by omega
          obtain ⟨x, hx⟩ : ∃ x, a.parts[k]? = some x := ⟨_, List.getElem?_eq_getElem (by have := HLN.out.1; omega)⟩
          obtain ⟨y, hy⟩ : ∃ y, b.parts[k]? = some y := ⟨_, List.getElem?_eq_getElem (by have := HLN.out.2.1; omega)⟩
          obtain ⟨-, -, b1', f1, rfl, hlta, u0, u1, u2, u3⟩ := HA.out k x hx
          obtain ⟨-, -, b2', f2, rfl, hltb, v0, v1, v2, v3⟩ := HB.out k y hy
          have hbb := bel_then HB0.out hbel
          rw [← hbb.cell hlta] at u0 u1 u2 u3
          rw [← hbb.cell hltb] at v0 v1 v2 v3
          have hcal := fun w' hb' => HIN.out k x y w' hx hy hb'
          obtain ⟨x0, hx0⟩ : ∃ z, z = ka k := ⟨_, rfl⟩
          obtain ⟨x1o, hx1o⟩ : ∃ z, z = nao k := ⟨_, rfl⟩
          obtain ⟨x1n, hx1n⟩ : ∃ z, z = nan k := ⟨_, rfl⟩
          obtain ⟨x1c, hx1c⟩ : ∃ z, z = nac k := ⟨_, rfl⟩
          obtain ⟨x2o, hx2o⟩ : ∃ z, z = eao k := ⟨_, rfl⟩
          obtain ⟨x2n, hx2n⟩ : ∃ z, z = ean k := ⟨_, rfl⟩
          obtain ⟨x2c, hx2c⟩ : ∃ z, z = eac k := ⟨_, rfl⟩
          obtain ⟨x3o, hx3o⟩ : ∃ z, z = lao k := ⟨_, rfl⟩
          obtain ⟨x3n, hx3n⟩ : ∃ z, z = lan k := ⟨_, rfl⟩
          obtain ⟨x3c, hx3c⟩ : ∃ z, z = lac k := ⟨_, rfl⟩
          obtain ⟨y0, hy0⟩ : ∃ z, z = kb k := ⟨_, rfl⟩
          obtain ⟨y1o, hy1o⟩ : ∃ z, z = nbo k := ⟨_, rfl⟩
          obtain ⟨y1n, hy1n⟩ : ∃ z, z = nbn k := ⟨_, rfl⟩
          obtain ⟨y1c, hy1c⟩ : ∃ z, z = nbc k := ⟨_, rfl⟩
          obtain ⟨y2o, hy2o⟩ : ∃ z, z = ebo k := ⟨_, rfl⟩
          obtain ⟨y2n, hy2n⟩ : ∃ z, z = ebn k := ⟨_, rfl⟩
          obtain ⟨y2c, hy2c⟩ : ∃ z, z = ebc k := ⟨_, rfl⟩
          obtain ⟨y3o, hy3o⟩ : ∃ z, z = lbo k := ⟨_, rfl⟩
          obtain ⟨y3n, hy3n⟩ : ∃ z, z = lbn k := ⟨_, rfl⟩
          obtain ⟨y3c, hy3c⟩ : ∃ z, z = lbc k := ⟨_, rfl⟩
          rw [← hx0, ← hx1o, ← hx1n, ← hx1c, ← hx2o, ← hx2n, ← hx2c, ← hx3o, ← hx3n, ← hx3c, ← hy0, ← hy1o, ← hy1n, ← hy1c, ← hy2o, ← hy2n, ← hy2c, ← hy3o, ← hy3n, ← hy3c] at hcal
          rw [← hx0] at u0
          rw [← hx1o, ← hx1n, ← hx1c] at u1
          rw [← hx2o, ← hx2n, ← hx2c] at u2
          rw [← hx3o, ← hx3n, ← hx3c] at u3
          rw [← hy0] at v0
          rw [← hy1o, ← hy1n, ← hy1c] at v1
          rw [← hy2o, ← hy2n, ← hy2c] at v2
          rw [← hy3o, ← hy3n, ← hy3c] at v3
          have HCAL := Lib.hid hcal
          have HXY := Lib.hid (And.intro hx hy)
          clear hcal hx hy hbb hx0 hx1o hx1n hx1c hx2o hx2n hx2c hx3o hx3n hx3c hy0 hy1o hy1n hy1c hy2o hy2n hy2c hy3o hy3n hy3c hlta hltb hbel
          go_upto_region 6 with (fail)
          go_region_held3 (fun w' => w'.cell? ⟨w.heap.size, 3, none⟩ = some (.slice (some ⟨b1', f1, none⟩) n r1) ∧ w'.cell? ⟨w.heap.size + 1, 3, none⟩ = some (.slice (some ⟨b2', f2, none⟩) n r2) ∧ w'.cell? ⟨b1', f1 + k * 4, none⟩ = some (.int .i64 x0) ∧ w'.cell? ⟨b1', f1 + k * 4 + 1, none⟩ = some (.slice x1o x1n x1c) ∧ w'.cell? ⟨b1', f1 + k * 4 + 2, none⟩ = some (.slice x2o x2n x2c) ∧ w'.cell? ⟨b1', f1 + k * 4 + 3, none⟩ = some (.slice x3o x3n x3c) ∧
              w'.cell? ⟨b2', f2 + k * 4, none⟩ = some (.int .i64 y0) ∧ w'.cell? ⟨b2', f2 + k * 4 + 1, none⟩ = some (.slice y1o y1n y1c) ∧ w'.cell? ⟨b2', f2 + k * 4 + 2, none⟩ = some (.slice y2o y2n y2c) ∧ w'.cell? ⟨b2', f2 + k * 4 + 3, none⟩ = some (.slice y3o y3n y3c))
            (first | exact ⟨e2, e3, u0, u1, u2, u3, v0, v1, v2, v3⟩ | exact ⟨cell_later hb3 e2, cell_later hb3 e3, cell_later hb3 u0, cell_later hb3 u1, cell_later hb3 u2, cell_later hb3 u3, cell_later hb3 v0, cell_later hb3 v1, cell_later hb3 v2, cell_later hb3 v3⟩)
            (first
              | (go_simp; go_at_call 24; refine (HCAL.out _ (HR.out.1.drew)).mono ?_; rintro e w3 ⟨rfl, hb3'⟩; have hb3 : Below wr.heap.size wr w3 := Below.trans (Below.refl _ _).drew hb3'))
          all_goals (
            have HB3 := Lib.hid (bel_then HR.out.1 hb3)
            have g2 : w3.cell? ⟨w.heap.size, 3, none⟩ = some (.slice (some ⟨b1', f1, none⟩) n r1) := cell_later hb3 e2
            have g3 : w3.cell? ⟨w.heap.size + 1, 3, none⟩ = some (.slice (some ⟨b2', f2, none⟩) n r2) := cell_later hb3 e3
            clear hb3 hb3' e2 e3 u0 u1 u2 u3 v0 v1 v2 v3
            cases hxy : x.same y with
            | true =>
              have HXT := Lib.hid hxy
              go_wp2_with fail
              go_roundg g
              case measure => omega
              case rel =>
                refine ⟨k + 1, by omega, by simp, HB3.out, g2, g3, fun j x' y' hj hx' hy' => ?_⟩
                rcases Nat.lt_or_ge j k with h | h
                · exact HR.out.2 j x' y' h hx' hy'
                · obtain rfl : j = k := by omega
                  rw [HXY.out.1] at hx'; rw [HXY.out.2] at hy'; cases hx'; cases hy'; exact HXT.out
            | false =>
              have HX := Lib.hid (show a.same b = false by
                rw [HE.out]
                cases hz : PT.sameL a.parts b.parts with
                | false => simp
                | true => rw [(PT.sameL_iff a.parts b.parts).1 hz k x y HXY.out.1 HXY.out.2] at hxy; cases hxy)
              go_wp2_with fail
              go_ret
              exact ⟨by rw [HX.out]; rfl, HB3.out⟩)
--emp
namespace PT
mutual
/-- the document's Empty -/
def remp : PT → Bool
  | .mk k _ _ l => if k = 1 ∨ k = 4 ∨ k = 7 then true else if k = 5 then (decide (l.length = 2) && allR l) else if k = 6 then (decide (l.length = 2) && anyR l) else false
def anyR : List PT → Bool
  | [] => false
  | e :: l => remp e || anyR l
def allR : List PT → Bool
  | [] => true
  | e :: l => remp e && allR l
end
theorem remp_eq (e : PT) : e.remp = if e.kind = 1 ∨ e.kind = 4 ∨ e.kind = 7 then true else if e.kind = 5 then (decide (e.parts.length = 2) && allR e.parts) else if e.kind = 6 then (decide (e.parts.length = 2) && anyR e.parts) else false := by cases e; rw [remp]; rfl
theorem allR_two (a b : PT) : allR [a, b] = (a.remp && b.remp) := by rw [allR, allR, allR]; simp
theorem anyR_two (a b : PT) : anyR [a, b] = (a.remp || b.remp) := by rw [anyR, anyR, anyR]; simp
end PT
def REmpIh (w0 : World) (N : Nat) : Prop := ∀ (e : PT) (nv ev lv : Value) (w : World), e.size ≤ N → e.Fit → PtIs w0 e nv ev lv → Below w0.heap.size w0 w →
  Calls Try.prog 22 #[.agg #[.int .i64 e.kind, nv, ev, lv]] w fun x w' => x = .returned (.bool e.remp) ∧ Below w.heap.size w w'
set_option maxHeartbeats 8000000 in
set_option maxRecDepth 100000 in
theorem remp_all (w0 : World) : ∀ N, REmpIh w0 N := by
  intro N
  induction N with
  | zero => intro e nv ev lv w hs; have := e.size_pos; omega
  | succ N ih =>
    intro e nv ev lv w hs hf hr hb0
    obtain ⟨⟨o1, q1, rfl⟩, ⟨o3, q3, rfl⟩, -⟩ := hr.form
    obtain ⟨o2, q2, c1, c3, c2, rfl, hall⟩ := hr.all
    have hm1 := hf.lens
    have HALL := Lib.hid hall
    have HEMP := Lib.hid (PT.remp_eq e)
    have hB1 : ∀ (x : Obj), Below w.heap.size w (w.alloc x) := fun x => bel_new (Below.refl _ _) _
    have hin : ∀ (i : Nat) (p : PT) (w' : World), e.parts[i]? = some p → Below w.heap.size w w' → Calls Try.prog 22 #[.agg #[.int .i64 p.kind, c1 i, c3 i, c2 i]] w' fun x w'' => x = .returned (.bool p.remp) ∧ Below w'.heap.size w' w'' := by
      intro i p w' hp hb
      exact ih p _ _ _ w' (by have := PT.size_part hp; omega) (hf.part hp) (hall i p hp).1 (bel_then hb0 hb)
    have HIN := Lib.hid hin
    have HB0 := Lib.hid hb0
    clear hall hin hr hb0 ih
    by_cases k147 : e.kind = 1 ∨ e.kind = 4 ∨ e.kind = 7
    · have HX := Lib.hid (show e.remp = true by rw [HEMP.out, if_pos k147])
      rcases k147 with k | k | k
      · have b1 : (e.kind == 1) = true := by simpa using k
        clear k
        go_enter Try.func22, Try.ntmps22
        go_wp2_with fail
        go_ret
        exact ⟨by rw [HX.out]; rfl, hB1 _⟩
      · have b1 : (e.kind == 1) = false := by simp; omega
        have b4 : (e.kind == 4) = true := by simpa using k
        clear k
        go_enter Try.func22, Try.ntmps22
        go_wp2_with fail
        go_ret
        exact ⟨by rw [HX.out]; rfl, hB1 _⟩
      · have b1 : (e.kind == 1) = false := by simp; omega
        have b4 : (e.kind == 4) = false := by simp; omega
        have b7 : (e.kind == 7) = true := by simpa using k
        clear k
        go_enter Try.func22, Try.ntmps22
        go_wp2_with fail
        go_ret
        exact ⟨by rw [HX.out]; rfl, hB1 _⟩
    have b1 : (e.kind == 1) = false := by simp; omega
    have b4 : (e.kind == 4) = false := by simp; omega
    have b7 : (e.kind == 7) = false := by simp; omega
    by_cases k6 : e.kind = 6
    · have b5 : (e.kind == 5) = false := by simp; omega
      have b6 : (e.kind == 6) = true := by simpa using k6
      have HX := Lib.hid (show e.remp = (decide (e.parts.length = 2) && PT.anyR e.parts) by rw [HEMP.out, if_neg k147, if_neg (by omega), if_pos k6])
      clear k6 k147
      by_cases h2 : e.parts.length = 2
      · have g2 : ((e.parts.length : Int) == 2) = true := by simp; omega
        have hl0 : (0 : Int) < (e.parts.length : Int) := by omega
        have hl1 : (1 : Int) < (e.parts.length : Int) := by omega
        obtain ⟨a, ha⟩ : ∃ a, e.parts[0]? = some a := ⟨_, List.getElem?_eq_getElem (by omega)⟩
        obtain ⟨b, hb⟩ : ∃ a, e.parts[1]? = some a := ⟨_, List.getElem?_eq_getElem (by omega)⟩
        have HY := Lib.hid (show e.remp = (a.remp || b.remp) by
          rw [HX.out, h2]
          obtain ⟨x, y, hxy⟩ : ∃ x y, e.parts = [x, y] := by
            cases hp : e.parts with
            | nil => rw [hp] at h2; simp at h2
            | cons x l => cases l with
              | nil => rw [hp] at h2; simp at h2
              | cons y l => cases l with
                | nil => exact ⟨x, y, rfl⟩
                | cons z l => rw [hp] at h2; simp at h2
          rw [hxy] at ha hb
          simp at ha hb
          subst ha; subst hb
          rw [hxy, PT.anyR_two]; simp)
        obtain ⟨-, b0, off, rfl, hbl, k0, k1, k3, k2⟩ := HALL.out 0 a ha
        obtain ⟨-, b0', off', e0, hbl', l0, l1, l3, l2⟩ := HALL.out 1 b hb
        cases e0
        rw [← HB0.out.cell hbl] at k0 k1 k3 k2
        rw [← HB0.out.cell hbl] at l0 l1 l3 l2
        have hsz := HB0.out.size
        have hbw : b0 < w.heap.size := by omega
        have hbn : ¬ b0 = w.heap.size := by omega
        obtain ⟨x1, hx1⟩ : ∃ x, x = c1 0 := ⟨_, rfl⟩
        obtain ⟨x3, hx3⟩ : ∃ x, x = c3 0 := ⟨_, rfl⟩
        obtain ⟨x2, hx2⟩ : ∃ x, x = c2 0 := ⟨_, rfl⟩
        obtain ⟨y1, hy1⟩ : ∃ x, x = c1 1 := ⟨_, rfl⟩
        obtain ⟨y3, hy3⟩ : ∃ x, x = c3 1 := ⟨_, rfl⟩
        obtain ⟨y2, hy2⟩ : ∃ x, x = c2 1 := ⟨_, rfl⟩
        have hA := fun w' hb' => HIN.out 0 a w' ha hb'
        have hB := fun w' hb' => HIN.out 1 b w' hb hb'
        rw [← hx1, ← hx2, ← hx3] at hA
        rw [← hy1, ← hy2, ← hy3] at hB
        rw [← hx1] at k1
        rw [← hx3] at k3
        rw [← hx2] at k2
        rw [← hy1] at l1
        rw [← hy3] at l3
        rw [← hy2] at l2
        simp only [Nat.zero_mul, Nat.add_zero, Nat.one_mul] at k0 k1 k2 k3 l0 l1 l2 l3
        have HA := Lib.hid hA
        have HB := Lib.hid hB
        clear hA hB hx1 hx2 hx3 hy1 hy2 hy3 ha hb h2
        go_enter Try.func22, Try.ntmps22
        go_wp2_with fail
        refine (HA.out _ (by exact hB1 _)).mono ?_
        rintro x w2 ⟨rfl, hb2'⟩
        have m0 : w2.cell? ⟨b0, off + 4, none⟩ = some (.int .i64 b.kind) := cell_later (bel_then (hB1 _) hb2') l0
        have m1 : w2.cell? ⟨b0, off + 4 + 1, none⟩ = some y1 := cell_later (bel_then (hB1 _) hb2') l1
        have m3 : w2.cell? ⟨b0, off + 4 + 2, none⟩ = some y3 := cell_later (bel_then (hB1 _) hb2') l3
        have m2 : w2.cell? ⟨b0, off + 4 + 3, none⟩ = some y2 := cell_later (bel_then (hB1 _) hb2') l2
        have mp : w2.cell? ⟨w.heap.size, 3, none⟩ = some (.slice (some ⟨b0, off, none⟩) e.parts.length q2) := cell_later hb2' (by simp [go_sem])
        have HB2 := Lib.hid (bel_then (hB1 _) hb2')
        clear hb2'
        cases hae : a.remp with
        | false =>
          have HZ := Lib.hid (show e.remp = b.remp by rw [HY.out, hae]; rfl)
          go_wp2_with fail
          refine (HB.out _ (by exact HB2.out)).mono ?_
          rintro x w3 ⟨rfl, hb3⟩
          have HB3 := Lib.hid (bel_then HB2.out hb3)
          clear hb3
          go_wp2_with fail
          go_ret
          exact ⟨by rw [HZ.out]; rfl, HB3.out⟩
        | true =>
          have HZ := Lib.hid (show e.remp = true by rw [HY.out, hae]; rfl)
          go_wp2_with fail
          go_ret
          exact ⟨by rw [HZ.out]; rfl, HB2.out⟩
      · have g2 : ((e.parts.length : Int) == 2) = false := by simp; omega
        have HY := Lib.hid (show e.remp = false by rw [HX.out, decide_eq_false h2]; rfl)
        clear h2
        go_enter Try.func22, Try.ntmps22
        go_wp2_with fail
        go_ret
        exact ⟨by rw [HY.out]; rfl, hB1 _⟩
    have b6 : (e.kind == 6) = false := by simp; omega
    by_cases k5 : e.kind = 5
    · have b5 : (e.kind == 5) = true := by simpa using k5
      have HX := Lib.hid (show e.remp = (decide (e.parts.length = 2) && PT.allR e.parts) by rw [HEMP.out, if_neg k147, if_pos k5])
      clear k6 k147 k5
      by_cases h2 : e.parts.length = 2
      · have g2 : ((e.parts.length : Int) == 2) = true := by simp; omega
        have hl0 : (0 : Int) < (e.parts.length : Int) := by omega
        have hl1 : (1 : Int) < (e.parts.length : Int) := by omega
        obtain ⟨a, ha⟩ : ∃ a, e.parts[0]? = some a := ⟨_, List.getElem?_eq_getElem (by omega)⟩
        obtain ⟨b, hb⟩ : ∃ a, e.parts[1]? = some a := ⟨_, List.getElem?_eq_getElem (by omega)⟩
        have HY := Lib.hid (show e.remp = (a.remp && b.remp) by
          rw [HX.out, h2]
          obtain ⟨x, y, hxy⟩ : ∃ x y, e.parts = [x, y] := by
            cases hp : e.parts with
            | nil => rw [hp] at h2; simp at h2
            | cons x l => cases l with
              | nil => rw [hp] at h2; simp at h2
              | cons y l => cases l with
                | nil => exact ⟨x, y, rfl⟩
                | cons z l => rw [hp] at h2; simp at h2
          rw [hxy] at ha hb
          simp at ha hb
          subst ha; subst hb
          rw [hxy, PT.allR_two]; simp)
        obtain ⟨-, b0, off, rfl, hbl, k0, k1, k3, k2⟩ := HALL.out 0 a ha
        obtain ⟨-, b0', off', e0, hbl', l0, l1, l3, l2⟩ := HALL.out 1 b hb
        cases e0
        rw [← HB0.out.cell hbl] at k0 k1 k3 k2
        rw [← HB0.out.cell hbl] at l0 l1 l3 l2
        have hsz := HB0.out.size
        have hbw : b0 < w.heap.size := by omega
        have hbn : ¬ b0 = w.heap.size := by omega
        obtain ⟨x1, hx1⟩ : ∃ x, x = c1 0 := ⟨_, rfl⟩
        obtain ⟨x3, hx3⟩ : ∃ x, x = c3 0 := ⟨_, rfl⟩
        obtain ⟨x2, hx2⟩ : ∃ x, x = c2 0 := ⟨_, rfl⟩
        obtain ⟨y1, hy1⟩ : ∃ x, x = c1 1 := ⟨_, rfl⟩
        obtain ⟨y3, hy3⟩ : ∃ x, x = c3 1 := ⟨_, rfl⟩
        obtain ⟨y2, hy2⟩ : ∃ x, x = c2 1 := ⟨_, rfl⟩
        have hA := fun w' hb' => HIN.out 0 a w' ha hb'
        have hB := fun w' hb' => HIN.out 1 b w' hb hb'
        rw [← hx1, ← hx2, ← hx3] at hA
        rw [← hy1, ← hy2, ← hy3] at hB
        rw [← hx1] at k1
        rw [← hx3] at k3
        rw [← hx2] at k2
        rw [← hy1] at l1
        rw [← hy3] at l3
        rw [← hy2] at l2
        simp only [Nat.zero_mul, Nat.add_zero, Nat.one_mul] at k0 k1 k2 k3 l0 l1 l2 l3
        have HA := Lib.hid hA
        have HB := Lib.hid hB
        clear hA hB hx1 hx2 hx3 hy1 hy2 hy3 ha hb h2
        go_enter Try.func22, Try.ntmps22
        go_wp2_with fail
        refine (HA.out _ (by exact hB1 _)).mono ?_
        rintro x w2 ⟨rfl, hb2'⟩
        have m0 : w2.cell? ⟨b0, off + 4, none⟩ = some (.int .i64 b.kind) := cell_later (bel_then (hB1 _) hb2') l0
        have m1 : w2.cell? ⟨b0, off + 4 + 1, none⟩ = some y1 := cell_later (bel_then (hB1 _) hb2') l1
        have m3 : w2.cell? ⟨b0, off + 4 + 2, none⟩ = some y3 := cell_later (bel_then (hB1 _) hb2') l3
        have m2 : w2.cell? ⟨b0, off + 4 + 3, none⟩ = some y2 := cell_later (bel_then (hB1 _) hb2') l2
        have mp : w2.cell? ⟨w.heap.size, 3, none⟩ = some (.slice (some ⟨b0, off, none⟩) e.parts.length q2) := cell_later hb2' (by simp [go_sem])
        have HB2 := Lib.hid (bel_then (hB1 _) hb2')
        clear hb2'
        cases hae : a.remp with
        | false =>
          have HZ := Lib.hid (show e.remp = false by rw [HY.out, hae]; rfl)
          go_wp2_with fail
          go_ret
          exact ⟨by rw [HZ.out]; rfl, HB2.out⟩
        | true =>
          have HZ := Lib.hid (show e.remp = b.remp by rw [HY.out, hae]; rfl)
          go_wp2_with fail
          refine (HB.out _ (by exact HB2.out)).mono ?_
          rintro x w3 ⟨rfl, hb3⟩
          have HB3 := Lib.hid (bel_then HB2.out hb3)
          clear hb3
          go_wp2_with fail
          go_ret
          exact ⟨by rw [HZ.out]; rfl, HB3.out⟩
      · have g2 : ((e.parts.length : Int) == 2) = false := by simp; omega
        have HY := Lib.hid (show e.remp = false by rw [HX.out, decide_eq_false h2]; rfl)
        clear h2
        go_enter Try.func22, Try.ntmps22
        go_wp2_with fail
        go_ret
        exact ⟨by rw [HY.out]; rfl, hB1 _⟩
    have b5 : (e.kind == 5) = false := by simpa using k5
    have HX := Lib.hid (show e.remp = false by rw [HEMP.out, if_neg k147, if_neg k5, if_neg k6])
    clear k6 k147 k5
    go_enter Try.func22, Try.ntmps22
    go_wp2_with fail
    go_ret
    exact ⟨by rw [HX.out]; rfl, hB1 _⟩
namespace PT
mutual
def dep : PT → Nat
  | .mk _ _ _ l => deps l + 1
def deps : List PT → Nat
  | [] => 0
  | e :: l => max (dep e) (deps l)
end
theorem dep_eq (e : PT) : e.dep = deps e.parts + 1 := by cases e; rw [dep]; rfl
theorem deps_snoc : ∀ (l : List PT) (e : PT), deps (l ++ [e]) = max (deps l) e.dep := by
  intro l
  induction l with
  | nil => intro e; rw [List.nil_append, deps, deps]; simp [deps]
  | cons a l ih => intro e; rw [List.cons_append, deps, ih, deps]; omega
theorem sizes_snoc : ∀ (l : List PT) (e : PT), sizes (l ++ [e]) = sizes l + e.size := by
  intro l
  induction l with
  | nil => intro e; rw [List.nil_append, sizes_cons, sizes_nil]; omega
  | cons a l ih => intro e; rw [List.cons_append, sizes_cons, ih, sizes_cons]; omega
theorem sizes_take : ∀ (l : List PT) (k : Nat), sizes (l.take k) ≤ sizes l := by
  intro l
  induction l with
  | nil => intro k; simp
  | cons a l ih =>
    intro k
    cases k with
    | zero => rw [List.take_zero, sizes_nil]; omega
    | succ k => rw [List.take_succ_cons, sizes_cons, sizes_cons]; have := ih k; omega
theorem dep_le : ∀ (N : Nat) (e : PT), e.size ≤ N → e.dep ≤ e.size := by
  intro N
  induction N with
  | zero => intro e h; have := e.size_pos; omega
  | succ N ih =>
    have all : ∀ l : List PT, sizes l ≤ N → deps l ≤ sizes l := by
      intro l
      induction l with
      | nil => intro _; rw [deps]; omega
      | cons a l ihl => intro h; rw [sizes_cons] at h ⊢; rw [deps]; have := ih a (by omega); have := ihl (by omega); omega
    intro e h
    rw [size_sizes] at h ⊢
    rw [dep_eq]
    have := all e.parts (by omega)
    omega
theorem take_snoc {l : List PT} {k : Nat} {p : PT} (h : l[k]? = some p) : l.take (k + 1) = l.take k ++ [p] := by rw [List.take_add_one, h]; rfl
end PT
def RCntIh (w0 : World) (N : Nat) : Prop := ∀ (e : PT) (nv ev lv : Value) (w : World), e.size ≤ N → e.size ≤ 1000 → e.Fit → PtIs w0 e nv ev lv → Below w0.heap.size w0 w →
  Calls Try.prog 20 #[.agg #[.int .i64 e.kind, nv, ev, lv]] w fun x w' => x = .returned (.tuple #[.int .i64 (e.size : Nat), .int .i64 (e.dep : Nat)]) ∧ Below w.heap.size w w'
set_option maxHeartbeats 8000000 in
set_option maxRecDepth 100000 in
theorem rcnt_all (w0 : World) : ∀ N, RCntIh w0 N := by
  intro N
  induction N with
  | zero => intro e nv ev lv w hs; have := e.size_pos; omega
  | succ N ih =>
    intro e nv ev lv w hs hs9 hf hr hb0
    obtain ⟨⟨o1, q1, rfl⟩, ⟨o3, q3, rfl⟩, -⟩ := hr.form
    obtain ⟨o2, q2, c1, c3, c2, rfl, hall⟩ := hr.all
    have hm1 := hf.lens
    have HALL := Lib.hid hall
    have hin : ∀ (i : Nat) (p : PT) (w' : World), e.parts[i]? = some p → Below w.heap.size w w' → Calls Try.prog 20 #[.agg #[.int .i64 p.kind, c1 i, c3 i, c2 i]] w' fun x w'' => x = .returned (.tuple #[.int .i64 (p.size : Nat), .int .i64 (p.dep : Nat)]) ∧ Below w'.heap.size w' w'' := by
      intro i p w' hp hb
      exact ih p _ _ _ w' (by have := PT.size_part hp; omega) (by have := PT.size_part hp; omega) (hf.part hp) (hall i p hp).1 (bel_then hb0 hb)
    have HIN := Lib.hid hin
    have HB0 := Lib.hid hb0
    have HSZ := Lib.hid (And.intro (PT.size_sizes e) (And.intro (PT.dep_eq e) (And.intro hs9 (PT.dep_le e.size e (Nat.le_refl _)))))
    clear hall hin hr hb0 ih hs hs9
    obtain ⟨n, hn⟩ : ∃ n, n = e.parts.length := ⟨_, rfl⟩
    rw [← hn]
    have HNN := Lib.hid hn
    have hn9 : n ≤ 1000 := by omega
    clear hn hm1
    go_enter Try.func20, Try.ntmps20
    go_wp2_with fail
    obtain ⟨wB, hwB⟩ : ∃ wB, wB = w.alloc (.cells #[.int .i64 e.kind, .slice o1 e.names.length q1, .slice o3 e.ends.length q3, .slice o2 n q2] 43) := ⟨_, rfl⟩
    rw [← hwB]
    have HWB := Lib.hid (show Below w.heap.size w wB ∧ wB.cell? ⟨w.heap.size, 3, none⟩ = some (.slice o2 n q2) by rw [hwB]; exact ⟨bel_new (Below.refl _ _) _, by simp [go_sem]⟩)
    clear hwB
    go_loopg [4, 5, 6] n (fun g s4 s5 s6 wx => ∃ k : Nat, k + g = n ∧ s6 = .int .i64 (k : Int) ∧ s4 = .int .i64 ((1 + PT.sizes (e.parts.take k) : Nat) : Int) ∧ s5 = .int .i64 ((PT.deps (e.parts.take k) : Nat) : Int) ∧ Below w.heap.size w wx ∧ wx.cell? ⟨w.heap.size, 3, none⟩ = some (.slice o2 n q2))
    case atStart => exact ⟨0, by omega, rfl, by rw [List.take_zero, PT.sizes_nil]; rfl, by rw [List.take_zero, PT.deps]; rfl, HWB.out.1, HWB.out.2⟩
    case round =>
      obtain ⟨k, hkg, rfl, rfl, rfl, hbel, e2⟩ := hrel
      obtain ⟨m, hm⟩ : ∃ m, m = 1 + PT.sizes (e.parts.take k) := ⟨_, rfl⟩
      obtain ⟨d, hd⟩ : ∃ d, d = PT.deps (e.parts.take k) := ⟨_, rfl⟩
      rw [← hm, ← hd]
      have hm9 : m ≤ 1000 := by have := PT.sizes_take e.parts k; have := HSZ.out.1; have := HSZ.out.2.2.1; omega
      have HM := Lib.hid (And.intro hm hd)
      have HBE := Lib.hid hbel
      clear hm hd
      cases gk with
      | zero =>
        obtain rfl : k = n := by omega
        have hx1 : decide ((k : Int) < (k : Int)) = false := by simp
        have hx2 : decide (k < k) = false := by simp
        have hd9 : d + 1 = e.dep ∧ m = e.size := by
          have h1 := HM.out
          have h2 : e.parts.take k = e.parts := List.take_of_length_le (by have := HNN.out; omega)
          rw [h2] at h1
          have := HSZ.out.1; have := HSZ.out.2.1
          exact ⟨by omega, by omega⟩
        have hdn : d ≤ 1000 := by have := HSZ.out.2.2; omega
        have hw : IntKind.i64.wrap ((d : Int) + 1) = (d : Int) + 1 := IntWalk.i64_in _ (by omega)
        have HD := Lib.hid hd9
        clear hd9 hbel
        go_wp2_with fail
        go_ret2
        exact ⟨by rw [← HD.out.1, ← HD.out.2]; rfl, HBE.out⟩
      | succ g =>
        have hk : k < n := by omega
        have hx1 : decide ((k : Int) < (n : Int)) = true := by simp; omega
        have hx2 : decide (k < n) = true := by simpa using hk
        have hx3 : decide ((m : Int) < 2000) = true := by simp; omega
        have hx4 : decide (m < 2000) = true := by simp; omega
        have hk1 : (0 : Int) ≤ (k : Int) := by omega
        have hk2 : (k : Int) < (n : Int) := by omega
        obtain ⟨p, hp⟩ : ∃ p, e.parts[k]? = some p := ⟨_, List.getElem?_eq_getElem (by have := HNN.out; omega)⟩
        obtain ⟨-, b0, off, rfl, hbl, k0, k1, k3, k2⟩ := HALL.out k p hp
        have hbb := bel_then HB0.out hbel
        rw [← hbb.cell hbl] at k0 k1 k3 k2
        have hcal := fun w' hb' => HIN.out k p w' hp hb'
        obtain ⟨x1, hx1'⟩ : ∃ x, x = c1 k := ⟨_, rfl⟩
        obtain ⟨x3, hx3'⟩ : ∃ x, x = c3 k := ⟨_, rfl⟩
        obtain ⟨x2, hx2'⟩ : ∃ x, x = c2 k := ⟨_, rfl⟩
        rw [← hx1', ← hx2', ← hx3'] at hcal
        rw [← hx1'] at k1
        rw [← hx3'] at k3
        rw [← hx2'] at k2
        have HCAL := Lib.hid hcal
        have HP := Lib.hid hp
        have hpz : p.size ≤ 1000 ∧ p.dep ≤ 1000 ∧ m + p.size ≤ 1000 ∧ d ≤ 1000 := by
          have h1 := PT.sizes_take e.parts (k + 1)
          rw [PT.take_snoc hp, PT.sizes_snoc] at h1
          have h2 := HSZ.out; have h3 := HM.out
          have h4 := PT.dep_le p.size p (Nat.le_refl _)
          have h5 : d ≤ e.dep := by
            have : ∀ (l : List PT) (j : Nat), PT.deps (l.take j) ≤ PT.deps l := by
              intro l
              induction l with
              | nil => intro j; simp
              | cons a l ih =>
                intro j
                cases j with
                | zero => rw [List.take_zero, PT.deps]; omega
                | succ j => rw [List.take_succ_cons, PT.deps, PT.deps]; have := ih j; omega
            have := this e.parts k
            omega
          refine ⟨by omega, by omega, by omega, by omega⟩
        obtain ⟨ps, hps⟩ : ∃ z, z = p.size := ⟨_, rfl⟩
        obtain ⟨pd, hpd⟩ : ∃ z, z = p.dep := ⟨_, rfl⟩
        rw [← hps, ← hpd] at hpz
        have HPZ := Lib.hid (And.intro hps hpd)
        obtain ⟨z1, z2, z3, z4⟩ := hpz
        clear hcal hp hbb hx1' hx2' hx3' hbl hbel hps hpd
        go_wp2_with fail
        refine (HCAL.out _ (by exact HBE.out)).mono ?_
        rintro x w3 ⟨rfl, hb3⟩
        rw [← HPZ.out.1, ← HPZ.out.2]
        have g2 := cell_later hb3 e2
        have HB3 := Lib.hid (bel_then HBE.out hb3)
        have hwa : IntKind.i64.wrap ((m : Int) + (ps : Int)) = ((m + ps : Nat) : Int) := by rw [IntWalk.i64_in _ (by omega)]; omega
        clear hb3 e2 k0 k1 k2 k3
        rcases Nat.lt_or_ge d pd with hdp | hdp
        · have hmx : max (d : Int) (pd : Int) = (pd : Int) := by omega
          go_wp2_with fail
          go_roundg g
          case measure => omega
          case rel =>
            refine ⟨k + 1, by omega, by simp, ?_, ?_, HB3.out, g2⟩
            · rw [PT.take_snoc HP.out, PT.sizes_snoc]; have := HM.out.1; have := HPZ.out.1; first | (congr 1; omega) | (simp; omega)
            · rw [PT.take_snoc HP.out, PT.deps_snoc]; have := HM.out.2; have := HPZ.out.2; first | (congr 1; omega) | (simp; omega)
        · have hmx : max (d : Int) (pd : Int) = (d : Int) := by omega
          go_wp2_with fail
          go_roundg g
          case measure => omega
          case rel =>
            refine ⟨k + 1, by omega, by simp, ?_, ?_, HB3.out, g2⟩
            · rw [PT.take_snoc HP.out, PT.sizes_snoc]; have := HM.out.1; have := HPZ.out.1; first | (congr 1; omega) | (simp; omega)
            · rw [PT.take_snoc HP.out, PT.deps_snoc]; have := HM.out.2; have := HPZ.out.2; first | (congr 1; omega) | (simp; omega)
end Go.Proofs.Ytkmnigoikkffnaa
