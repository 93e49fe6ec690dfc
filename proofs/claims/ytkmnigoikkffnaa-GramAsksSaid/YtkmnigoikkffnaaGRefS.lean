/- The document's grammars: goboref11.Same. -/
import Derived.Test.YtkmnigoikkffnaaGRefC
import Derived.Test.YtkmnigoikkffnaaGSame
import Derived.Test.YtkmnigoikkffnaaGTold
import Derived.Test.YtkmnigoikkffnaaKept
import Derived.Deep.DeepCutAuto
set_option linter.unusedVariables false
set_option linter.unusedSimpArgs false
namespace Go.Proofs.Ytkmnigoikkffnaa
open Go.RowKit Ru

theorem keep12c {w w' : World} {a1 a2 a3 a4 a5 a6 a7 a8 a9 a10 a11 a12 : Addr} {x1 x2 x3 x4 x5 x6 x7 x8 x9 x10 x11 x12 : Value} (hb : Below w.heap.size w w') (h1 : w.cell? a1 = some x1) (h2 : w.cell? a2 = some x2) (h3 : w.cell? a3 = some x3) (h4 : w.cell? a4 = some x4) (h5 : w.cell? a5 = some x5) (h6 : w.cell? a6 = some x6) (h7 : w.cell? a7 = some x7) (h8 : w.cell? a8 = some x8) (h9 : w.cell? a9 = some x9) (h10 : w.cell? a10 = some x10) (h11 : w.cell? a11 = some x11) (h12 : w.cell? a12 = some x12) :
    w'.cell? a1 = some x1 ∧ w'.cell? a2 = some x2 ∧ w'.cell? a3 = some x3 ∧ w'.cell? a4 = some x4 ∧ w'.cell? a5 = some x5 ∧ w'.cell? a6 = some x6 ∧ w'.cell? a7 = some x7 ∧ w'.cell? a8 = some x8 ∧ w'.cell? a9 = some x9 ∧ w'.cell? a10 = some x10 ∧ w'.cell? a11 = some x11 ∧ w'.cell? a12 = some x12 :=
  ⟨cell_later hb h1, cell_later hb h2, cell_later hb h3, cell_later hb h4, cell_later hb h5, cell_later hb h6, cell_later hb h7, cell_later hb h8, cell_later hb h9, cell_later hb h10, cell_later hb h11, cell_later hb h12⟩
theorem tk_cells {wc : World} {p : Nat} {a b c d e f : Value} {t : TypeId} (h : wc.heap[p]? = some (.cells #[a, b, c, d, e, f] t (0, 0))) : wc.cell? ⟨p, 0, none⟩ = some a ∧ wc.cell? ⟨p, 1, none⟩ = some b ∧ wc.cell? ⟨p, 2, none⟩ = some c ∧ wc.cell? ⟨p, 3, none⟩ = some d ∧ wc.cell? ⟨p, 4, none⟩ = some e ∧ wc.cell? ⟨p, 5, none⟩ = some f := by
  simp [World.cell?, h]
theorem ru_cells {wc : World} {p : Nat} {a b c : Value} {t : TypeId} (h : wc.heap[p]? = some (.cells #[a, b, c] t (0, 0))) : wc.cell? ⟨p, 0, none⟩ = some a ∧ wc.cell? ⟨p, 1, none⟩ = some b ∧ wc.cell? ⟨p, 2, none⟩ = some c := by
  simp [World.cell?, h]
set_option maxHeartbeats 32000000 in
set_option maxRecDepth 100000 in
theorem rgsame_any (T U : List TK) (R S : List RU) (tv rv uv sv : Value) (w : World) (hT : TksAre w tv T) (hU : TksAre w uv U) (hR : RusAre w rv R) (hS : RusAre w sv S) (hG : FewG T R) (hH : FewG U S) :
    Calls Try.prog 13 #[.agg #[tv, rv], .agg #[uv, sv]] w fun e w' => e = .returned (.bool (allS TK.same T U && allS RU.same R S)) ∧ Below w.heap.size w w' := by
  obtain ⟨ot, ct, nmx, kdx, clx, rkx, sox, snx, scx, lox, lnx, lcx, rfl, halla⟩ := hT.all
  obtain ⟨ou, cu, nmy, kdy, cly, rky, soy, sny, scy, loy, lny, lcy, rfl, hallb⟩ := hU.all
  obtain ⟨orr, cr, rfl⟩ := hR.form
  obtain ⟨os, cs, rfl⟩ := hS.form
  obtain ⟨n, hn⟩ : ∃ x, x = T.length := ⟨_, rfl⟩
  obtain ⟨m, hm⟩ : ∃ x, x = R.length := ⟨_, rfl⟩
  obtain ⟨n2, hn2⟩ : ∃ x, x = U.length := ⟨_, rfl⟩
  obtain ⟨m2, hm2⟩ : ∃ x, x = S.length := ⟨_, rfl⟩
  rw [← hn, ← hm, ← hn2, ← hm2]
  obtain ⟨rr, hrr⟩ : ∃ x, x = (allS TK.same T U && allS RU.same R S) := ⟨_, rfl⟩
  rw [← hrr]
  have HA := Lib.hid halla
  have HB := Lib.hid hallb
  have HGR := Lib.hid (fun (i : Nat) (s : RU) (h : R[i]? = some s) => hR.get h)
  have HGS := Lib.hid (fun (i : Nat) (s : RU) (h : S[i]? = some s) => hS.get h)
  have HN := Lib.hid (And.intro (And.intro hn hm) (And.intro hn2 hm2))
  have HG := Lib.hid hG
  have HH := Lib.hid hH
  have HRR := Lib.hid hrr
  have hn20 : n ≤ 20 := by have := hG.tl; omega
  have hm10 : m ≤ 10 := by have := hG.rl; omega
  have hB1 : ∀ (x y : Obj), Below w.heap.size w ((w.alloc x).alloc y) := fun x y => bel_new (bel_new (Below.refl _ _) _) _
  clear halla hallb hT hR hU hS hn hm hn2 hm2 hG hH hrr
  by_cases h1 : n = n2
  case neg =>
    have d1 : ((n : Int) != (n2 : Int)) = true := by simp; omega
    have d2 : (n != n2) = true := by simpa using h1
    have HX := Lib.hid (show rr = false by rw [HRR.out, allS_len (by have := HN.out; omega)]; rfl)
    clear h1
    go_enter Try.func13, Try.ntmps13
    go_wp2_with fail
    go_ret
    exact ⟨by rw [HX.out]; rfl, hB1 _ _⟩
  subst h1
  have d1 : ((n : Int) != (n : Int)) = false := by simp
  have d2 : (n != n) = false := by simp
  by_cases h2 : m = m2
  case neg =>
    have d3 : ((m : Int) != (m2 : Int)) = true := by simp; omega
    have d4 : (m != m2) = true := by simpa using h2
    have HX := Lib.hid (show rr = false by rw [HRR.out, allS_len (l := R) (m := S) (by have := HN.out; omega)]; simp)
    clear h2
    go_enter Try.func13, Try.ntmps13
    go_wp2_with fail
    go_ret
    exact ⟨by rw [HX.out]; rfl, hB1 _ _⟩
  subst h2
  have d3 : ((m : Int) != (m : Int)) = false := by simp
  have d4 : (m != m) = false := by simp
  obtain ⟨wB, hwB⟩ : ∃ wB, wB = (w.alloc (.cells #[.slice ot n ct, .slice orr m cr] 25)).alloc (.cells #[.slice ou n cu, .slice os m cs] 25) := ⟨_, rfl⟩
  have HWB := Lib.hid (show Below w.heap.size w wB ∧ wB.cell? ⟨w.heap.size, 0, none⟩ = some (.slice ot n ct) ∧ wB.cell? ⟨w.heap.size, 1, none⟩ = some (.slice orr m cr) ∧ wB.cell? ⟨w.heap.size + 1, 0, none⟩ = some (.slice ou n cu) ∧ wB.cell? ⟨w.heap.size + 1, 1, none⟩ = some (.slice os m cs) by rw [hwB]; exact ⟨hB1 _ _, by simp [go_sem], by simp [go_sem], by simp [go_sem], by simp [go_sem]⟩)
  go_enter Try.func13, Try.ntmps13
  go_wp2_with fail
  rw [← hwB]
  clear hwB hB1
  go_loopg [5] n (fun g s3 wx => ∃ k : Nat, k + g = n ∧ s3 = .int .i64 (k : Int) ∧ (∀ j x y, j < k → T[j]? = some x → U[j]? = some y → x.same y = true) ∧ Below w.heap.size w wx ∧ wx.cell? ⟨w.heap.size, 0, none⟩ = some (.slice ot n ct) ∧ wx.cell? ⟨w.heap.size, 1, none⟩ = some (.slice orr m cr) ∧ wx.cell? ⟨w.heap.size + 1, 0, none⟩ = some (.slice ou n cu) ∧ wx.cell? ⟨w.heap.size + 1, 1, none⟩ = some (.slice os m cs))
  case atStart => exact ⟨0, by omega, rfl, fun j x y hj => by omega, HWB.out⟩
  case round =>
    obtain ⟨k, hkg, rfl, hinv, hbel, e0, e1, e2, e3⟩ := hrel
    have HINV := Lib.hid hinv
    have HBE := Lib.hid hbel
    clear hinv
    cases gk with
    | succ g =>
      have hk : k < n := by omega
      have hx1 : decide ((k : Int) < (n : Int)) = true := by simp; omega
      have hx2 : decide (k < n) = true := by simpa using hk
      have hk1 : (0 : Int) ≤ (k : Int) := by omega
      have hk2 : (k : Int) < (n : Int) := by omega
      obtain ⟨t, hp⟩ : ∃ p, T[k]? = some p := ⟨_, List.getElem?_eq_getElem (by have := HN.out.1; omega)⟩
      obtain ⟨u, hq⟩ : ∃ p, U[k]? = some p := ⟨_, List.getElem?_eq_getElem (by have := HN.out.2; omega)⟩
      obtain ⟨q1, q2, q3, q4, hre, b0, off, rfl, hbl, k0, k1, k2', k3, k4, k5⟩ := HA.out k t hp
      obtain ⟨r1, r2, r3, r4, hrf, c0, ofg, rfl, hcl, l0, l1, l2', l3, l4, l5⟩ := HB.out k u hq
      have hsm := fun w' (hb : Below w.heap.size w w') => esame_all w t.re.size t.re u.re _ _ _ _ w' (Nat.le_refl _) (HG.out.tf k t hp).2 (HH.out.tf k u hq).2 hre hrf hb
      rw [← q4, ← r4] at hsm
      have htu : t.same u = (decide (nmx k = nmy k) && (decide (kdx k = kdy k) && (decide (clx k = cly k) && t.re.same u.re))) := by rw [q1, q2, q3, r1, r2, r3]; rfl
      rw [← hbel.cell hbl] at k0 k1 k2' k3 k4 k5
      rw [← hbel.cell hcl] at l0 l1 l2' l3 l4 l5
      obtain ⟨xn, hxn⟩ : ∃ x, x = nmx k := ⟨_, rfl⟩
      obtain ⟨x1, hx1'⟩ : ∃ x, x = kdx k := ⟨_, rfl⟩
      obtain ⟨x2, hx2'⟩ : ∃ x, x = clx k := ⟨_, rfl⟩
      obtain ⟨x3, hx3⟩ : ∃ x, x = rkx k := ⟨_, rfl⟩
      obtain ⟨x4, hx4⟩ : ∃ x, x = sox k := ⟨_, rfl⟩
      obtain ⟨x5, hx5⟩ : ∃ x, x = snx k := ⟨_, rfl⟩
      obtain ⟨x6, hx6⟩ : ∃ x, x = scx k := ⟨_, rfl⟩
      obtain ⟨x7, hx7⟩ : ∃ x, x = lox k := ⟨_, rfl⟩
      obtain ⟨x8, hx8⟩ : ∃ x, x = lnx k := ⟨_, rfl⟩
      obtain ⟨x9, hx9⟩ : ∃ x, x = lcx k := ⟨_, rfl⟩
      obtain ⟨yn, hyn⟩ : ∃ x, x = nmy k := ⟨_, rfl⟩
      obtain ⟨y1, hy1'⟩ : ∃ x, x = kdy k := ⟨_, rfl⟩
      obtain ⟨y2, hy2'⟩ : ∃ x, x = cly k := ⟨_, rfl⟩
      obtain ⟨y3, hy3⟩ : ∃ x, x = rky k := ⟨_, rfl⟩
      obtain ⟨y4, hy4⟩ : ∃ x, x = soy k := ⟨_, rfl⟩
      obtain ⟨y5, hy5⟩ : ∃ x, x = sny k := ⟨_, rfl⟩
      obtain ⟨y6, hy6⟩ : ∃ x, x = scy k := ⟨_, rfl⟩
      obtain ⟨y7, hy7⟩ : ∃ x, x = loy k := ⟨_, rfl⟩
      obtain ⟨y8, hy8⟩ : ∃ x, x = lny k := ⟨_, rfl⟩
      obtain ⟨y9, hy9⟩ : ∃ x, x = lcy k := ⟨_, rfl⟩
      obtain ⟨bs, hbs⟩ : ∃ x, x = t.re.same u.re := ⟨_, rfl⟩
      rw [← hx3, ← hx4, ← hx5, ← hx6, ← hx7, ← hx8, ← hx9, ← hy3, ← hy4, ← hy5, ← hy6, ← hy7, ← hy8, ← hy9, ← hbs] at hsm
      rw [← hxn, ← hx1', ← hx2', ← hyn, ← hy1', ← hy2', ← hbs] at htu
      rw [← hxn] at k0
      rw [← hx1'] at k1
      rw [← hx2'] at k2'
      rw [← hx3] at k3
      rw [← hx4, ← hx5, ← hx6] at k4
      rw [← hx7, ← hx8, ← hx9] at k5
      rw [← hyn] at l0
      rw [← hy1'] at l1
      rw [← hy2'] at l2'
      rw [← hy3] at l3
      rw [← hy4, ← hy5, ← hy6] at l4
      rw [← hy7, ← hy8, ← hy9] at l5
      have HSM := Lib.hid hsm
      have HTU := Lib.hid htu
      have HP := Lib.hid (And.intro hp hq)
      have HOUT := Lib.hid (fun (h : t.same u = false) => show rr = false by rw [HRR.out, allS_at HP.out.1 HP.out.2 h]; rfl)
      clear hsm htu hp hq hre hrf hbl hcl hbel q1 q2 q3 q4 r1 r2 r3 r4 hxn hx1' hx2' hx3 hx4 hx5 hx6 hx7 hx8 hx9 hyn hy1' hy2' hy3 hy4 hy5 hy6 hy7 hy8 hy9 hbs
      go_upto_region 6 with (fail)
      go_cut [6, 7] (fun s6 s7 wx => ∃ p6 p7 : Nat, s6 = .pointer (some ⟨p6, 0, none⟩) ∧ s7 = .pointer (some ⟨p7, 0, none⟩) ∧ wx.heap[p6]? = some (.cells #[.string xn, .int .i64 x1, .int .i64 x2, .int .i64 x3, .slice x4 x5 x6, .slice x7 x8 x9] 55 (0, 0)) ∧ wx.heap[p7]? = some (.cells #[.string yn, .int .i64 y1, .int .i64 y2, .int .i64 y3, .slice y4 y5 y6, .slice y7 y8 y9] 55 (0, 0)) ∧ Below wr.heap.size wr wx)
      case first =>
        go_region_held3 (fun w' => (w'.cell? ⟨w.heap.size, 0, none⟩ = some (.slice (some ⟨b0, off, none⟩) n ct) ∧ w'.cell? ⟨w.heap.size + 1, 0, none⟩ = some (.slice (some ⟨c0, ofg, none⟩) n cu)) ∧
            w'.cell? ⟨b0, off + k * 6, none⟩ = some (.string xn) ∧ w'.cell? ⟨b0, off + k * 6 + 1, none⟩ = some (.int .i64 x1) ∧ w'.cell? ⟨b0, off + k * 6 + 2, none⟩ = some (.int .i64 x2) ∧ w'.cell? ⟨b0, off + k * 6 + 3, none⟩ = some (.int .i64 x3) ∧ w'.cell? ⟨b0, off + k * 6 + 4, none⟩ = some (.slice x4 x5 x6) ∧ w'.cell? ⟨b0, off + k * 6 + 5, none⟩ = some (.slice x7 x8 x9) ∧
            w'.cell? ⟨c0, ofg + k * 6, none⟩ = some (.string yn) ∧ w'.cell? ⟨c0, ofg + k * 6 + 1, none⟩ = some (.int .i64 y1) ∧ w'.cell? ⟨c0, ofg + k * 6 + 2, none⟩ = some (.int .i64 y2) ∧ w'.cell? ⟨c0, ofg + k * 6 + 3, none⟩ = some (.int .i64 y3) ∧ w'.cell? ⟨c0, ofg + k * 6 + 4, none⟩ = some (.slice y4 y5 y6) ∧ w'.cell? ⟨c0, ofg + k * 6 + 5, none⟩ = some (.slice y7 y8 y9))
          (first | trivial | exact ⟨⟨cell_later (by repeat (first | exact Below.refl _ _ | refine Below.drew ?_ | refine bel_new ?_ _ | refine Below.setCell ?_ (by simp <;> omega) _)) e0, cell_later (by repeat (first | exact Below.refl _ _ | refine Below.drew ?_ | refine bel_new ?_ _ | refine Below.setCell ?_ (by simp <;> omega) _)) e2⟩, keep12c (by repeat (first | exact Below.refl _ _ | refine Below.drew ?_ | refine bel_new ?_ _ | refine Below.setCell ?_ (by simp <;> omega) _)) k0 k1 k2' k3 k4 k5 l0 l1 l2' l3 l4 l5⟩) (fail)
        all_goals (go_wp2_with fail)
        all_goals go_meet
        all_goals (exact ⟨_, _, rfl, rfl, by first | exact al_fst _ _ _ | exact al_snd _ _ _, by first | exact al_snd _ _ _ | exact al_fst _ _ _, by repeat (first | exact Below.refl _ _ | refine Below.drew ?_ | refine bel_new ?_ _)⟩)
      case rest =>
        obtain ⟨p6, p7, rfl, rfl, h6, h7, hb4⟩ := hcut
        obtain ⟨m0, m1, m2, m3, m4, m5⟩ := tk_cells h6
        obtain ⟨z0, z1, z2, z3, z4, z5⟩ := tk_cells h7
        have HB4 := Lib.hid (bel_then HBE.out hb4)
        replace e0 := cell_later hb4 e0
        replace e1 := cell_later hb4 e1
        replace e2 := cell_later hb4 e2
        replace e3 := cell_later hb4 e3
        clear hb4 h6 h7 k0 k1 k2' k3 k4 k5 l0 l1 l2' l3 l4 l5
        by_cases hnm : xn = yn
        case neg =>
          have v1 : (xn.toList == yn.toList) = false := bytes_ne hnm
          have HX := Lib.hid (HOUT.out (by rw [HTU.out, decide_eq_false hnm]; rfl))
          clear hnm
          go_wp2_with fail
          go_ret
          exact ⟨by rw [HX.out]; rfl, HB4.out⟩
        subst hnm
        have v1 : (xn.toList == xn.toList) = true := by simp
        by_cases hkd : x1 = y1
        case neg =>
          have v2 : (x1 != y1) = true := by simpa using hkd
          have HX := Lib.hid (HOUT.out (by rw [HTU.out, decide_eq_false hkd]; simp))
          clear hkd
          go_wp2_with fail
          go_ret
          exact ⟨by rw [HX.out]; rfl, HB4.out⟩
        have v2 : (x1 != y1) = false := by simpa using hkd
        by_cases hcl : x2 = y2
        case neg =>
          have v3 : (x2 != y2) = true := by simpa using hcl
          have HX := Lib.hid (HOUT.out (by rw [HTU.out, decide_eq_false hcl]; simp))
          clear hkd hcl
          go_wp2_with fail
          go_ret
          exact ⟨by rw [HX.out]; rfl, HB4.out⟩
        have v3 : (x2 != y2) = false := by simpa using hcl
        have HT2 := Lib.hid (show t.same u = bs by rw [HTU.out, decide_eq_true hkd, decide_eq_true hcl]; simp)
        clear hkd hcl
        go_wp2_with fail
        refine (HSM.out _ HB4.out).mono ?_
        rintro x w5 ⟨rfl, hb5⟩
        have HB5 := Lib.hid (bel_then HB4.out hb5)
        replace e0 := cell_later hb5 e0
        replace e1 := cell_later hb5 e1
        replace e2 := cell_later hb5 e2
        replace e3 := cell_later hb5 e3
        clear hb5 m0 m1 m2 m3 m4 m5 z0 z1 z2 z3 z4 z5
        cases bs with
        | false =>
          have HX := Lib.hid (HOUT.out HT2.out)
          go_wp2_with fail
          go_ret
          exact ⟨by rw [HX.out]; rfl, HB5.out⟩
        | true =>
          go_wp2_with fail
          go_roundg g
          case measure => omega
          case rel =>
            refine ⟨k + 1, by omega, by simp, fun j a b hj ha hb => ?_, HB5.out, e0, e1, e2, e3⟩
            rcases Nat.lt_or_ge j k with h | h
            · exact HINV.out j a b h ha hb
            · obtain rfl : j = k := by omega
              rw [HP.out.1] at ha; rw [HP.out.2] at hb; cases ha; cases hb; exact HT2.out
    | zero =>
      obtain rfl : k = n := by omega
      have hx1 : decide ((k : Int) < (k : Int)) = false := by simp
      have hx2 : decide (k < k) = false := by simp
      have HR1 := Lib.hid (show rr = allS RU.same R S by
        rw [HRR.out, allS_true (f := TK.same) (l := T) (m := U) (by have := HN.out; omega) (fun i x y hx hy => HINV.out i x y (by have := (List.getElem?_eq_some_iff.1 hx).1; have := HN.out; omega) hx hy)]
        rfl)
      obtain ⟨wo, rfl⟩ : ∃ wo : World, wo = wr := ⟨_, rfl⟩
      clear hbel
      go_wp2_with fail
      go_loopg [8] m (fun g s4 wx => ∃ i : Nat, i + g = m ∧ s4 = .int .i64 (i : Int) ∧ (∀ j x y, j < i → R[j]? = some x → S[j]? = some y → x.same y = true) ∧ Below w.heap.size w wx ∧ wx.cell? ⟨w.heap.size, 1, none⟩ = some (.slice orr m cr) ∧ wx.cell? ⟨w.heap.size + 1, 1, none⟩ = some (.slice os m cs))
      case atStart => exact ⟨0, by omega, rfl, fun j x y hj => by omega, HBE.out, e1, e3⟩
      case round =>
        obtain ⟨i, hig, rfl, hri, hbel, f1, f3⟩ := hrel
        have HRI := Lib.hid hri
        have HBF := Lib.hid hbel
        clear hri e0 e1 e2 e3
        cases gk with
        | zero =>
          obtain rfl : i = m := by omega
          have z1 : decide ((i : Int) < (i : Int)) = false := by simp
          have z2 : decide (i < i) = false := by simp
          have HX := Lib.hid (show rr = true by rw [HR1.out, allS_true (f := RU.same) (l := R) (m := S) (by have := HN.out; omega) (fun j x y hx hy => HRI.out j x y (by have := (List.getElem?_eq_some_iff.1 hx).1; have := HN.out; omega) hx hy)])
          clear hbel
          go_wp2_with fail
          go_ret
          exact ⟨by rw [HX.out]; rfl, HBF.out⟩
        | succ g =>
          have hi : i < m := by omega
          have z1 : decide ((i : Int) < (m : Int)) = true := by simp; omega
          have z2 : decide (i < m) = true := by simpa using hi
          have hi1 : (0 : Int) ≤ (i : Int) := by omega
          have hi2 : (i : Int) < (m : Int) := by omega
          obtain ⟨r, hp⟩ : ∃ p, R[i]? = some p := ⟨_, List.getElem?_eq_getElem (by have := HN.out.1; omega)⟩
          obtain ⟨s, hq⟩ : ∃ p, S[i]? = some p := ⟨_, List.getElem?_eq_getElem (by have := HN.out.2; omega)⟩
          obtain ⟨b0, off, cap, so, sc, hso, hbl, hst, k0, k1, k2⟩ := HGR.out i r hp
          obtain ⟨rfl, -, rfl⟩ : orr = some ⟨b0, off, none⟩ ∧ m = R.length ∧ cr = cap := by injection hso with q1 q2 q3; exact ⟨q1, HN.out.1.2, q3⟩
          obtain ⟨c0, ofg, cap2, to2, tc, hto, hcl, hsu, l0, l1, l2⟩ := HGS.out i s hq
          obtain ⟨rfl, -, rfl⟩ : os = some ⟨c0, ofg, none⟩ ∧ m = S.length ∧ cs = cap2 := by injection hto with q1 q2 q3; exact ⟨q1, HN.out.2.2, q3⟩
          rw [← hbel.cell hbl] at k0 k1 k2
          rw [← hbel.cell hcl] at l0 l1 l2
          obtain ⟨rn, hrn⟩ : ∃ x, x = r.steps.length := ⟨_, rfl⟩
          obtain ⟨sn, hsn⟩ : ∃ x, x = s.steps.length := ⟨_, rfl⟩
          obtain ⟨rc, hrc⟩ : ∃ x, x = r.cls := ⟨_, rfl⟩
          obtain ⟨sc2, hsc2⟩ : ∃ x, x = s.cls := ⟨_, rfl⟩
          obtain ⟨rf, hrf⟩ : ∃ x, x = r.free := ⟨_, rfl⟩
          obtain ⟨sf, hsf⟩ : ∃ x, x = s.free := ⟨_, rfl⟩
          have hrs : r.same s = (decide (rc = sc2) && ((rf == sf) && allS ST.same r.steps s.steps)) := by rw [hrc, hsc2, hrf, hsf]; rfl
          rw [← hrn] at k2
          rw [← hsn] at l2
          rw [← hrc] at k0
          rw [← hsc2] at l0
          rw [← hrf] at k1
          rw [← hsf] at l1
          have HRS := Lib.hid hrs
          have HP := Lib.hid (And.intro hp hq)
          have HST := Lib.hid (And.intro hst (And.intro hsu (And.intro hrn hsn)))
          have HOUT := Lib.hid (fun (h : r.same s = false) => show rr = false by rw [HR1.out, allS_at HP.out.1 HP.out.2 h])
          have hr9 : rn ≤ 1000 := by have := (HG.out.rf i r hp).1; omega
          clear hrs hp hq hst hsu hso hto hrn hsn hrc hsc2 hrf hsf hbl hcl hbel
          go_upto_region 12 with (fail)
          go_cut [9, 10] (fun s9 s10 wx => ∃ p9 p10 : Nat, s9 = .pointer (some ⟨p9, 0, none⟩) ∧ s10 = .pointer (some ⟨p10, 0, none⟩) ∧ wx.heap[p9]? = some (.cells #[.int .i64 rc, .bool rf, .slice so rn sc] 38 (0, 0)) ∧ wx.heap[p10]? = some (.cells #[.int .i64 sc2, .bool sf, .slice to2 sn tc] 38 (0, 0)) ∧ Below wr.heap.size wr wx)
          case first =>
            go_region_held3 (fun w' => (w'.cell? ⟨w.heap.size, 1, none⟩ = some (.slice (some ⟨b0, off, none⟩) m cr) ∧ w'.cell? ⟨w.heap.size + 1, 1, none⟩ = some (.slice (some ⟨c0, ofg, none⟩) m cs)) ∧
                w'.cell? ⟨b0, off + i * 3, none⟩ = some (.int .i64 rc) ∧ w'.cell? ⟨b0, off + i * 3 + 1, none⟩ = some (.bool rf) ∧ w'.cell? ⟨b0, off + i * 3 + 2, none⟩ = some (.slice so rn sc) ∧
                w'.cell? ⟨c0, ofg + i * 3, none⟩ = some (.int .i64 sc2) ∧ w'.cell? ⟨c0, ofg + i * 3 + 1, none⟩ = some (.bool sf) ∧ w'.cell? ⟨c0, ofg + i * 3 + 2, none⟩ = some (.slice to2 sn tc))
              (first | trivial | exact ⟨⟨cell_later (by repeat (first | exact Below.refl _ _ | refine Below.drew ?_ | refine bel_new ?_ _ | refine Below.setCell ?_ (by simp <;> omega) _)) f1, cell_later (by repeat (first | exact Below.refl _ _ | refine Below.drew ?_ | refine bel_new ?_ _ | refine Below.setCell ?_ (by simp <;> omega) _)) f3⟩, cell_later (by repeat (first | exact Below.refl _ _ | refine Below.drew ?_ | refine bel_new ?_ _ | refine Below.setCell ?_ (by simp <;> omega) _)) k0, cell_later (by repeat (first | exact Below.refl _ _ | refine Below.drew ?_ | refine bel_new ?_ _ | refine Below.setCell ?_ (by simp <;> omega) _)) k1, cell_later (by repeat (first | exact Below.refl _ _ | refine Below.drew ?_ | refine bel_new ?_ _ | refine Below.setCell ?_ (by simp <;> omega) _)) k2, cell_later (by repeat (first | exact Below.refl _ _ | refine Below.drew ?_ | refine bel_new ?_ _ | refine Below.setCell ?_ (by simp <;> omega) _)) l0, cell_later (by repeat (first | exact Below.refl _ _ | refine Below.drew ?_ | refine bel_new ?_ _ | refine Below.setCell ?_ (by simp <;> omega) _)) l1, cell_later (by repeat (first | exact Below.refl _ _ | refine Below.drew ?_ | refine bel_new ?_ _ | refine Below.setCell ?_ (by simp <;> omega) _)) l2⟩) (fail)
            all_goals (go_wp2_with fail)
            all_goals go_meet
            all_goals (exact ⟨_, _, rfl, rfl, by first | exact al_fst _ _ _ | exact al_snd _ _ _, by first | exact al_snd _ _ _ | exact al_fst _ _ _, by repeat (first | exact Below.refl _ _ | refine Below.drew ?_ | refine bel_new ?_ _)⟩)
          case rest =>
            obtain ⟨p9, p10, rfl, rfl, h9, h10, hb4⟩ := hcut
            obtain ⟨m0, m1, m2⟩ := ru_cells h9
            obtain ⟨z0, z1', z2'⟩ := ru_cells h10
            have HB4 := Lib.hid (bel_then HBF.out hb4)
            replace f1 := cell_later hb4 f1
            replace f3 := cell_later hb4 f3
            clear hb4 h9 h10 k0 k1 k2 l0 l1 l2
            by_cases hcc : rc = sc2
            case neg =>
              have v1 : (rc != sc2) = true := by simpa using hcc
              have HX := Lib.hid (HOUT.out (by rw [HRS.out, decide_eq_false hcc]; rfl))
              clear hcc
              go_wp2_with fail
              go_ret
              exact ⟨by rw [HX.out]; rfl, HB4.out⟩
            have v1 : (rc != sc2) = false := by simpa using hcc
            by_cases hff : rf = sf
            case neg =>
              have HX := Lib.hid (HOUT.out (by rw [HRS.out, beq_eq_false_iff_ne.2 hff]; simp))
              clear hcc
              cases rf <;> cases sf
              · exact absurd rfl hff
              · clear hff
                go_wp2_with fail
                go_ret
                exact ⟨by rw [HX.out]; rfl, HB4.out⟩
              · clear hff
                go_wp2_with fail
                go_ret
                exact ⟨by rw [HX.out]; rfl, HB4.out⟩
              · exact absurd rfl hff
            have HRS2 := Lib.hid (show r.same s = allS ST.same r.steps s.steps by rw [HRS.out, decide_eq_true hcc, hff]; simp)
            subst hff
            have v2 : (rf != rf) = false := by simp
            clear hcc
            by_cases hll : rn = sn
            case neg =>
              have v3 : ((rn : Int) != (sn : Int)) = true := by simp; omega
              have v4 : (rn != sn) = true := by simpa using hll
              have HX := Lib.hid (HOUT.out (by rw [HRS2.out, allS_len (by have := HST.out.2.2; omega)]))
              clear hll
              go_wp2_with fail
              go_ret
              exact ⟨by rw [HX.out]; rfl, HB4.out⟩
            subst hll
            have v3 : ((rn : Int) != (rn : Int)) = false := by simp
            have v4 : (rn != rn) = false := by simp
            obtain ⟨wu, hwu⟩ : ∃ wu : World, wu = wc := ⟨_, rfl⟩
            rw [← hwu] at m2 z2' f1 f3 HB4
            have HU := Lib.hid (And.intro m2 (And.intro z2' (And.intro f1 f3)))
            rw [hwu] at m2 z2' f1 f3
            go_wp2_with fail
            go_loopg [11] rn (fun g s11 wx => ∃ q : Nat, q + g = rn ∧ s11 = .int .i64 (q : Int) ∧ (∀ j x y, j < q → r.steps[j]? = some x → s.steps[j]? = some y → x.same y = true) ∧ Below wu.heap.size wu wx)
            case atStart => exact ⟨0, by omega, rfl, fun j x y hj => by omega, by rw [hwu]; exact Below.refl _ _⟩
            case round =>
              obtain ⟨q, hqg, rfl, hrq, hbel⟩ := hrel
              have HRQ := Lib.hid hrq
              have HBG := Lib.hid hbel
              have hBW := bel_then HB4.out hbel
              have HBW := Lib.hid hBW
              clear hrq m0 m1 z0 z1' f1 f3 m2 z2' hwu hBW
              have m2 := cell_later HBG.out HU.out.1
              have z2' := cell_later HBG.out HU.out.2.1
              cases gk with
              | zero =>
                obtain rfl : q = rn := by omega
                have w1 : decide ((q : Int) < (q : Int)) = false := by simp
                have w2 : decide (q < q) = false := by simp
                have HX := Lib.hid (show r.same s = true by rw [HRS2.out, allS_true (f := ST.same) (l := r.steps) (m := s.steps) (by have := HST.out.2.2; omega) (fun j x y hx hy => HRQ.out j x y (by have := (List.getElem?_eq_some_iff.1 hx).1; have := HST.out.2.2; omega) hx hy)])
                have f1 := cell_later HBG.out HU.out.2.2.1
                have f3 := cell_later HBG.out HU.out.2.2.2
                clear hbel
                go_wp2_with fail
                go_roundg g
                case measure => omega
                case rel =>
                  refine ⟨i + 1, by omega, by simp, fun j a b hj ha hb => ?_, HBW.out, f1, f3⟩
                  rcases Nat.lt_or_ge j i with h | h
                  · exact HRI.out j a b h ha hb
                  · obtain rfl : j = i := by omega
                    rw [HP.out.1] at ha; rw [HP.out.2] at hb; cases ha; cases hb; exact HX.out
              | succ g2 =>
                have hq : q < rn := by omega
                have w1 : decide ((q : Int) < (rn : Int)) = true := by simp; omega
                have w2 : decide (q < rn) = true := by simpa using hq
                have hq1 : (0 : Int) ≤ (q : Int) := by omega
                have hq2 : (q : Int) < (rn : Int) := by omega
                obtain ⟨x, hx⟩ : ∃ p, r.steps[q]? = some p := ⟨_, List.getElem?_eq_getElem (by have := HST.out.2.2; omega)⟩
                obtain ⟨y, hy⟩ : ∃ p, s.steps[q]? = some p := ⟨_, List.getElem?_eq_getElem (by have := HST.out.2.2; omega)⟩
                obtain ⟨b3, f3, q3, co3, cc3, no3, nc3, eo3, ec3, lo3, lc3, E3, hl3, hrow3, hpt3, u0, u1, u2, u3, u4⟩ := HST.out.1.get hx
                obtain ⟨b4, f4, q4, co4, cc4, no4, nc4, eo4, ec4, lo4, lc4, E4, hl4, hrow4, hpt4, o0, o1, o2, o3, o4⟩ := HST.out.2.1.get hy
                rw [← HST.out.2.2.1] at E3
                rw [← HST.out.2.2.2] at E4
                cases E3
                cases E4
                have hfx := (HG.out.rf i r HP.out.1).2 q x hx
                have hfy := (HH.out.rf i s HP.out.2).2 q y hy
                have htx := fun w' (hb : Below w.heap.size w w') => refTexts_any x.calls y.calls _ _ w' (hrow3.below hb) (hrow4.below hb) (by have := hfx.1; omega) (by have := hfy.1; omega)
                have hsp := fun w' (hb : Below w.heap.size w w') => rsame_all w x.p.size x.p y.p _ _ _ _ _ _ w' (Nat.le_refl _) hfx.2 hfy.2 hpt3 hpt4 hb
                have hxy : x.same y = (decide (x.calls = y.calls) && x.p.same y.p) := rfl
                rw [← HBW.out.cell hl3] at u0 u1 u2 u3 u4
                rw [← HBW.out.cell hl4] at o0 o1 o2 o3 o4
                obtain ⟨xc, hxc⟩ : ∃ z, z = x.calls.length := ⟨_, rfl⟩
                obtain ⟨xk, hxk⟩ : ∃ z, z = x.p.kind := ⟨_, rfl⟩
                obtain ⟨xn, hxn⟩ : ∃ z, z = x.p.names.length := ⟨_, rfl⟩
                obtain ⟨xe, hxe⟩ : ∃ z, z = x.p.ends.length := ⟨_, rfl⟩
                obtain ⟨xl, hxl⟩ : ∃ z, z = x.p.parts.length := ⟨_, rfl⟩
                obtain ⟨yc, hyc⟩ : ∃ z, z = y.calls.length := ⟨_, rfl⟩
                obtain ⟨yk, hyk⟩ : ∃ z, z = y.p.kind := ⟨_, rfl⟩
                obtain ⟨yn, hyn⟩ : ∃ z, z = y.p.names.length := ⟨_, rfl⟩
                obtain ⟨ye, hye⟩ : ∃ z, z = y.p.ends.length := ⟨_, rfl⟩
                obtain ⟨yl, hyl⟩ : ∃ z, z = y.p.parts.length := ⟨_, rfl⟩
                obtain ⟨bt, hbt⟩ : ∃ z, z = decide (x.calls = y.calls) := ⟨_, rfl⟩
                obtain ⟨bp, hbp⟩ : ∃ z, z = x.p.same y.p := ⟨_, rfl⟩
                rw [← hxc, ← hyc, ← hbt] at htx
                rw [← hxk, ← hxn, ← hxe, ← hxl, ← hyk, ← hyn, ← hye, ← hyl, ← hbp] at hsp
                rw [← hbt, ← hbp] at hxy
                rw [← hxc] at u0
                rw [← hxk] at u1
                rw [← hxn] at u2
                rw [← hxe] at u3
                rw [← hxl] at u4
                rw [← hyc] at o0
                rw [← hyk] at o1
                rw [← hyn] at o2
                rw [← hye] at o3
                rw [← hyl] at o4
                have HXY := Lib.hid hxy
                have HXP := Lib.hid (And.intro hx hy)
                obtain ⟨ι, K, hne, hkb, hks⟩ := kept_family wr
                have KB := Lib.hid hkb
                have KS := Lib.hid hks
                have kS := KS.out _ (Below.refl _ _).drew
                have HTX := Lib.hid (fun i => calls_kept hkb hks (htx (K i) (bel_then HBW.out (hkb i))))
                have HSP := Lib.hid (fun i => calls_kept hkb hks (hsp (K i) (bel_then HBW.out (hkb i))))
                have j0 : ∀ i, (K i).cell? ⟨p9, 2, none⟩ = some (.slice (some ⟨b3, f3, none⟩) rn sc) := fun i => cell_later (hkb i) m2
                have j1 : ∀ i, (K i).cell? ⟨p10, 2, none⟩ = some (.slice (some ⟨b4, f4, none⟩) rn tc) := fun i => cell_later (hkb i) z2'
                have j2 : ∀ i, (K i).cell? ⟨b3, f3 + q * 5, none⟩ = some (.slice co3 xc cc3) := fun i => cell_later (hkb i) u0
                have j3 : ∀ i, (K i).cell? ⟨b3, f3 + q * 5 + 1, none⟩ = some (.int .i64 xk) := fun i => cell_later (hkb i) u1
                have j4 : ∀ i, (K i).cell? ⟨b3, f3 + q * 5 + 2, none⟩ = some (.slice no3 xn nc3) := fun i => cell_later (hkb i) u2
                have j5 : ∀ i, (K i).cell? ⟨b3, f3 + q * 5 + 3, none⟩ = some (.slice eo3 xe ec3) := fun i => cell_later (hkb i) u3
                have j6 : ∀ i, (K i).cell? ⟨b3, f3 + q * 5 + 4, none⟩ = some (.slice lo3 xl lc3) := fun i => cell_later (hkb i) u4
                have j7 : ∀ i, (K i).cell? ⟨b4, f4 + q * 5, none⟩ = some (.slice co4 yc cc4) := fun i => cell_later (hkb i) o0
                have j8 : ∀ i, (K i).cell? ⟨b4, f4 + q * 5 + 1, none⟩ = some (.int .i64 yk) := fun i => cell_later (hkb i) o1
                have j9 : ∀ i, (K i).cell? ⟨b4, f4 + q * 5 + 2, none⟩ = some (.slice no4 yn nc4) := fun i => cell_later (hkb i) o2
                have j10 : ∀ i, (K i).cell? ⟨b4, f4 + q * 5 + 3, none⟩ = some (.slice eo4 ye ec4) := fun i => cell_later (hkb i) o3
                have j11 : ∀ i, (K i).cell? ⟨b4, f4 + q * 5 + 4, none⟩ = some (.slice lo4 yl lc4) := fun i => cell_later (hkb i) o4
                clear htx hsp hxy hx hy hrow3 hrow4 hpt3 hpt4 hfx hfy hxc hxk hxn hxe hxl hyc hyk hyn hye hyl hbt hbp hkb hks hl3 hl4 u0 u1 u2 u3 u4 o0 o1 o2 o3 o4 hbel
                go_upto_region 18 with (fail)
                cases bt with
                | false =>
                  have HX := Lib.hid (HOUT.out (by rw [HRS2.out]; exact allS_at HXP.out.1 HXP.out.2 HXY.out))
                  refine region_kept K (by kernel_rfl) (by kernel_rfl) kS ?_
                  repeat (go_big_quiet_step (exact HTX.out _))
                  refine wpQuiet_nil ?_
                  rintro _ ⟨iw, rfl⟩
                  have HB6 := Lib.hid (bel_then HBW.out (KB.out iw))
                  go_wp2_with fail
                  go_ret
                  exact ⟨by rw [HX.out]; rfl, HB6.out⟩
                | true =>
                  refine region_kept K (by kernel_rfl) (by kernel_rfl) kS ?_
                  repeat (go_big_quiet_step (first | exact HTX.out _ | exact HSP.out _))
                  refine wpQuiet_nil ?_
                  rintro _ ⟨iw, rfl⟩
                  have HB6 := Lib.hid (bel_then HBW.out (KB.out iw))
                  have HB7 := Lib.hid (bel_then HBG.out (KB.out iw))
                  cases bp with
                  | false =>
                    have HX := Lib.hid (HOUT.out (by rw [HRS2.out]; exact allS_at HXP.out.1 HXP.out.2 HXY.out))
                    go_wp2_with fail
                    go_ret
                    exact ⟨by rw [HX.out]; rfl, HB6.out⟩
                  | true =>
                    go_wp2_with fail
                    go_roundg g2
                    case measure => omega
                    case rel =>
                      refine ⟨q + 1, by omega, by simp, fun j a b hj ha hb => ?_, HB7.out⟩
                      rcases Nat.lt_or_ge j q with h | h
                      · exact HRQ.out j a b h ha hb
                      · obtain rfl : j = q := by omega
                        rw [HXP.out.1] at ha; rw [HXP.out.2] at hb; cases ha; cases hb; exact HXY.out
end Go.Proofs.Ytkmnigoikkffnaa
