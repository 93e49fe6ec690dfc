/- Few of grammars: what gobolaw11.Few tells of one. -/
import Derived.Test.YtbanmggkfpnalaaGreatDoorGFew
import Derived.Deep.CutBlock
set_option linter.unusedVariables false
set_option linter.unusedSimpArgs false
namespace Go.Proofs.YtbanmggkfpnalaaGreatDoor
open Go.RowKit Ru

structure FewG (T : List TK) (R : List RU) : Prop where
  tl : T.length ≤ 20
  rl : R.length ≤ 10
  tf : TFit T
  ts : ∀ (i : Nat) (t : TK), T[i]? = some t → t.re.size ≤ 1000
  rf : RFit R
  sz : ∀ (i : Nat) (r : RU), R[i]? = some r → ∀ (j : Nat) (s : ST), r.steps[j]? = some s → s.p.size ≤ 1000
def okST (s : ST) : Prop := (s.calls.length ≤ 1000 ∧ s.p.Fit) ∧ s.p.size ≤ 1000
def okRU (r : RU) : Prop := r.steps.length ≤ 1000 ∧ ∀ (j : Nat) (s : ST), r.steps[j]? = some s → okST s
set_option maxHeartbeats 8000000 in
set_option maxRecDepth 100000 in
theorem gfew_any (T : List TK) (R : List RU) (tv rv : Value) (w : World) (hT : TksAre w tv T) (hR : RusAre w rv R) (hTr : TRaw T) :
    Calls Tryz.prog 13 #[.agg #[tv, rv]] w fun x w' => (∃ b : Bool, x = .returned (.bool b) ∧ (b = true → FewG T R)) ∧ Below w.heap.size w w' := by
  obtain ⟨ot, ct, nmx, kdx, clx, rkx, sox, snx, scx, lox, lnx, lcx, rfl, hall⟩ := hT.all
  obtain ⟨orr, cr, rfl⟩ := hR.form
  obtain ⟨n, hn⟩ : ∃ x, x = T.length := ⟨_, rfl⟩
  obtain ⟨m, hm⟩ : ∃ x, x = R.length := ⟨_, rfl⟩
  rw [← hn, ← hm]
  have HALL := Lib.hid hall
  have HGET := Lib.hid (fun (i : Nat) (s : RU) (h : R[i]? = some s) => hR.get h)
  have HTR := Lib.hid hTr
  have HN := Lib.hid (And.intro hn hm)
  have hB1 : ∀ (x : Obj), Below w.heap.size w (w.alloc x) := fun x => bel_new (Below.refl _ _) _
  clear hall hT hR hTr hn hm
  by_cases h1 : 20 < n
  · have d1 : decide ((20 : Int) < (n : Int)) = true := by simp; omega
    have d2 : decide (20 < n) = true := by simp; omega
    go_enter Tryz.func13, Tryz.ntmps13
    go_wp2_with fail
    go_ret
    exact ⟨⟨false, rfl, fun h => by cases h⟩, hB1 _⟩
  have d1 : decide ((20 : Int) < (n : Int)) = false := by simp; omega
  have d2 : decide (20 < n) = false := by simp; omega
  by_cases h2 : 10 < m
  · have d3 : decide ((10 : Int) < (m : Int)) = true := by simp; omega
    have d4 : decide (10 < m) = true := by simp; omega
    go_enter Tryz.func13, Tryz.ntmps13
    go_wp2_with fail
    go_ret
    exact ⟨⟨false, rfl, fun h => by cases h⟩, hB1 _⟩
  have d3 : decide ((10 : Int) < (m : Int)) = false := by simp; omega
  have d4 : decide (10 < m) = false := by simp; omega
  have hn20 : n ≤ 20 := by omega
  have hm10 : m ≤ 10 := by omega
  clear h1 h2
  obtain ⟨wB, hwB⟩ : ∃ wB, wB = w.alloc (.cells #[.slice ot n ct, .slice orr m cr] 35) := ⟨_, rfl⟩
  have HWB := Lib.hid (show Below w.heap.size w wB ∧ wB.cell? ⟨w.heap.size, 0, none⟩ = some (.slice ot n ct) ∧ wB.cell? ⟨w.heap.size, 1, none⟩ = some (.slice orr m cr) by rw [hwB]; exact ⟨hB1 _, by simp [go_sem], by simp [go_sem]⟩)
  go_enter Tryz.func13, Tryz.ntmps13
  go_wp2_with fail
  rw [← hwB]
  clear hwB hB1
  go_loopg [3] n (fun g s3 wx => ∃ k : Nat, k + g = n ∧ s3 = .int .i64 (k : Int) ∧ (∀ j t, j < k → T[j]? = some t → (t.name.size ≤ 1000 ∧ t.re.Fit) ∧ t.re.size ≤ 1000) ∧ Below w.heap.size w wx ∧ wx.cell? ⟨w.heap.size, 0, none⟩ = some (.slice ot n ct) ∧ wx.cell? ⟨w.heap.size, 1, none⟩ = some (.slice orr m cr))
  case atStart => exact ⟨0, by omega, rfl, fun j t hj => by omega, HWB.out⟩
  case round =>
    obtain ⟨k, hkg, rfl, hinv, hbel, e0, e1⟩ := hrel
    have HINV := Lib.hid hinv
    have HBE := Lib.hid hbel
    clear hinv
    cases gk with
    | succ g =>
      have hk : k < n := by omega
      have hx1 : decide ((k : Int) < (n : Int)) = true := by simp; omega
      have hx2 : decide (k < n) = true := by simpa using hk
      have hk1 : (0 : Int) ≤ (k : Int) := by omega
      have hk2 : (k : Int) < (n : Int) := by omega
      obtain ⟨t, hp⟩ : ∃ p, T[k]? = some p := ⟨_, List.getElem?_eq_getElem (by have := HN.out.1; omega)⟩
      obtain ⟨q1, q2, q3, q4, hre, b0, off, rfl, hbl, k0, k1, k2', k3, k4, k5⟩ := HALL.out k t hp
      have hfe := fun w' (hb : Below w.heap.size w w') => few_any t.re _ _ w' (hre.moved hb) (HTR.out k t hp)
      rw [← q4] at hfe
      rw [← hbel.cell hbl] at k0 k1 k2' k3 k4 k5
      obtain ⟨xn, hxn⟩ : ∃ x, x = nmx k := ⟨_, rfl⟩
      obtain ⟨x3, hx3⟩ : ∃ x, x = rkx k := ⟨_, rfl⟩
      obtain ⟨x4, hx4⟩ : ∃ x, x = sox k := ⟨_, rfl⟩
      obtain ⟨x5, hx5⟩ : ∃ x, x = snx k := ⟨_, rfl⟩
      obtain ⟨x6, hx6⟩ : ∃ x, x = scx k := ⟨_, rfl⟩
      obtain ⟨x7, hx7⟩ : ∃ x, x = lox k := ⟨_, rfl⟩
      obtain ⟨x8, hx8⟩ : ∃ x, x = lnx k := ⟨_, rfl⟩
      obtain ⟨x9, hx9⟩ : ∃ x, x = lcx k := ⟨_, rfl⟩
      rw [← hx3, ← hx4, ← hx5, ← hx6, ← hx7, ← hx8, ← hx9] at hfe
      rw [← hxn] at k0 q1
      rw [← hx3] at k3
      rw [← hx4, ← hx5, ← hx6] at k4
      rw [← hx7, ← hx8, ← hx9] at k5
      have HFE := Lib.hid hfe
      have HP := Lib.hid (And.intro hp q1)
      clear hfe hp hre hbl hbel q1 q2 q3 q4 hxn hx3 hx4 hx5 hx6 hx7 hx8 hx9
      go_wp2_with fail
      refine (HFE.out _ HBE.out).mono ?_
      rintro x w3 ⟨⟨b, rfl, hb⟩, hb3⟩
      have g0 := cell_later hb3 e0
      have g1 := cell_later hb3 e1
      have gn := cell_later hb3 k0
      have HB3 := Lib.hid (bel_then HBE.out hb3)
      have HFB := Lib.hid hb
      clear hb3 hb k0 k1 k2' k3 k4 k5 e0 e1
      cases b with
      | false =>
        go_wp2_with fail
        go_ret
        exact ⟨⟨false, rfl, fun h => by cases h⟩, HB3.out⟩
      | true =>
        by_cases hn1 : 100 < xn.size
        · have y1 : decide ((100 : Int) < (xn.size : Int)) = true := by simp; omega
          have y2 : decide (100 < xn.size) = true := by simp; omega
          go_wp2_with fail
          go_ret
          exact ⟨⟨false, rfl, fun h => by cases h⟩, HB3.out⟩
        · have y1 : decide ((100 : Int) < (xn.size : Int)) = false := by simp; omega
          have y2 : decide (100 < xn.size) = false := by simp; omega
          have HNS := Lib.hid hn1
          clear hn1
          go_wp2_with fail
          go_roundg g
          case measure => omega
          case rel =>
            refine ⟨k + 1, by omega, by simp, fun j u hj hu => ?_, HB3.out, g0, g1⟩
            rcases Nat.lt_or_ge j k with h | h
            · exact HINV.out j u h hu
            · obtain rfl : j = k := by omega
              rw [HP.out.1] at hu; cases hu
              exact ⟨⟨by have := HNS.out; have := HP.out.2; rw [← this]; omega, (HFB.out (by first | rfl | trivial)).2⟩, by have := (HFB.out (by first | rfl | trivial)).1; omega⟩
    | zero =>
      obtain rfl : k = n := by omega
      have hx1 : decide ((k : Int) < (k : Int)) = false := by simp
      have hx2 : decide (k < k) = false := by simp
      have HTF := Lib.hid (show ∀ i t, T[i]? = some t → (t.name.size ≤ 1000 ∧ t.re.Fit) ∧ t.re.size ≤ 1000 from fun i t ht => HINV.out i t (by have := (List.getElem?_eq_some_iff.1 ht).1; have := HN.out.1; omega) ht)
      obtain ⟨wo, rfl⟩ : ∃ wo : World, wo = wr := ⟨_, rfl⟩
      clear hbel
      go_wp2_with fail
      go_loopg [4] m (fun g s4 wx => ∃ i : Nat, i + g = m ∧ s4 = .int .i64 (i : Int) ∧ (∀ j r, j < i → R[j]? = some r → okRU r) ∧ Below w.heap.size w wx ∧ wx.cell? ⟨w.heap.size, 0, none⟩ = some (.slice ot k ct) ∧ wx.cell? ⟨w.heap.size, 1, none⟩ = some (.slice orr m cr))
      case atStart => exact ⟨0, by omega, rfl, fun j t hj => by omega, HBE.out, e0, e1⟩
      case round =>
        obtain ⟨i, hig, rfl, hri, hbel, f0, f1⟩ := hrel
        have HRI := Lib.hid hri
        have HBF := Lib.hid hbel
        clear hri
        cases gk with
        | zero =>
          obtain rfl : i = m := by omega
          have z1 : decide ((i : Int) < (i : Int)) = false := by simp
          have z2 : decide (i < i) = false := by simp
          have HX := Lib.hid (show FewG T R from ⟨by have := HN.out.1; omega, by have := HN.out.2; omega, fun i t ht => (HTF.out i t ht).1, fun i t ht => (HTF.out i t ht).2, fun j r hr => by
            have := HRI.out j r (by have := (List.getElem?_eq_some_iff.1 hr).1; have := HN.out.2; omega) hr
            exact ⟨this.1, fun q s hs => (this.2 q s hs).1⟩, fun j r hr q s hs => by
            have := HRI.out j r (by have := (List.getElem?_eq_some_iff.1 hr).1; have := HN.out.2; omega) hr
            exact (this.2 q s hs).2⟩)
          clear hbel
          go_wp2_with fail
          go_ret
          exact ⟨⟨true, rfl, fun _ => HX.out⟩, HBF.out⟩
        | succ g =>
          have hi : i < m := by omega
          have z1 : decide ((i : Int) < (m : Int)) = true := by simp; omega
          have z2 : decide (i < m) = true := by simpa using hi
          have hi1 : (0 : Int) ≤ (i : Int) := by omega
          have hi2 : (i : Int) < (m : Int) := by omega
          obtain ⟨r, hp⟩ : ∃ p, R[i]? = some p := ⟨_, List.getElem?_eq_getElem (by have := HN.out.2; omega)⟩
          obtain ⟨b0, off, cap, so, sc, hso, hbl, hst, k0, k1, k2⟩ := HGET.out i r hp
          obtain ⟨rfl, -, rfl⟩ : orr = some ⟨b0, off, none⟩ ∧ m = R.length ∧ cr = cap := by injection hso with q1 q2 q3; exact ⟨q1, HN.out.2, q3⟩
          obtain ⟨sl, hsl⟩ : ∃ x, x = r.steps.length := ⟨_, rfl⟩
          have HSG := Lib.hid (fun (q : Nat) (s : ST) (h : r.steps[q]? = some s) => hst.get h)
          rw [← hsl] at k2
          have HSL := Lib.hid hsl
          have HP := Lib.hid hp
          have HBL := Lib.hid hbl
          have HK2 := Lib.hid k2
          rw [← hbel.cell hbl] at k2
          clear hsl hp hst hso k0 k1 hbl hbel
          by_cases h6 : 6 < sl
          · have y1 : decide ((6 : Int) < (sl : Int)) = true := by simp; omega
            have y2 : decide (6 < sl) = true := by simp; omega
            go_wp2_with fail
            go_ret
            exact ⟨⟨false, rfl, fun h => by cases h⟩, HBF.out⟩
          have y1 : decide ((6 : Int) < (sl : Int)) = false := by simp; omega
          have y2 : decide (6 < sl) = false := by simp; omega
          have hs6 : sl ≤ 6 := by omega
          clear h6
          obtain ⟨wu, hwu⟩ : ∃ wu : World, wu = wr := ⟨_, rfl⟩
          go_wp2_with fail
          go_loopg [5] sl (fun g s5 wx => ∃ q : Nat, q + g = sl ∧ s5 = .int .i64 (q : Int) ∧ (∀ j s, j < q → r.steps[j]? = some s → okST s) ∧ Below w.heap.size w wx ∧ wx.cell? ⟨w.heap.size, 0, none⟩ = some (.slice ot k ct) ∧ wx.cell? ⟨w.heap.size, 1, none⟩ = some (.slice (some ⟨b0, off, none⟩) m cr))
          case atStart => exact ⟨0, by omega, rfl, fun j t hj => by omega, HBF.out, f0, f1⟩
          case round =>
            obtain ⟨q, hqg, rfl, hrq, hbel, l0, l1⟩ := hrel
            have HRQ := Lib.hid hrq
            have HBG := Lib.hid hbel
            clear hrq
            have hcR := (hbel.cell HBL.out).trans HK2.out
            cases gk with
            | zero =>
              obtain rfl : q = sl := by omega
              have v1 : decide ((q : Int) < (q : Int)) = false := by simp
              have v2 : decide (q < q) = false := by simp
              clear hbel k2 f0 f1
              go_wp2_with fail
              go_roundg g
              case measure => omega
              case rel =>
                refine ⟨i + 1, by omega, by simp, fun j u hj hu => ?_, HBG.out, l0, l1⟩
                rcases Nat.lt_or_ge j i with h | h
                · exact HRI.out j u h hu
                · obtain rfl : j = i := by omega
                  rw [HP.out] at hu; cases hu
                  exact ⟨by have := HSL.out; omega, fun a s hs => HRQ.out a s (by have := (List.getElem?_eq_some_iff.1 hs).1; have := HSL.out; omega) hs⟩
            | succ g2 =>
              have hq : q < sl := by omega
              have v1 : decide ((q : Int) < (sl : Int)) = true := by simp; omega
              have v2 : decide (q < sl) = true := by simpa using hq
              have hq1 : (0 : Int) ≤ (q : Int) := by omega
              have hq2 : (q : Int) < (sl : Int) := by omega
              obtain ⟨s, hs⟩ : ∃ p, r.steps[q]? = some p := ⟨_, List.getElem?_eq_getElem (by have := HSL.out; omega)⟩
              obtain ⟨b1, off1, cap1, co, cc, no, nc, eo, ec, lo, lc, hso, hbl1, hrow, hpt, m0, m1, m2, m3, m4⟩ := HSG.out q s hs
              obtain ⟨rfl, -, rfl⟩ : so = some ⟨b1, off1, none⟩ ∧ sl = r.steps.length ∧ sc = cap1 := by injection hso with q1 q2 q3; exact ⟨q1, HSL.out, q3⟩
              rw [← hbel.cell hbl1] at m0 m1 m2 m3 m4
              have hpz := fun w' (hb : Below w.heap.size w w') => pz_all w s.p.size s.p _ _ _ 1 w' (Nat.le_refl _) hpt hb (by omega)
              obtain ⟨cn, hcn⟩ : ∃ x, x = s.calls.length := ⟨_, rfl⟩
              obtain ⟨pk, hpk⟩ : ∃ x, x = s.p.kind := ⟨_, rfl⟩
              obtain ⟨nn, hnn⟩ : ∃ x, x = s.p.names.length := ⟨_, rfl⟩
              obtain ⟨en, hen⟩ : ∃ x, x = s.p.ends.length := ⟨_, rfl⟩
              obtain ⟨ln, hln⟩ : ∃ x, x = s.p.parts.length := ⟨_, rfl⟩
              rw [← hpk, ← hnn, ← hen, ← hln] at hpz
              rw [← hcn] at m0
              rw [← hpk] at m1
              rw [← hnn] at m2
              rw [← hen] at m3
              rw [← hln] at m4
              have HPZ := Lib.hid hpz
              have HS := Lib.hid (And.intro hs hcn)
              clear hpz hs hrow hpt hso hbl1 hbel hcn hpk hnn hen hln
              go_wp2_with fail
              refine (HPZ.out _ (by exact bel_new HBG.out _)).mono ?_
              rintro x w3 ⟨⟨z, rfl, hz1, hz2, hz3⟩, hb3⟩
              have HZ3 := Lib.hid hz3
              have g0 : w3.cell? ⟨w.heap.size, 0, none⟩ = some (.slice ot k ct) := cell_later hb3 (cell_later (bel_new (Below.refl _ _) _) l0)
              have g1 : w3.cell? ⟨w.heap.size, 1, none⟩ = some (.slice (some ⟨b0, off, none⟩) m cr) := cell_later hb3 (cell_later (bel_new (Below.refl _ _) _) l1)
              have gc : w3.cell? ⟨wr.heap.size, 0, none⟩ = some (.slice co cn cc) := cell_later hb3 (by simp [go_sem])
              have HB3 := Lib.hid (bel_then (bel_new HBG.out _) hb3)
              clear hb3 hz3 m0 m1 m2 m3 m4 l0 l1
              by_cases hz : 200 < z
              · have u1 : decide ((200 : Int) < (z : Int)) = true := by simp; omega
                have u2 : decide (200 < z) = true := by simp; omega
                go_wp2_with fail
                go_ret
                exact ⟨⟨false, rfl, fun h => by cases h⟩, HB3.out⟩
              have u1 : decide ((200 : Int) < (z : Int)) = false := by simp; omega
              have u2 : decide (200 < z) = false := by simp; omega
              by_cases hc : 20 < cn
              · have u3 : decide ((20 : Int) < (cn : Int)) = true := by simp; omega
                have u4 : decide (20 < cn) = true := by simp; omega
                go_wp2_with fail
                go_ret
                exact ⟨⟨false, rfl, fun h => by cases h⟩, HB3.out⟩
              have u3 : decide ((20 : Int) < (cn : Int)) = false := by simp; omega
              have u4 : decide (20 < cn) = false := by simp; omega
              have HOK := Lib.hid (show okST s from ⟨⟨by have := HS.out.2; omega, (HZ3.out (by omega)).2⟩, by have := (HZ3.out (by omega)).1; omega⟩)
              clear hz hc
              go_wp2_with fail
              go_roundg g2
              case measure => omega
              case rel =>
                refine ⟨q + 1, by omega, by simp, fun j u hj hu => ?_, HB3.out, g0, g1⟩
                rcases Nat.lt_or_ge j q with h | h
                · exact HRQ.out j u h hu
                · obtain rfl : j = q := by omega
                  rw [HS.out.1] at hu; cases hu
                  exact HOK.out
end Go.Proofs.YtbanmggkfpnalaaGreatDoor
