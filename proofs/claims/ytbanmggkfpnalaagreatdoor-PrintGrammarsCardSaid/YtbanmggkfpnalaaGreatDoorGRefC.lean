/- The document's grammars: goboref11.Check. -/
import Derived.Deep.CutBlock
import Derived.Test.YtbanmggkfpnalaaGreatDoorGRefE
import Derived.Deep.RegionHeld3
import Derived.Test.YtbanmggkfpnalaaGreatDoorGFit
set_option linter.unusedVariables false
set_option linter.unusedSimpArgs false
namespace Go.Proofs.YtbanmggkfpnalaaGreatDoor
open Go.RowKit Ru

structure FewG (T : List TK) (R : List RU) : Prop where
  tl : T.length ≤ 20
  rl : R.length ≤ 10
  tf : TFit T
  ts : ∀ (i : Nat) (t : TK), T[i]? = some t → t.re.size ≤ 1000
  rf : RFit R
  sz : ∀ (i : Nat) (r : RU), R[i]? = some r → ∀ (j : Nat) (s : ST), r.steps[j]? = some s → s.p.size ≤ 1000
def okST (s : ST) : Prop := (s.calls.length ≤ 1000 ∧ s.p.Fit) ∧ s.p.size ≤ 1000
def okRU (r : RU) : Prop := r.steps.length ≤ 1000 ∧ ∀ (j : Nat) (s : ST), r.steps[j]? = some s → okST s
set_option maxHeartbeats 8000000 in
set_option maxRecDepth 100000 in
theorem gfew_any (T : List TK) (R : List RU) (tv rv : Value) (w : World) (hT : TksAre w tv T) (hR : RusAre w rv R) (hTr : TRaw T) :
    Calls Tryz.prog 13 #[.agg #[tv, rv]] w fun x w' => (∃ b : Bool, x = .returned (.bool b) ∧ (b = true → FewG T R)) ∧ Below w.heap.size w w' := by
  obtain ⟨ot, ct, nmx, kdx, clx, rkx, sox, snx, scx, lox, lnx, lcx, rfl, hall⟩ := hT.all
  obtain ⟨orr, cr, rfl⟩ := hR.form
  obtain ⟨n, hn⟩ : ∃ x, x = T.length := ⟨_, rfl⟩
  obtain ⟨m, hm⟩ : ∃ x, x = R.length := ⟨_, rfl⟩
  rw [← hn, ← hm]
  have HALL := Lib.hid hall
  have HGET := Lib.hid (fun (i : Nat) (s : RU) (h : R[i]? = some s) => hR.get h)
  have HTR := Lib.hid hTr
  have HN := Lib.hid (And.intro hn hm)
  have hB1 : ∀ (x : Obj), Below w.heap.size w (w.alloc x) := fun x => bel_new (Below.refl _ _) _
  clear hall hT hR hTr hn hm
  by_cases h1 : 20 < n
  · have d1 : decide ((20 : Int) < (n : Int)) = true := by simp; omega
    have d2 : decide (20 < n) = true := by simp; omega
    go_enter Tryz.func13, Tryz.ntmps13
    go_wp2_with fail
    go_ret
    exact ⟨⟨false, rfl, fun h => by cases h⟩, hB1 _⟩
  have d1 : decide ((20 : Int) < (n : Int)) = false := by simp; omega
  have d2 : decide (20 < n) = false := by simp; omega
  by_cases h2 : 10 < m
  · have d3 : decide ((10 : Int) < (m : Int)) = true := by simp; omega
    have d4 : decide (10 < m) = true := by simp; omega
    go_enter Tryz.func13, Tryz.ntmps13
    go_wp2_with fail
    go_ret
    exact ⟨⟨false, rfl, fun h => by cases h⟩, hB1 _⟩
  have d3 : decide ((10 : Int) < (m : Int)) = false := by simp; omega
  have d4 : decide (10 < m) = false := by simp; omega
  have hn20 : n ≤ 20 := by omega
  have hm10 : m ≤ 10 := by omega
  clear h1 h2
  obtain ⟨wB, hwB⟩ : ∃ wB, wB = w.alloc (.cells #[.slice ot n ct, .slice orr m cr] 35) := ⟨_, rfl⟩
  have HWB := Lib.hid (show Below w.heap.size w wB ∧ wB.cell? ⟨w.heap.size, 0, none⟩ = some (.slice ot n ct) ∧ wB.cell? ⟨w.heap.size, 1, none⟩ = some (.slice orr m cr) by rw [hwB]; exact ⟨hB1 _, by simp [go_sem], by simp [go_sem]⟩)
  go_enter Tryz.func13, Tryz.ntmps13
  go_wp2_with fail
  rw [← hwB]
  clear hwB hB1
  go_loopg [3] n (fun g s3 wx => ∃ k : Nat, k + g = n ∧ s3 = .int .i64 (k : Int) ∧ (∀ j t, j < k → T[j]? = some t → (t.name.size ≤ 1000 ∧ t.re.Fit) ∧ t.re.size ≤ 1000) ∧ Below w.heap.size w wx ∧ wx.cell? ⟨w.heap.size, 0, none⟩ = some (.slice ot n ct) ∧ wx.cell? ⟨w.heap.size, 1, none⟩ = some (.slice orr m cr))
  case atStart => exact ⟨0, by omega, rfl, fun j t hj => by omega, HWB.out⟩
  case round =>
    obtain ⟨k, hkg, rfl, hinv, hbel, e0, e1⟩ := hrel
    have HINV := Lib.hid hinv
    have HBE := Lib.hid hbel
    clear hinv
    cases gk with
    | succ g =>
      have hk : k < n := by omega
      have hx1 : decide ((k : Int) < (n : Int)) = true := by simp; omega
      have hx2 : decide (k < n) = true := by simpa using hk
      have hk1 : (0 : Int) ≤ (k : Int) := by omega
      have hk2 : (k : Int) < (n : Int) := by omega
      obtain ⟨t, hp⟩ : ∃ p, T[k]? = some p := ⟨_, List.getElem?_eq_getElem (by have := HN.out.1; omega)⟩
      obtain ⟨q1, q2, q3, q4, hre, b0, off, rfl, hbl, k0, k1, k2', k3, k4, k5⟩ := HALL.out k t hp
      have hfe := fun w' (hb : Below w.heap.size w w') => few_any t.re _ _ w' (hre.moved hb) (HTR.out k t hp)
      rw [← q4] at hfe
      rw [← hbel.cell hbl] at k0 k1 k2' k3 k4 k5
      obtain ⟨xn, hxn⟩ : ∃ x, x = nmx k := ⟨_, rfl⟩
      obtain ⟨x3, hx3⟩ : ∃ x, x = rkx k := ⟨_, rfl⟩
      obtain ⟨x4, hx4⟩ : ∃ x, x = sox k := ⟨_, rfl⟩
      obtain ⟨x5, hx5⟩ : ∃ x, x = snx k := ⟨_, rfl⟩
      obtain ⟨x6, hx6⟩ : ∃ x, x = scx k := ⟨_, rfl⟩
      obtain ⟨x7, hx7⟩ : ∃ x, x = lox k := ⟨_, rfl⟩
      obtain ⟨x8, hx8⟩ : ∃ x, x = lnx k := ⟨_, rfl⟩
      obtain ⟨x9, hx9⟩ : ∃ x, x = lcx k := ⟨_, rfl⟩
      rw [← hx3, ← hx4, ← hx5, ← hx6, ← hx7, ← hx8, ← hx9] at hfe
      rw [← hxn] at k0 q1
      rw [← hx3] at k3
      rw [← hx4, ← hx5, ← hx6] at k4
      rw [← hx7, ← hx8, ← hx9] at k5
      have HFE := Lib.hid hfe
      have HP := Lib.hid (And.intro hp q1)
      clear hfe hp hre hbl hbel q1 q2 q3 q4 hxn hx3 hx4 hx5 hx6 hx7 hx8 hx9
      go_wp2_with fail
      refine (HFE.out _ HBE.out).mono ?_
      rintro x w3 ⟨⟨b, rfl, hb⟩, hb3⟩
      have g0 := cell_later hb3 e0
      have g1 := cell_later hb3 e1
      have gn := cell_later hb3 k0
      have HB3 := Lib.hid (bel_then HBE.out hb3)
      have HFB := Lib.hid hb
      clear hb3 hb k0 k1 k2' k3 k4 k5 e0 e1
      cases b with
      | false =>
        go_wp2_with fail
        go_ret
        exact ⟨⟨false, rfl, fun h => by cases h⟩, HB3.out⟩
      | true =>
        by_cases hn1 : 100 < xn.size
        · have y1 : decide ((100 : Int) < (xn.size : Int)) = true := by simp; omega
          have y2 : decide (100 < xn.size) = true := by simp; omega
          go_wp2_with fail
          go_ret
          exact ⟨⟨false, rfl, fun h => by cases h⟩, HB3.out⟩
        · have y1 : decide ((100 : Int) < (xn.size : Int)) = false := by simp; omega
          have y2 : decide (100 < xn.size) = false := by simp; omega
          have HNS := Lib.hid hn1
          clear hn1
          go_wp2_with fail
          go_roundg g
          case measure => omega
          case rel =>
            refine ⟨k + 1, by omega, by simp, fun j u hj hu => ?_, HB3.out, g0, g1⟩
            rcases Nat.lt_or_ge j k with h | h
            · exact HINV.out j u h hu
            · obtain rfl : j = k := by omega
              rw [HP.out.1] at hu; cases hu
              exact ⟨⟨by have := HNS.out; have := HP.out.2; rw [← this]; omega, (HFB.out (by first | rfl | trivial)).2⟩, by have := (HFB.out (by first | rfl | trivial)).1; omega⟩
    | zero =>
      obtain rfl : k = n := by omega
      have hx1 : decide ((k : Int) < (k : Int)) = false := by simp
      have hx2 : decide (k < k) = false := by simp
      have HTF := Lib.hid (show ∀ i t, T[i]? = some t → (t.name.size ≤ 1000 ∧ t.re.Fit) ∧ t.re.size ≤ 1000 from fun i t ht => HINV.out i t (by have := (List.getElem?_eq_some_iff.1 ht).1; have := HN.out.1; omega) ht)
      obtain ⟨wo, rfl⟩ : ∃ wo : World, wo = wr := ⟨_, rfl⟩
      clear hbel
      go_wp2_with fail
      go_loopg [4] m (fun g s4 wx => ∃ i : Nat, i + g = m ∧ s4 = .int .i64 (i : Int) ∧ (∀ j r, j < i → R[j]? = some r → okRU r) ∧ Below w.heap.size w wx ∧ wx.cell? ⟨w.heap.size, 0, none⟩ = some (.slice ot k ct) ∧ wx.cell? ⟨w.heap.size, 1, none⟩ = some (.slice orr m cr))
      case atStart => exact ⟨0, by omega, rfl, fun j t hj => by omega, HBE.out, e0, e1⟩
      case round =>
        obtain ⟨i, hig, rfl, hri, hbel, f0, f1⟩ := hrel
        have HRI := Lib.hid hri
        have HBF := Lib.hid hbel
        clear hri
        cases gk with
        | zero =>
          obtain rfl : i = m := by omega
          have z1 : decide ((i : Int) < (i : Int)) = false := by simp
          have z2 : decide (i < i) = false := by simp
          have HX := Lib.hid (show FewG T R from ⟨by have := HN.out.1; omega, by have := HN.out.2; omega, fun i t ht => (HTF.out i t ht).1, fun i t ht => (HTF.out i t ht).2, fun j r hr => by
            have := HRI.out j r (by have := (List.getElem?_eq_some_iff.1 hr).1; have := HN.out.2; omega) hr
            exact ⟨this.1, fun q s hs => (this.2 q s hs).1⟩, fun j r hr q s hs => by
            have := HRI.out j r (by have := (List.getElem?_eq_some_iff.1 hr).1; have := HN.out.2; omega) hr
            exact (this.2 q s hs).2⟩)
          clear hbel
          go_wp2_with fail
          go_ret
          exact ⟨⟨true, rfl, fun _ => HX.out⟩, HBF.out⟩
        | succ g =>
          have hi : i < m := by omega
          have z1 : decide ((i : Int) < (m : Int)) = true := by simp; omega
          have z2 : decide (i < m) = true := by simpa using hi
          have hi1 : (0 : Int) ≤ (i : Int) := by omega
          have hi2 : (i : Int) < (m : Int) := by omega
          obtain ⟨r, hp⟩ : ∃ p, R[i]? = some p := ⟨_, List.getElem?_eq_getElem (by have := HN.out.2; omega)⟩
          obtain ⟨b0, off, cap, so, sc, hso, hbl, hst, k0, k1, k2⟩ := HGET.out i r hp
          obtain ⟨rfl, -, rfl⟩ : orr = some ⟨b0, off, none⟩ ∧ m = R.length ∧ cr = cap := by injection hso with q1 q2 q3; exact ⟨q1, HN.out.2, q3⟩
          obtain ⟨sl, hsl⟩ : ∃ x, x = r.steps.length := ⟨_, rfl⟩
          have HSG := Lib.hid (fun (q : Nat) (s : ST) (h : r.steps[q]? = some s) => hst.get h)
          rw [← hsl] at k2
          have HSL := Lib.hid hsl
          have HP := Lib.hid hp
          have HBL := Lib.hid hbl
          have HK2 := Lib.hid k2
          rw [← hbel.cell hbl] at k2
          clear hsl hp hst hso k0 k1 hbl hbel
          by_cases h6 : 6 < sl
          · have y1 : decide ((6 : Int) < (sl : Int)) = true := by simp; omega
            have y2 : decide (6 < sl) = true := by simp; omega
            go_wp2_with fail
            go_ret
            exact ⟨⟨false, rfl, fun h => by cases h⟩, HBF.out⟩
          have y1 : decide ((6 : Int) < (sl : Int)) = false := by simp; omega
          have y2 : decide (6 < sl) = false := by simp; omega
          have hs6 : sl ≤ 6 := by omega
          clear h6
          obtain ⟨wu, hwu⟩ : ∃ wu : World, wu = wr := ⟨_, rfl⟩
          go_wp2_with fail
          go_loopg [5] sl (fun g s5 wx => ∃ q : Nat, q + g = sl ∧ s5 = .int .i64 (q : Int) ∧ (∀ j s, j < q → r.steps[j]? = some s → okST s) ∧ Below w.heap.size w wx ∧ wx.cell? ⟨w.heap.size, 0, none⟩ = some (.slice ot k ct) ∧ wx.cell? ⟨w.heap.size, 1, none⟩ = some (.slice (some ⟨b0, off, none⟩) m cr))
          case atStart => exact ⟨0, by omega, rfl, fun j t hj => by omega, HBF.out, f0, f1⟩
          case round =>
            obtain ⟨q, hqg, rfl, hrq, hbel, l0, l1⟩ := hrel
            have HRQ := Lib.hid hrq
            have HBG := Lib.hid hbel
            clear hrq
            have hcR := (hbel.cell HBL.out).trans HK2.out
            cases gk with
            | zero =>
              obtain rfl : q = sl := by omega
              have v1 : decide ((q : Int) < (q : Int)) = false := by simp
              have v2 : decide (q < q) = false := by simp
              clear hbel k2 f0 f1
              go_wp2_with fail
              go_roundg g
              case measure => omega
              case rel =>
                refine ⟨i + 1, by omega, by simp, fun j u hj hu => ?_, HBG.out, l0, l1⟩
                rcases Nat.lt_or_ge j i with h | h
                · exact HRI.out j u h hu
                · obtain rfl : j = i := by omega
                  rw [HP.out] at hu; cases hu
                  exact ⟨by have := HSL.out; omega, fun a s hs => HRQ.out a s (by have := (List.getElem?_eq_some_iff.1 hs).1; have := HSL.out; omega) hs⟩
            | succ g2 =>
              have hq : q < sl := by omega
              have v1 : decide ((q : Int) < (sl : Int)) = true := by simp; omega
              have v2 : decide (q < sl) = true := by simpa using hq
              have hq1 : (0 : Int) ≤ (q : Int) := by omega
              have hq2 : (q : Int) < (sl : Int) := by omega
              obtain ⟨s, hs⟩ : ∃ p, r.steps[q]? = some p := ⟨_, List.getElem?_eq_getElem (by have := HSL.out; omega)⟩
              obtain ⟨b1, off1, cap1, co, cc, no, nc, eo, ec, lo, lc, hso, hbl1, hrow, hpt, m0, m1, m2, m3, m4⟩ := HSG.out q s hs
              obtain ⟨rfl, -, rfl⟩ : so = some ⟨b1, off1, none⟩ ∧ sl = r.steps.length ∧ sc = cap1 := by injection hso with q1 q2 q3; exact ⟨q1, HSL.out, q3⟩
              rw [← hbel.cell hbl1] at m0 m1 m2 m3 m4
              have hpz := fun w' (hb : Below w.heap.size w w') => pz_all w s.p.size s.p _ _ _ 1 w' (Nat.le_refl _) hpt hb (by omega)
              obtain ⟨cn, hcn⟩ : ∃ x, x = s.calls.length := ⟨_, rfl⟩
              obtain ⟨pk, hpk⟩ : ∃ x, x = s.p.kind := ⟨_, rfl⟩
              obtain ⟨nn, hnn⟩ : ∃ x, x = s.p.names.length := ⟨_, rfl⟩
              obtain ⟨en, hen⟩ : ∃ x, x = s.p.ends.length := ⟨_, rfl⟩
              obtain ⟨ln, hln⟩ : ∃ x, x = s.p.parts.length := ⟨_, rfl⟩
              rw [← hpk, ← hnn, ← hen, ← hln] at hpz
              rw [← hcn] at m0
              rw [← hpk] at m1
              rw [← hnn] at m2
              rw [← hen] at m3
              rw [← hln] at m4
              have HPZ := Lib.hid hpz
              have HS := Lib.hid (And.intro hs hcn)
              clear hpz hs hrow hpt hso hbl1 hbel hcn hpk hnn hen hln
              go_wp2_with fail
              refine (HPZ.out _ (by exact bel_new HBG.out _)).mono ?_
              rintro x w3 ⟨⟨z, rfl, hz1, hz2, hz3⟩, hb3⟩
              have HZ3 := Lib.hid hz3
              have g0 : w3.cell? ⟨w.heap.size, 0, none⟩ = some (.slice ot k ct) := cell_later hb3 (cell_later (bel_new (Below.refl _ _) _) l0)
              have g1 : w3.cell? ⟨w.heap.size, 1, none⟩ = some (.slice (some ⟨b0, off, none⟩) m cr) := cell_later hb3 (cell_later (bel_new (Below.refl _ _) _) l1)
              have gc : w3.cell? ⟨wr.heap.size, 0, none⟩ = some (.slice co cn cc) := cell_later hb3 (by simp [go_sem])
              have HB3 := Lib.hid (bel_then (bel_new HBG.out _) hb3)
              clear hb3 hz3 m0 m1 m2 m3 m4 l0 l1
              by_cases hz : 200 < z
              · have u1 : decide ((200 : Int) < (z : Int)) = true := by simp; omega
                have u2 : decide (200 < z) = true := by simp; omega
                go_wp2_with fail
                go_ret
                exact ⟨⟨false, rfl, fun h => by cases h⟩, HB3.out⟩
              have u1 : decide ((200 : Int) < (z : Int)) = false := by simp; omega
              have u2 : decide (200 < z) = false := by simp; omega
              by_cases hc : 20 < cn
              · have u3 : decide ((20 : Int) < (cn : Int)) = true := by simp; omega
                have u4 : decide (20 < cn) = true := by simp; omega
                go_wp2_with fail
                go_ret
                exact ⟨⟨false, rfl, fun h => by cases h⟩, HB3.out⟩
              have u3 : decide ((20 : Int) < (cn : Int)) = false := by simp; omega
              have u4 : decide (20 < cn) = false := by simp; omega
              have HOK := Lib.hid (show okST s from ⟨⟨by have := HS.out.2; omega, (HZ3.out (by omega)).2⟩, by have := (HZ3.out (by omega)).1; omega⟩)
              clear hz hc
              go_wp2_with fail
              go_roundg g2
              case measure => omega
              case rel =>
                refine ⟨q + 1, by omega, by simp, fun j u hj hu => ?_, HB3.out, g0, g1⟩
                rcases Nat.lt_or_ge j q with h | h
                · exact HRQ.out j u h hu
                · obtain rfl : j = q := by omega
                  rw [HS.out.1] at hu; cases hu
                  exact HOK.out
end Go.Proofs.YtbanmggkfpnalaaGreatDoor

namespace Go.Proofs.YtbanmggkfpnalaaGreatDoor
open Go.RowKit Ru

inductive RE.W2 : RE → Prop
  | mk (k : Int) (s : List (Int × Int)) (l : List RE) (h3 : k = 3 ∨ k = 4 → l.length = 2) (h : ∀ (i : Nat) (e : RE), l[i]? = some e → RE.W2 e) : RE.W2 (.mk k s l)
theorem RE.W2.part {e p : RE} {i : Nat} (h : e.W2) (hp : e.parts[i]? = some p) : p.W2 := by cases h with | mk k s l h3 h => exact h i p hp
theorem RE.W2.two {e : RE} (h : e.W2) (hk : e.kind = 3 ∨ e.kind = 4) : e.parts.length = 2 := by cases h with | mk k s l h3 h => exact h3 hk
theorem RE.prtL_get : ∀ (l : List RE) (i : Nat) (e : RE), RE.prtL l = true → l[i]? = some e → e.prt = true := by
  intro l
  induction l with
  | nil => intro i e _ h; simp at h
  | cons a l ih =>
    intro i e h he
    rw [RE.prtL_cons, Bool.and_eq_true] at h
    cases i with
    | zero => simp at he; subst he; exact h.1
    | succ i => exact ih i e h.2 (by simpa using he)
theorem RE.prt_w2 : ∀ (N : Nat) (e : RE), e.size ≤ N → e.prt = true → e.W2 := by
  intro N
  induction N with
  | zero => intro e h; have := e.size_pos; omega
  | succ N ih =>
    intro e hs hp
    rw [RE.prt_eq, Bool.and_eq_true] at hp
    cases e with
    | mk k s l =>
      refine .mk k s l (fun hk => ?_) (fun i c hc => ih c (by have := RE.size_part (e := .mk k s l) hc; omega) (RE.prtL_get _ i c hp.2 hc))
      have h1 := hp.1
      unfold RE.shp at h1
      have e1 : (RE.mk k s l).kind = k := rfl
      have e2 : (RE.mk k s l).parts = l := rfl
      rw [e1, e2] at h1
      rcases hk with rfl | rfl
      · rw [if_neg (by decide)] at h1
        by_cases h2 : 0 < (RE.mk 3 s l).set.length
        · rw [if_pos h2] at h1; cases h1
        · rw [if_neg h2] at h1
          simpa using h1
      · rw [if_neg (by decide)] at h1
        by_cases h2 : 0 < (RE.mk 4 s l).set.length
        · rw [if_pos h2] at h1; cases h1
        · rw [if_neg h2] at h1
          simpa using h1
theorem RE.may_w2 {e : RE} (h : e.may = true) : e.W2 := RE.prt_w2 e.size e (Nat.le_refl _) ((RE.may_iff e).1 h).2.2
theorem RE.anyE_two (a b : RE) : RE.anyE [a, b] = (a.emp || b.emp) := by rw [RE.anyE, RE.anyE, RE.anyE]; simp
theorem two_of' {α : Type} {l : List α} (h : l.length = 2) : ∃ x y, l = [x, y] := by
  match l, h with
  | [x, y], _ => exact ⟨x, y, rfl⟩
def EEmpIh (w0 : World) (N : Nat) : Prop := ∀ (e : RE) (sv lv : Value) (w : World), e.size ≤ N → e.W2 → ReIs w0 e sv lv → Below w0.heap.size w0 w →
  Calls Tryz.prog 81 #[.agg #[.int .i64 e.kind, sv, lv]] w fun x w' => x = .returned (.bool e.emp) ∧ Below w.heap.size w w'
set_option maxHeartbeats 8000000 in
set_option maxRecDepth 100000 in
theorem eemp_all (w0 : World) : ∀ N, EEmpIh w0 N := by
  intro N
  induction N with
  | zero => intro e sv lv w hs; have := e.size_pos; omega
  | succ N ih =>
    intro e sv lv w hs hf hr hb0
    obtain ⟨⟨o1, q1, rfl⟩, -⟩ := hr.form
    obtain ⟨o2, q2, c1, c2, rfl, hall⟩ := hr.all
    have hin : ∀ (i : Nat) (p : RE) (w' : World), e.parts[i]? = some p → Below w.heap.size w w' → Calls Tryz.prog 81 #[.agg #[.int .i64 p.kind, c1 i, c2 i]] w' fun x w'' => x = .returned (.bool p.emp) ∧ Below w'.heap.size w' w'' := by
      intro i p w' hp hb
      exact ih p _ _ w' (by have := RE.size_part hp; omega) (hf.part hp) (hall i p hp).1 (bel_then hb0 hb)
    have hem := RE.emp_eq e
    obtain ⟨k, hk⟩ : ∃ x, x = e.kind := ⟨_, rfl⟩
    obtain ⟨n, hn⟩ : ∃ x, x = e.set.length := ⟨_, rfl⟩
    obtain ⟨r, hr9⟩ : ∃ x, x = e.emp := ⟨_, rfl⟩
    have htwo : k = 3 ∨ k = 4 → e.parts.length = 2 := by rw [hk]; exact hf.two
    rw [← hk, ← hr9] at hem
    rw [← hk, ← hn, ← hr9]
    have HALL := Lib.hid hall
    have HIN := Lib.hid hin
    have HEM := Lib.hid hem
    have HB0 := Lib.hid hb0
    have HTW := Lib.hid htwo
    have HB1 := Lib.hid (fun (x : Obj) => bel_new (Below.refl w.heap.size w) x)
    clear hall hin hem hk hn hr9 hr hf hb0 ih hs htwo
    by_cases k1 : k = 1
    · subst k1
      have HX := Lib.hid (show r = true by rw [HEM.out, if_pos (by omega)])
      go_enter Tryz.func81, Tryz.ntmps81
      go_wp2_with fail
      go_ret
      exact ⟨by rw [HX.out]; rfl, HB1.out _⟩
    have t1 : (k == 1) = false := by simpa using k1
    by_cases k5 : k = 5
    · subst k5
      have HX := Lib.hid (show r = true by rw [HEM.out, if_pos (by omega)])
      go_enter Tryz.func81, Tryz.ntmps81
      go_wp2_with fail
      go_ret
      exact ⟨by rw [HX.out]; rfl, HB1.out _⟩
    have t5 : (k == 5) = false := by simpa using k5
    by_cases k3 : k = 3
    · subst k3
      obtain ⟨a, b, hl⟩ := two_of' (HTW.out (by omega))
      have hpa : e.parts[0]? = some a := by rw [hl]; rfl
      have hpb : e.parts[1]? = some b := by rw [hl]; rfl
      have HX := Lib.hid (show r = (a.emp && b.emp) by rw [HEM.out, if_neg (by omega), if_neg (by omega), if_pos rfl, hl, RE.twoE_two])
      have hln : e.parts.length = 2 := by rw [hl]; rfl
      obtain ⟨-, b0, off, rfl, hbl, a0, a1, a2⟩ := HALL.out 0 a hpa
      obtain ⟨-, b0', off', hoo, hbl', d0, d1, d2⟩ := HALL.out 1 b hpb
      obtain ⟨rfl, rfl⟩ : b0 = b0' ∧ off = off' := by injection hoo with q; injection q with q1 q2; exact ⟨q1, q2⟩
      rw [← HB0.out.cell hbl] at a0 a1 a2
      rw [← HB0.out.cell hbl'] at d0 d1 d2
      simp only [Nat.zero_mul, Nat.add_zero, Nat.one_mul] at a0 a1 a2 d0 d1 d2
      have hca := fun w' hb' => HIN.out 0 a w' hpa hb'
      have hcb := fun w' hb' => HIN.out 1 b w' hpb hb'
      obtain ⟨x0, hx0⟩ : ∃ x, x = a.kind := ⟨_, rfl⟩
      obtain ⟨x1, hx1⟩ : ∃ x, x = c1 0 := ⟨_, rfl⟩
      obtain ⟨x2, hx2⟩ : ∃ x, x = c2 0 := ⟨_, rfl⟩
      obtain ⟨y0, hy0⟩ : ∃ x, x = b.kind := ⟨_, rfl⟩
      obtain ⟨y1, hy1⟩ : ∃ x, x = c1 1 := ⟨_, rfl⟩
      obtain ⟨y2, hy2⟩ : ∃ x, x = c2 1 := ⟨_, rfl⟩
      obtain ⟨ba, hba⟩ : ∃ x, x = a.emp := ⟨_, rfl⟩
      obtain ⟨bb, hbb⟩ : ∃ x, x = b.emp := ⟨_, rfl⟩
      rw [← hx0, ← hx1, ← hx2, ← hba] at hca
      rw [← hy0, ← hy1, ← hy2, ← hbb] at hcb
      rw [← hba, ← hbb] at HX
      rw [← hx0] at a0
      rw [← hx1] at a1
      rw [← hx2] at a2
      rw [← hy0] at d0
      rw [← hy1] at d1
      rw [← hy2] at d2
      have HCA := Lib.hid hca
      have HCB := Lib.hid hcb
      rw [hln]
      have HBL := Lib.hid hbl
      have hbw : b0 < w.heap.size := by have := HB0.out.size; omega
      have hne : ¬ b0 = w.heap.size := by omega
      clear hca hcb hpa hpb hl hln hoo hbl' hx0 hx1 hx2 hy0 hy1 hy2 hba hbb hbl
      go_enter Tryz.func81, Tryz.ntmps81
      go_wp2_with fail
      refine (HCA.out _ (HB1.out _)).mono ?_
      rintro x w3 ⟨rfl, hb3⟩
      have g2 : w3.cell? ⟨w.heap.size, 2, none⟩ = some (.slice (some ⟨b0, off, none⟩) 2 q2) := cell_later hb3 (by simp [go_sem])
      have hb4 := bel_then (HB1.out _) hb3
      rw [← hb4.cell hbw] at d0 d1 d2
      have HB3 := Lib.hid hb4
      clear hb3 hb4 a0 a1 a2
      cases ba with
      | false =>
        have HY := Lib.hid (show r = false by rw [HX.out]; rfl)
        go_wp2_with fail
        go_ret
        exact ⟨by rw [HY.out]; rfl, HB3.out⟩
      | true =>
        have HY := Lib.hid (show r = bb by rw [HX.out]; rfl)
        go_wp2_with fail
        refine (HCB.out _ HB3.out).mono ?_
        rintro x w5 ⟨rfl, hb5⟩
        have HB5 := Lib.hid (bel_then HB3.out hb5)
        clear hb5
        go_wp2_with fail
        go_ret
        exact ⟨by rw [HY.out]; rfl, HB5.out⟩
    have t3 : (k == 3) = false := by simpa using k3
    by_cases k4 : k = 4
    · subst k4
      obtain ⟨a, b, hl⟩ := two_of' (HTW.out (by omega))
      have hpa : e.parts[0]? = some a := by rw [hl]; rfl
      have hpb : e.parts[1]? = some b := by rw [hl]; rfl
      have HX := Lib.hid (show r = (a.emp || b.emp) by rw [HEM.out, if_neg (by omega), if_pos rfl, hl, RE.anyE_two])
      have hln : e.parts.length = 2 := by rw [hl]; rfl
      obtain ⟨-, b0, off, rfl, hbl, a0, a1, a2⟩ := HALL.out 0 a hpa
      obtain ⟨-, b0', off', hoo, hbl', d0, d1, d2⟩ := HALL.out 1 b hpb
      obtain ⟨rfl, rfl⟩ : b0 = b0' ∧ off = off' := by injection hoo with q; injection q with q1 q2; exact ⟨q1, q2⟩
      rw [← HB0.out.cell hbl] at a0 a1 a2
      rw [← HB0.out.cell hbl'] at d0 d1 d2
      simp only [Nat.zero_mul, Nat.add_zero, Nat.one_mul] at a0 a1 a2 d0 d1 d2
      have hca := fun w' hb' => HIN.out 0 a w' hpa hb'
      have hcb := fun w' hb' => HIN.out 1 b w' hpb hb'
      obtain ⟨x0, hx0⟩ : ∃ x, x = a.kind := ⟨_, rfl⟩
      obtain ⟨x1, hx1⟩ : ∃ x, x = c1 0 := ⟨_, rfl⟩
      obtain ⟨x2, hx2⟩ : ∃ x, x = c2 0 := ⟨_, rfl⟩
      obtain ⟨y0, hy0⟩ : ∃ x, x = b.kind := ⟨_, rfl⟩
      obtain ⟨y1, hy1⟩ : ∃ x, x = c1 1 := ⟨_, rfl⟩
      obtain ⟨y2, hy2⟩ : ∃ x, x = c2 1 := ⟨_, rfl⟩
      obtain ⟨ba, hba⟩ : ∃ x, x = a.emp := ⟨_, rfl⟩
      obtain ⟨bb, hbb⟩ : ∃ x, x = b.emp := ⟨_, rfl⟩
      rw [← hx0, ← hx1, ← hx2, ← hba] at hca
      rw [← hy0, ← hy1, ← hy2, ← hbb] at hcb
      rw [← hba, ← hbb] at HX
      rw [← hx0] at a0
      rw [← hx1] at a1
      rw [← hx2] at a2
      rw [← hy0] at d0
      rw [← hy1] at d1
      rw [← hy2] at d2
      have HCA := Lib.hid hca
      have HCB := Lib.hid hcb
      rw [hln]
      have HBL := Lib.hid hbl
      have hbw : b0 < w.heap.size := by have := HB0.out.size; omega
      have hne : ¬ b0 = w.heap.size := by omega
      clear hca hcb hpa hpb hl hln hoo hbl' hx0 hx1 hx2 hy0 hy1 hy2 hba hbb hbl
      go_enter Tryz.func81, Tryz.ntmps81
      go_wp2_with fail
      refine (HCA.out _ (HB1.out _)).mono ?_
      rintro x w3 ⟨rfl, hb3⟩
      have g2 : w3.cell? ⟨w.heap.size, 2, none⟩ = some (.slice (some ⟨b0, off, none⟩) 2 q2) := cell_later hb3 (by simp [go_sem])
      have hb4 := bel_then (HB1.out _) hb3
      rw [← hb4.cell hbw] at d0 d1 d2
      have HB3 := Lib.hid hb4
      clear hb3 hb4 a0 a1 a2
      cases ba with
      | true =>
        have HY := Lib.hid (show r = true by rw [HX.out]; rfl)
        go_wp2_with fail
        go_ret
        exact ⟨by rw [HY.out]; rfl, HB3.out⟩
      | false =>
        have HY := Lib.hid (show r = bb by rw [HX.out]; rfl)
        go_wp2_with fail
        refine (HCB.out _ HB3.out).mono ?_
        rintro x w5 ⟨rfl, hb5⟩
        have HB5 := Lib.hid (bel_then HB3.out hb5)
        clear hb5
        go_wp2_with fail
        go_ret
        exact ⟨by rw [HY.out]; rfl, HB5.out⟩
    have t4 : (k == 4) = false := by simpa using k4
    have HX := Lib.hid (show r = false by rw [HEM.out, if_neg (by omega), if_neg k4, if_neg k3])
    go_enter Tryz.func81, Tryz.ntmps81
    go_wp2_with fail
    go_ret
    exact ⟨by rw [HX.out]; rfl, HB1.out _⟩
end Go.Proofs.YtbanmggkfpnalaaGreatDoor

namespace Go.Proofs.YtbanmggkfpnalaaGreatDoor
open Go.RowKit Ru

theorem orE_ne {a b : Option Int} (ha : ∀ c, a = some c → c ≠ 0) (hb : ∀ c, b = some c → c ≠ 0) : ∀ c, orE a b = some c → c ≠ 0 := by
  intro c h
  cases a with
  | none => exact hb c (by simpa [orE] using h)
  | some x => exact ha c (by simpa [orE] using h)
theorem rstepE_ne (T : List TK) (pos : Bool) (s : ST) : ∀ c, rstepE T pos s = some c → c ≠ 0 := by
  intro c h
  unfold rstepE at h
  split at h
  · cases h; decide
  · refine orE_ne (namesE_ne _ _) ?_ c h
    intro c h
    split at h
    · cases h; decide
    · exact patE_ne s.p.size s.p (Nat.le_refl _) c h
theorem rstepsE_ne (T : List TK) (free : Bool) : ∀ (l : List ST) (i : Nat) (c : Int), rstepsE T free i l = some c → c ≠ 0 := by
  intro l
  induction l with
  | nil => intro i c h; cases h
  | cons s l ih => intro i c h; rw [rstepsE_cons] at h; exact orE_ne (rstepE_ne T _ s) (ih (i + 1)) c h
theorem ruleE_ne (T : List TK) (r : RU) : ∀ c, ruleE T r = some c → c ≠ 0 := by
  intro c h
  rw [← rruleE_eq] at h
  unfold rruleE at h
  split at h
  · cases h; decide
  · exact rstepsE_ne T r.free _ 0 c h
theorem hp_ltc {w : World} {b i : Nat} {u : Value} (h : w.cell? ⟨b, i, none⟩ = some u) : b < w.heap.size := World.block_lt_of_cell? w ⟨b, i, none⟩ h
set_option maxHeartbeats 16000000 in
set_option maxRecDepth 100000 in
theorem rchk_any (T : List TK) (R : List RU) (tv rv : Value) (w : World) (hT : TksAre w tv T) (hR : RusAre w rv R) (hG : FewG T R) :
    Calls Tryz.prog 39 #[.agg #[tv, rv]] w fun e w' => e = .returned (.tuple #[.int .i64 (chkE T R).1, .int .i64 (chkE T R).2]) ∧ Below w.heap.size w w' := by
  have hS := hG.ts
  obtain ⟨ot, ct, nmx, kdx, clx, rkx, sox, snx, scx, lox, lnx, lcx, htv, hall⟩ := hT.all
  obtain ⟨orr, cr, hrv⟩ := hR.form
  have hfind := fun (s : ByteArray) (w' : World) (hb : Below w.heap.size w w') => refFind_any T tv rv s w' (hT.moved hb) (by have := hG.tl; omega) ⟨_, _, _, hrv⟩
  have hrule := fun (i : Nat) (r : RU) (sv : Value) (w' : World) (hr : R[i]? = some r) (hs : StsAre w sv r.steps) (hb : Below w.heap.size w w') => rrule_any T w' tv rv sv r (hT.moved hb) (by have := hG.tl; omega) ⟨_, _, _, hrv⟩ (hs.moved hb) (hG.rf i r hr).1 (hG.rf i r hr).2 (fun j s hj => hG.sz i r hr j s hj)
  subst htv hrv
  obtain ⟨n, hn⟩ : ∃ x, x = T.length := ⟨_, rfl⟩
  obtain ⟨m, hm⟩ : ∃ x, x = R.length := ⟨_, rfl⟩
  rw [← hn] at hfind hrule
  rw [← hm] at hfind hrule
  rw [← hn, ← hm]
  have HALL := Lib.hid hall
  have HFI := Lib.hid hfind
  have HRU := Lib.hid hrule
  have HGET := Lib.hid (fun (i : Nat) (s : RU) (h : R[i]? = some s) => hR.get h)
  have HN := Lib.hid (And.intro hn hm)
  have HG := Lib.hid hG
  have HS := Lib.hid hS
  have hn20 : n ≤ 20 := by have := hG.tl; omega
  have hm10 : m ≤ 10 := by have := hG.rl; omega
  have HCH := Lib.hid (show chkE T R = if ¬ (1 ≤ n ∧ n ≤ 16) then (6, 0) else match toksE T 0 T with
    | some e => e
    | none => if ¬ m ≤ 8 then (6, (n : Int)) else match rulesE T 0 R with | some e => e | none => (0, 0) by rw [hn, hm]; rfl)
  have hB1 : ∀ (x : Obj), Below w.heap.size w (w.alloc x) := fun x => bel_new (Below.refl _ _) _
  clear hall hfind hrule hT hR hn hm hG hS
  by_cases h1 : n < 1
  · have d1 : decide ((n : Int) < 1) = true := by simp; omega
    have HX := Lib.hid (show chkE T R = (6, 0) by rw [HCH.out, if_pos (by omega)])
    clear h1
    go_enter Tryz.func39, Tryz.ntmps39
    go_wp2_with fail
    go_ret2
    exact ⟨by rw [HX.out]; rfl, hB1 _⟩
  have d1 : decide ((n : Int) < 1) = false := by simp; omega
  by_cases h2 : 16 < n
  · have d2 : decide ((16 : Int) < (n : Int)) = true := by simp; omega
    have HX := Lib.hid (show chkE T R = (6, 0) by rw [HCH.out, if_pos (by omega)])
    clear h1 h2
    go_enter Tryz.func39, Tryz.ntmps39
    go_wp2_with fail
    go_ret2
    exact ⟨by rw [HX.out]; rfl, hB1 _⟩
  have d2 : decide ((16 : Int) < (n : Int)) = false := by simp; omega
  have d2' : decide (16 < n) = false := by simp; omega
  have HC2 := Lib.hid (show chkE T R = match toksE T 0 T with
    | some e => e
    | none => if ¬ m ≤ 8 then (6, (n : Int)) else match rulesE T 0 R with | some e => e | none => (0, 0) by rw [HCH.out, if_neg (by omega)])
  clear h1 h2
  obtain ⟨wB, hwB⟩ : ∃ wB, wB = w.alloc (.cells #[.slice ot n ct, .slice orr m cr] 35) := ⟨_, rfl⟩
  have HWB := Lib.hid (show Below w.heap.size w wB ∧ wB.cell? ⟨w.heap.size, 0, none⟩ = some (.slice ot n ct) ∧ wB.cell? ⟨w.heap.size, 1, none⟩ = some (.slice orr m cr) by rw [hwB]; exact ⟨hB1 _, by simp [go_sem], by simp [go_sem]⟩)
  go_enter Tryz.func39, Tryz.ntmps39
  go_wp2_with fail
  rw [← hwB]
  clear hwB hB1
  go_loopg [5] n (fun g s3 wx => ∃ k : Nat, k + g = n ∧ s3 = .int .i64 (k : Int) ∧ toksE T 0 T = toksE T k (T.drop k) ∧ Below w.heap.size w wx ∧ wx.cell? ⟨w.heap.size, 0, none⟩ = some (.slice ot n ct) ∧ wx.cell? ⟨w.heap.size, 1, none⟩ = some (.slice orr m cr))
  case atStart => exact ⟨0, by omega, rfl, by rw [List.drop_zero], HWB.out⟩
  case round =>
    obtain ⟨k, hkg, rfl, hinv, hbel, e0, e1⟩ := hrel
    have HINV := Lib.hid hinv
    have HBE := Lib.hid hbel
    clear hinv
    cases gk with
    | succ g =>
      have hk : k < n := by omega
      have hx1 : decide ((k : Int) < (n : Int)) = true := by simp; omega
      have hx2 : decide (k < n) = true := by simpa using hk
      have hk1 : (0 : Int) ≤ (k : Int) := by omega
      have hk2 : (k : Int) < (n : Int) := by omega
      obtain ⟨t, hp⟩ : ∃ p, T[k]? = some p := ⟨_, List.getElem?_eq_getElem (by have := HN.out.1; omega)⟩
      obtain ⟨q1, q2, q3, q4, hre, b0, off, rfl, hbl, k0, k1, k2', k3, k4, k5⟩ := HALL.out k t hp
      have hfit := HG.out.tf k t hp
      have hnm := fun w' => refName_any (nmx k) w' (by rw [q1]; exact hfit.1)
      have hfd := fun w' hb => HFI.out (nmx k) w' hb
      have hmy := fun w' (hb : Below w.heap.size w w') => rMay_any w t.re _ _ w' (HS.out k t hp) hfit.2 hre hb
      have hem := fun w' (hb : Below w.heap.size w w') (h : t.re.may = true) => eemp_all w t.re.size t.re _ _ w' (Nat.le_refl _) (RE.may_w2 h) hre hb
      rw [← q4] at hmy hem
      have htk : toksE T 0 T = match tokE T k t with | some c => some (c, (k : Int)) | none => toksE T (k + 1) (T.drop (k + 1)) := by rw [HINV.out, drop_at hp, toksE_cons]; rfl
      have hte : tokE T k t = if ¬ (namB (nmx k) = true ∧ findB T (nmx k) = (k : Int)) then some 4 else if ¬ (kdx k = 0 ∨ kdx k = 1 ∨ kdx k = 2) then some 5
        else if ¬ ((0 ≤ clx k ∧ clx k ≤ 31) ∧ t.re.may = true) then some 6 else if (t.re.may && t.re.emp) = true then some 11 else none := by rw [q1, q2, q3]; rfl
      rw [← hbel.cell hbl] at k0 k1 k2' k3 k4 k5
      obtain ⟨xn, hxn⟩ : ∃ x, x = nmx k := ⟨_, rfl⟩
      obtain ⟨x1, hx1'⟩ : ∃ x, x = kdx k := ⟨_, rfl⟩
      obtain ⟨x2, hx2'⟩ : ∃ x, x = clx k := ⟨_, rfl⟩
      obtain ⟨x3, hx3⟩ : ∃ x, x = rkx k := ⟨_, rfl⟩
      obtain ⟨x4, hx4⟩ : ∃ x, x = sox k := ⟨_, rfl⟩
      obtain ⟨x5, hx5⟩ : ∃ x, x = snx k := ⟨_, rfl⟩
      obtain ⟨x6, hx6⟩ : ∃ x, x = scx k := ⟨_, rfl⟩
      obtain ⟨x7, hx7⟩ : ∃ x, x = lox k := ⟨_, rfl⟩
      obtain ⟨x8, hx8⟩ : ∃ x, x = lnx k := ⟨_, rfl⟩
      obtain ⟨x9, hx9⟩ : ∃ x, x = lcx k := ⟨_, rfl⟩
      rw [← hx3, ← hx4, ← hx5, ← hx6, ← hx7, ← hx8, ← hx9] at hmy hem
      rw [← hxn] at k0 hnm hfd hte
      rw [← hx1'] at k1 hte
      rw [← hx2'] at k2' hte
      rw [← hx3] at k3
      rw [← hx4, ← hx5, ← hx6] at k4
      rw [← hx7, ← hx8, ← hx9] at k5
      obtain ⟨bn, hbn⟩ : ∃ x, x = namB xn := ⟨_, rfl⟩
      obtain ⟨fi, hfi⟩ : ∃ x, x = findB T xn := ⟨_, rfl⟩
      obtain ⟨bm, hbm⟩ : ∃ x, x = t.re.may := ⟨_, rfl⟩
      obtain ⟨be, hbe⟩ : ∃ x, x = t.re.emp := ⟨_, rfl⟩
      rw [← hbn] at hnm hte
      rw [← hfi] at hfd hte
      rw [← hbm] at hmy hte hem
      rw [← hbe] at hem hte
      have HNM := Lib.hid hnm
      have HFD := Lib.hid hfd
      have HMY := Lib.hid hmy
      have HEM := Lib.hid hem
      have HTK := Lib.hid htk
      have HTE := Lib.hid hte
      have HERR := Lib.hid (fun (c : Int) (h : tokE T k t = some c) => show chkE T R = (c, (k : Int)) by rw [HC2.out, HTK.out, h])
      obtain ⟨wC, hwC⟩ : ∃ wC, wC = wr.alloc (.cells #[.string xn, .int .i64 x1, .int .i64 x2, .int .i64 x3, .slice x4 x5 x6, .slice x7 x8 x9] 61) := ⟨_, rfl⟩
      have hlt0 := hp_ltc e0
      have HWC := Lib.hid (show Below w.heap.size w wC ∧ wC.cell? ⟨w.heap.size, 0, none⟩ = some (.slice (some ⟨b0, off, none⟩) n ct) ∧ wC.cell? ⟨w.heap.size, 1, none⟩ = some (.slice orr m cr) ∧ wC.cell? ⟨wr.heap.size, 0, none⟩ = some (.string xn) ∧ wC.cell? ⟨wr.heap.size, 1, none⟩ = some (.int .i64 x1) ∧ wC.cell? ⟨wr.heap.size, 2, none⟩ = some (.int .i64 x2) ∧ wC.cell? ⟨wr.heap.size, 3, none⟩ = some (.int .i64 x3) ∧ wC.cell? ⟨wr.heap.size, 4, none⟩ = some (.slice x4 x5 x6) ∧ wC.cell? ⟨wr.heap.size, 5, none⟩ = some (.slice x7 x8 x9) by
        rw [hwC]
        exact ⟨bel_new HBE.out _, cell_later (bel_new (Below.refl _ _) _) e0, cell_later (bel_new (Below.refl _ _) _) e1, by simp [go_sem], by simp [go_sem], by simp [go_sem], by simp [go_sem], by simp [go_sem], by simp [go_sem]⟩)
      clear hnm hfd hmy hem htk hte hp hre hbl hbel q1 q2 q3 q4 hxn hx1' hx2' hx3 hx4 hx5 hx6 hx7 hx8 hx9 hbn hfi hbm hbe hfit hlt0
      go_wp2_with fail
      rw [← hwC]
      clear hwC k0 k1 k2' k3 k4 k5 e0 e1
      obtain ⟨hbC, c0, c1, c2, c3, c4, c5, c6, c7⟩ := HWC.out
      have HBC := Lib.hid hbC
      clear hbC
      go_wp2_with fail
      refine (HNM.out _).mono ?_
      rintro x w3 ⟨rfl, rfl⟩
      cases bn with
      | false =>
        have HX := Lib.hid (HERR.out 4 (by rw [HTE.out, if_pos (by simp)]))
        go_wp2_with fail
        go_ret2
        exact ⟨by rw [HX.out]; rfl, HBC.out⟩
      | true =>
        go_wp2_with fail
        refine (HFD.out _ HBC.out).mono ?_
        rintro x w4 ⟨rfl, hb4⟩
        have HB4 := Lib.hid (bel_then HBC.out hb4)
        replace c0 := cell_later hb4 c0
        replace c1 := cell_later hb4 c1
        replace c2 := cell_later hb4 c2
        replace c3 := cell_later hb4 c3
        replace c4 := cell_later hb4 c4
        replace c5 := cell_later hb4 c5
        replace c6 := cell_later hb4 c6
        replace c7 := cell_later hb4 c7
        clear hb4
        by_cases hfk : fi = (k : Int)
        case neg =>
          have y1 : (fi != (k : Int)) = true := by simpa using hfk
          have HX := Lib.hid (HERR.out 4 (by rw [HTE.out, if_pos (fun h => hfk h.2)]))
          clear hfk
          go_wp2_with fail
          go_ret2
          exact ⟨by rw [HX.out]; rfl, HB4.out⟩
        have y1 : (fi != (k : Int)) = false := by simpa using hfk
        have HT2 := Lib.hid (show tokE T k t = if ¬ (x1 = 0 ∨ x1 = 1 ∨ x1 = 2) then some 5
          else if ¬ ((0 ≤ x2 ∧ x2 ≤ 31) ∧ bm = true) then some 6 else if (bm && be) = true then some 11 else none by rw [HTE.out, if_neg (fun h => h ⟨by first | rfl | trivial, hfk⟩)])
        clear hfk
        by_cases h3 : x1 < 0
        · have z1 : decide (x1 < 0) = true := decide_eq_true h3
          have HX := Lib.hid (HERR.out 5 (by rw [HT2.out, if_pos (by omega)]))
          clear h3
          go_wp2_with fail
          go_ret2
          exact ⟨by rw [HX.out]; rfl, HB4.out⟩
        have z1 : decide (x1 < 0) = false := decide_eq_false h3
        by_cases h4 : 2 < x1
        · have z2 : decide (2 < x1) = true := decide_eq_true h4
          have HX := Lib.hid (HERR.out 5 (by rw [HT2.out, if_pos (by omega)]))
          clear h3 h4
          go_wp2_with fail
          go_ret2
          exact ⟨by rw [HX.out]; rfl, HB4.out⟩
        have z2 : decide (2 < x1) = false := decide_eq_false h4
        have HT3 := Lib.hid (show tokE T k t = if ¬ ((0 ≤ x2 ∧ x2 ≤ 31) ∧ bm = true) then some 6 else if (bm && be) = true then some 11 else none by rw [HT2.out, if_neg (by omega)])
        clear h3 h4
        by_cases h5 : x2 < 0
        · have z3 : decide (x2 < 0) = true := decide_eq_true h5
          have HX := Lib.hid (HERR.out 6 (by rw [HT3.out, if_pos (by omega)]))
          clear h5
          go_wp2_with fail
          go_ret2
          exact ⟨by rw [HX.out]; rfl, HB4.out⟩
        have z3 : decide (x2 < 0) = false := decide_eq_false h5
        by_cases h6 : 31 < x2
        · have z4 : decide (31 < x2) = true := decide_eq_true h6
          have HX := Lib.hid (HERR.out 6 (by rw [HT3.out, if_pos (by omega)]))
          clear h5 h6
          go_wp2_with fail
          go_ret2
          exact ⟨by rw [HX.out]; rfl, HB4.out⟩
        have z4 : decide (31 < x2) = false := decide_eq_false h6
        have HT4 := Lib.hid (show tokE T k t = if ¬ (bm = true) then some 6 else if (bm && be) = true then some 11 else none by
          rw [HT3.out]
          have hr : 0 ≤ x2 ∧ x2 ≤ 31 := ⟨by omega, by omega⟩
          cases bm <;> simp [hr])
        clear h5 h6
        go_wp2_with fail
        refine (HMY.out _ HB4.out).mono ?_
        rintro x w5 ⟨rfl, hb5⟩
        have HB5 := Lib.hid (bel_then HB4.out hb5)
        replace c0 := cell_later hb5 c0
        replace c1 := cell_later hb5 c1
        replace c5 := cell_later hb5 c5
        replace c6 := cell_later hb5 c6
        replace c7 := cell_later hb5 c7
        clear hb5 c2 c3 c4
        cases bm with
        | false =>
          have HX := Lib.hid (HERR.out 6 (by rw [HT4.out, if_pos (by decide)]))
          go_wp2_with fail
          go_ret2
          exact ⟨by rw [HX.out]; rfl, HB5.out⟩
        | true =>
          go_wp2_with fail
          refine (HEM.out _ HB5.out (by first | rfl | trivial)).mono ?_
          rintro x w6 ⟨rfl, hb6⟩
          have HB6 := Lib.hid (bel_then HB5.out hb6)
          replace c0 := cell_later hb6 c0
          replace c1 := cell_later hb6 c1
          clear hb6 c5 c6 c7
          cases be with
          | true =>
            have HX := Lib.hid (HERR.out 11 (by rw [HT4.out]; rfl))
            go_wp2_with fail
            go_ret2
            exact ⟨by rw [HX.out]; rfl, HB6.out⟩
          | false =>
            have HX := Lib.hid (show tokE T k t = none by rw [HT4.out]; rfl)
            go_wp2_with fail
            go_roundg g
            case measure => omega
            case rel => exact ⟨k + 1, by omega, by simp, by rw [HTK.out, HX.out], HB6.out, c0, c1⟩
    | zero =>
      obtain rfl : k = n := by omega
      have hx1 : decide ((k : Int) < (k : Int)) = false := by simp
      have hx2 : decide (k < k) = false := by simp
      have HC3 := Lib.hid (show chkE T R = if ¬ m ≤ 8 then (6, (k : Int)) else match rulesE T 0 R with | some e => e | none => (0, 0) by
        rw [HC2.out, HINV.out, List.drop_of_length_le (by have := HN.out.1; omega), toksE_nil])
      obtain ⟨wo, rfl⟩ : ∃ wo : World, wo = wr := ⟨_, rfl⟩
      clear hbel
      by_cases h8 : 8 < m
      · have y1 : decide ((8 : Int) < (m : Int)) = true := by simp; omega
        have HX := Lib.hid (show chkE T R = (6, (k : Int)) by rw [HC3.out, if_pos (by omega)])
        clear h8
        go_wp2_with fail
        go_ret2
        exact ⟨by rw [HX.out]; rfl, HBE.out⟩
      have y1 : decide ((8 : Int) < (m : Int)) = false := by simp; omega
      have y2 : decide (8 < m) = false := by simp; omega
      have HC4 := Lib.hid (show chkE T R = match rulesE T 0 R with | some e => e | none => (0, 0) by rw [HC3.out, if_neg (by omega)])
      clear h8
      go_wp2_with fail
      go_loopg [7] m (fun g s4 wx => ∃ i : Nat, i + g = m ∧ s4 = .int .i64 (i : Int) ∧ rulesE T 0 R = rulesE T i (R.drop i) ∧ Below w.heap.size w wx ∧ wx.cell? ⟨w.heap.size, 0, none⟩ = some (.slice ot k ct) ∧ wx.cell? ⟨w.heap.size, 1, none⟩ = some (.slice orr m cr))
      case atStart => exact ⟨0, by omega, rfl, by rw [List.drop_zero], HBE.out, e0, e1⟩
      case round =>
        obtain ⟨i, hig, rfl, hri, hbel, f0, f1⟩ := hrel
        have HRI := Lib.hid hri
        have HBF := Lib.hid hbel
        clear hri e0 e1
        cases gk with
        | zero =>
          obtain rfl : i = m := by omega
          have z1 : decide ((i : Int) < (i : Int)) = false := by simp
          have z2 : decide (i < i) = false := by simp
          have HX := Lib.hid (show chkE T R = (0, 0) by rw [HC4.out, HRI.out, List.drop_of_length_le (by have := HN.out.2; omega), rulesE_nil])
          clear hbel
          go_wp2_with fail
          go_ret2
          exact ⟨by rw [HX.out]; rfl, HBF.out⟩
        | succ g =>
          have hi : i < m := by omega
          have z1 : decide ((i : Int) < (m : Int)) = true := by simp; omega
          have z2 : decide (i < m) = true := by simpa using hi
          have hi1 : (0 : Int) ≤ (i : Int) := by omega
          have hi2 : (i : Int) < (m : Int) := by omega
          obtain ⟨r, hp⟩ : ∃ p, R[i]? = some p := ⟨_, List.getElem?_eq_getElem (by have := HN.out.2; omega)⟩
          obtain ⟨b0, off, cap, so, sc, hso, hbl, hst, k0, k1, k2⟩ := HGET.out i r hp
          obtain ⟨rfl, -, rfl⟩ : orr = some ⟨b0, off, none⟩ ∧ m = R.length ∧ cr = cap := by injection hso with q1 q2 q3; exact ⟨q1, HN.out.2, q3⟩
          have hru := fun w' hb => HRU.out i r _ w' hp hst hb
          rw [rruleE_eq] at hru
          rw [← hbel.cell hbl] at k0 k1 k2
          have HRE := Lib.hid (show rulesE T 0 R = match ruleE T r with | some c => some (c, (k : Int) + (i : Int)) | none => rulesE T (i + 1) (R.drop (i + 1)) by rw [HRI.out, drop_at hp, rulesE_cons, HN.out.1]; rfl)
          have HNE := Lib.hid (codeOf_zero (ruleE_ne T r))
          obtain ⟨sl, hsl⟩ : ∃ x, x = r.steps.length := ⟨_, rfl⟩
          obtain ⟨rc, hrc⟩ : ∃ x, x = r.cls := ⟨_, rfl⟩
          obtain ⟨rf, hrf⟩ : ∃ x, x = r.free := ⟨_, rfl⟩
          obtain ⟨cd, hcd⟩ : ∃ x, x = codeOf (ruleE T r) := ⟨_, rfl⟩
          rw [← hsl, ← hrc, ← hrf, ← hcd] at hru
          rw [← hcd] at HNE
          rw [← hsl] at k2
          rw [← hrc] at k0
          rw [← hrf] at k1
          have HRC := Lib.hid hru
          have HCD := Lib.hid hcd
          clear hp hst hso hru hsl hrc hrf hcd hbl hbel
          go_upto_region 21 with (fail)
          go_region_held3 (fun w' => w'.cell? ⟨w.heap.size, 0, none⟩ = some (.slice ot k ct) ∧ w'.cell? ⟨w.heap.size, 1, none⟩ = some (.slice (some ⟨b0, off, none⟩) m cr) ∧ w'.cell? ⟨b0, off + i * 3, none⟩ = some (.int .i64 rc) ∧ w'.cell? ⟨b0, off + i * 3 + 1, none⟩ = some (.bool rf) ∧ w'.cell? ⟨b0, off + i * 3 + 2, none⟩ = some (.slice so sl sc))
            (first | exact ⟨f0, f1, k0, k1, k2⟩ | exact ⟨cell_later hb3 f0, cell_later hb3 f1, cell_later hb3 k0, cell_later hb3 k1, cell_later hb3 k2⟩)
            (first
              | (go_simp; go_at_call 82; refine (HRC.out _ (HBF.out.drew)).mono ?_; rintro e w3 ⟨rfl, hb3'⟩; have hb3 : Below wr.heap.size wr w3 := Below.trans (Below.refl _ _).drew hb3'))
          all_goals (
            have HB3 := Lib.hid (bel_then HBF.out hb3)
            have g0 : w3.cell? ⟨w.heap.size, 0, none⟩ = some (.slice ot k ct) := cell_later hb3 f0
            have g1 : w3.cell? ⟨w.heap.size, 1, none⟩ = some (.slice (some ⟨b0, off, none⟩) m cr) := cell_later hb3 f1
            clear hb3 hb3' f0 f1 k0 k1 k2
            by_cases hc0 : cd = 0
            · have u1 : (cd != 0) = false := by simpa using hc0
              have HX := Lib.hid (HNE.out.1 hc0)
              clear hc0
              go_wp2_with fail
              go_roundg g
              case measure => omega
              case rel => exact ⟨i + 1, by omega, by simp, by rw [HRE.out, HX.out], HB3.out, g0, g1⟩
            · have u1 : (cd != 0) = true := by simpa using hc0
              have HX := Lib.hid (show chkE T R = (cd, (k : Int) + (i : Int)) by
                rw [HC4.out, HRE.out]
                cases hz : ruleE T r with
                | none => exact absurd (HNE.out.2 hz) hc0
                | some c => have := HCD.out; rw [hz] at this; rw [this]; rfl)
              have hwa : IntKind.i64.wrap ((k : Int) + (i : Int)) = (k : Int) + (i : Int) := IntWalk.i64_in _ (by omega)
              clear hc0
              go_wp2_with fail
              go_ret2
              exact ⟨by rw [HX.out]; rfl, HB3.out⟩)
end Go.Proofs.YtbanmggkfpnalaaGreatDoor
