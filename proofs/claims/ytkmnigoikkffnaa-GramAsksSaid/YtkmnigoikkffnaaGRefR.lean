/- The document's grammars: goboref11.rule. -/
import Derived.Test.YtkmnigoikkffnaaGRefH
import Derived.Test.YtkmnigoikkffnaaGRefP
import Derived.Test.YtkmnigoikkffnaaGRule
import Derived.Deep.DeepCutAuto
import Derived.Deep.CutBlock
import Derived.Deep.RegionHeld3
set_option linter.unusedVariables false
set_option linter.unusedSimpArgs false
namespace Go.Proofs.Ytkmnigoikkffnaa
open Go.RowKit Ru

/-- a step's first error, as the document's checker reads it -/
def rstepE (T : List TK) (pos : Bool) (s : ST) : Option Int := if decide (0 < s.calls.length) ≠ pos then some 5 else orE (namesE T 1 [] s.calls) (if 60 < s.p.size ∨ 12 < s.p.dep then some 6 else patE T s.p)
def rstepsE (T : List TK) (free : Bool) : Nat → List ST → Option Int
  | _, [] => none
  | i, s :: l => orE (rstepE T (decide (0 < i) || free) s) (rstepsE T free (i + 1) l)
theorem rstepsE_cons (T : List TK) (free : Bool) (i : Nat) (s : ST) (l : List ST) : rstepsE T free i (s :: l) = orE (rstepE T (decide (0 < i) || free) s) (rstepsE T free (i + 1) l) := rfl
def rruleE (T : List TK) (r : RU) : Option Int := if ¬ ((0 ≤ r.cls ∧ r.cls ≤ 31) ∧ 1 ≤ r.steps.length ∧ r.steps.length ≤ 4) then some 6 else rstepsE T r.free 0 r.steps
set_option maxHeartbeats 8000000 in
set_option maxRecDepth 100000 in
theorem rrule_any (T : List TK) (w : World) (tv rv sv : Value) (r : RU) (hT : TksAre w tv T) (hTl : T.length ≤ 1000) (hrv : ∃ o n c, rv = .slice o n c) (hs : StsAre w sv r.steps) (hsl : r.steps.length ≤ 1000) (hsf : SFit r.steps) (hsz : ∀ (i : Nat) (s : ST), r.steps[i]? = some s → s.p.size ≤ 1000) :
    Calls Try.prog 34 #[.agg #[tv, rv], .agg #[.int .i64 r.cls, .bool r.free, sv]] w fun x w' => x = .returned (.int .i64 (codeOf (rruleE T r))) ∧ Below w.heap.size w w' := by
  obtain ⟨so, sc, rfl⟩ := hs.form
  obtain ⟨ot, ct, nmx, kdx, clx, rkx, sox, snx, scx, lox, lnx, lcx, htv, -⟩ := hT.all
  obtain ⟨o9, n9, c9, hrv'⟩ := hrv
  have hnam := fun (l : List ByteArray) (lv : Value) (w' : World) (hb : Below w.heap.size w w') (hl : Row w lv l.length (strs l)) (hll : l.length ≤ 1000) => refNames_any T tv rv lv l 1 w' (hT.moved hb) hTl ⟨_, _, _, hrv'⟩ (hl.below hb) hll
  have hpat := fun (p : PT) (nv ev lv : Value) (w' : World) (hf : p.Fit) (hp : PtIs w p nv ev lv) (hb : Below w.heap.size w w') => rpat_all T w tv rv hT hTl ⟨_, _, _, hrv'⟩ p.size p nv ev lv w' (Nat.le_refl _) hf hp hb
  have hcnt := fun (p : PT) (nv ev lv : Value) (w' : World) (h9 : p.size ≤ 1000) (hf : p.Fit) (hp : PtIs w p nv ev lv) (hb : Below w.heap.size w w') => rcnt_all w p.size p nv ev lv w' (Nat.le_refl _) h9 hf hp hb
  subst htv hrv'
  obtain ⟨tn, htn⟩ : ∃ x, x = T.length := ⟨_, rfl⟩
  obtain ⟨n, hn⟩ : ∃ x, x = r.steps.length := ⟨_, rfl⟩
  rw [← htn] at hnam hpat ⊢
  rw [← hn] at hsl ⊢
  have HGET := Lib.hid (fun (i : Nat) (s : ST) (h : r.steps[i]? = some s) => hs.get h)
  have HNA := Lib.hid hnam
  have HPA := Lib.hid hpat
  have HCN := Lib.hid hcnt
  have HSF := Lib.hid hsf
  have HSZ := Lib.hid hsz
  have HL := Lib.hid hn
  have HR := Lib.hid (show rruleE T r = if ¬ ((0 ≤ r.cls ∧ r.cls ≤ 31) ∧ 1 ≤ n ∧ n ≤ 4) then some 6 else rstepsE T r.free 0 r.steps by rw [hn]; rfl)
  obtain ⟨k, hk⟩ : ∃ k, k = r.cls := ⟨_, rfl⟩
  obtain ⟨fr, hfr⟩ : ∃ k, k = r.free := ⟨_, rfl⟩
  rw [← hk, ← hfr] at HR ⊢
  have hB1 : ∀ (x y : Obj), Below w.heap.size w ((w.alloc x).alloc y) := fun x y => bel_new (bel_new (Below.refl _ _) _) _
  clear hnam hpat hcnt hsf hsz hn hs hT hTl hk hfr htn nmx kdx clx rkx sox snx scx lox lnx lcx
  by_cases h1 : k < 0
  · have b1 : decide (k < 0) = true := decide_eq_true h1
    have HX := Lib.hid (show codeOf (rruleE T r) = 6 by rw [HR.out, if_pos (by omega)]; rfl)
    clear h1
    go_enter Try.func34, Try.ntmps34
    go_wp2_with fail
    go_ret
    exact ⟨by rw [HX.out]; rfl, hB1 _ _⟩
  have b1 : decide (k < 0) = false := decide_eq_false h1
  by_cases h2 : 31 < k
  · have b2 : decide (31 < k) = true := decide_eq_true h2
    have HX := Lib.hid (show codeOf (rruleE T r) = 6 by rw [HR.out, if_pos (by omega)]; rfl)
    clear h1 h2
    go_enter Try.func34, Try.ntmps34
    go_wp2_with fail
    go_ret
    exact ⟨by rw [HX.out]; rfl, hB1 _ _⟩
  have b2 : decide (31 < k) = false := decide_eq_false h2
  by_cases h3 : n < 1
  · have b3 : decide ((n : Int) < 1) = true := by simp; omega
    have HX := Lib.hid (show codeOf (rruleE T r) = 6 by rw [HR.out, if_pos (by omega)]; rfl)
    clear h1 h2 h3
    go_enter Try.func34, Try.ntmps34
    go_wp2_with fail
    go_ret
    exact ⟨by rw [HX.out]; rfl, hB1 _ _⟩
  have b3 : decide ((n : Int) < 1) = false := by simp; omega
  by_cases h4 : 4 < n
  · have b4 : decide ((4 : Int) < (n : Int)) = true := by simp; omega
    have HX := Lib.hid (show codeOf (rruleE T r) = 6 by rw [HR.out, if_pos (by omega)]; rfl)
    clear h1 h2 h3 h4
    go_enter Try.func34, Try.ntmps34
    go_wp2_with fail
    go_ret
    exact ⟨by rw [HX.out]; rfl, hB1 _ _⟩
  have b4 : decide ((4 : Int) < (n : Int)) = false := by simp; omega
  have HRS := Lib.hid (show rruleE T r = rstepsE T fr 0 r.steps by rw [HR.out, if_neg (by omega)])
  clear h1 h2 h3 h4
  go_enter Try.func34, Try.ntmps34
  go_upto_block 0 with (fail)
  obtain ⟨wB, hwB⟩ : ∃ wB, wB = (w.alloc (.cells #[.slice ot tn ct, .slice o9 n9 c9] 25)).alloc (.cells #[.int .i64 k, .bool fr, .slice so n sc] 38) := ⟨_, rfl⟩
  rw [← hwB]
  have HWB := Lib.hid (show Below w.heap.size w wB ∧ wB.cell? ⟨w.heap.size, 0, none⟩ = some (.slice ot tn ct) ∧ wB.cell? ⟨w.heap.size, 1, none⟩ = some (.slice o9 n9 c9) ∧ wB.cell? ⟨w.heap.size + 1, 1, none⟩ = some (.bool fr) ∧ wB.cell? ⟨w.heap.size + 1, 2, none⟩ = some (.slice so n sc) by
    rw [hwB]; exact ⟨hB1 _ _, by simp [go_sem], by simp [go_sem], by simp [go_sem], by simp [go_sem]⟩)
  clear hwB hB1 b1 b2 b3 b4
  go_wp2_with fail
  go_loopg [5] n (fun g s5 wx => ∃ j : Nat, j + g = n ∧ s5 = .int .i64 (j : Int) ∧ rruleE T r = rstepsE T fr j (r.steps.drop j) ∧ Below w.heap.size w wx ∧ wx.cell? ⟨w.heap.size, 0, none⟩ = some (.slice ot tn ct) ∧ wx.cell? ⟨w.heap.size, 1, none⟩ = some (.slice o9 n9 c9) ∧ wx.cell? ⟨w.heap.size + 1, 1, none⟩ = some (.bool fr) ∧ wx.cell? ⟨w.heap.size + 1, 2, none⟩ = some (.slice so n sc))
  case atStart => exact ⟨0, by omega, rfl, by rw [List.drop_zero]; exact HRS.out, HWB.out⟩
  case round =>
    obtain ⟨j, hjg, rfl, hpe, hbel, e0, e1, e2, e3⟩ := hrel
    have HBE := Lib.hid hbel
    have HPJ := Lib.hid hpe
    clear hpe
    cases gk with
    | zero =>
      obtain rfl : j = n := by omega
      have hx1 : decide ((j : Int) < (j : Int)) = false := by simp
      have hx2 : decide (j < j) = false := by simp
      have HD := Lib.hid (show codeOf (rruleE T r) = 0 by rw [HPJ.out, List.drop_of_length_le (by have := HL.out; omega)]; rfl)
      clear hbel
      go_wp2_with fail
      go_ret
      exact ⟨by rw [HD.out]; rfl, HBE.out⟩
    | succ g =>
      have hk : j < n := by omega
      have hx1 : decide ((j : Int) < (n : Int)) = true := by simp; omega
      have hx2 : decide (j < n) = true := by simpa using hk
      have hk1 : (0 : Int) ≤ (j : Int) := by omega
      have hk2 : (j : Int) < (n : Int) := by omega
      obtain ⟨s, hp⟩ : ∃ p, r.steps[j]? = some p := ⟨_, List.getElem?_eq_getElem (by have := HL.out; omega)⟩
      obtain ⟨b0, off, cap, co, cc, no, nc, eo, ec, lo, lc, hso, hbl, hrow, hpt, k0, k1, k2, k3, k4⟩ := HGET.out j s hp
      obtain ⟨rfl, -, rfl⟩ : so = some ⟨b0, off, none⟩ ∧ n = r.steps.length ∧ sc = cap := by injection hso with q1 q2 q3; exact ⟨q1, HL.out, q3⟩
      rw [← hbel.cell hbl] at k0 k1 k2 k3 k4
      have hcal := fun w' hb' => HNA.out s.calls _ w' hb' hrow (HSF.out j s hp).1
      have hcn := fun w' hb' => HCN.out s.p _ _ _ w' (HSZ.out j s hp) (HSF.out j s hp).2 hpt hb'
      have hpa := fun w' hb' => HPA.out s.p _ _ _ w' (HSF.out j s hp).2 hpt hb'
      have HPD := Lib.hid (show rruleE T r = orE (rstepE T (decide (0 < j) || fr) s) (rstepsE T fr (j + 1) (r.steps.drop (j + 1))) by rw [HPJ.out, drop_at hp, rstepsE_cons])
      have HZ2 := Lib.hid (And.intro (HSZ.out j s hp) (PT.dep_le s.p.size s.p (Nat.le_refl _)))
      obtain ⟨pd, hpd⟩ : ∃ x, x = s.p.dep := ⟨_, rfl⟩
      obtain ⟨pz, hpz⟩ : ∃ x, x = s.p.size := ⟨_, rfl⟩
      rw [← hpd, ← hpz] at hcn
      obtain ⟨pk, hpk⟩ : ∃ x, x = s.p.kind := ⟨_, rfl⟩
      obtain ⟨cn, hcnn⟩ : ∃ x, x = s.calls.length := ⟨_, rfl⟩
      obtain ⟨nn, hnn⟩ : ∃ x, x = s.p.names.length := ⟨_, rfl⟩
      obtain ⟨en, hen⟩ : ∃ x, x = s.p.ends.length := ⟨_, rfl⟩
      obtain ⟨ln, hln⟩ : ∃ x, x = s.p.parts.length := ⟨_, rfl⟩
      rw [← hcnn] at k0 hcal
      rw [← hpk] at k1 hcn hpa
      rw [← hnn] at k2 hcn hpa
      rw [← hen] at k3 hcn hpa
      rw [← hln] at k4 hcn hpa
      have HCAL := Lib.hid hcal
      have HCNT := Lib.hid hcn
      have HPAT := Lib.hid hpa
      have HSD := Lib.hid (And.intro hpd (And.intro hpz hcnn))
      clear hcal hcn hpa hp hso hrow hpt hpk hcnn hnn hen hln hpd hpz hbl hbel
      obtain ⟨ps, hps⟩ : ∃ x, x = (decide (0 < j) || fr) := ⟨_, rfl⟩
      obtain ⟨pc, hpc⟩ : ∃ x, x = decide (0 < cn) := ⟨_, rfl⟩
      have ea1 : decide ((0 : Int) < (cn : Int)) = pc := by rw [hpc]; simp
      rw [← hps] at HPD
      have ea2 : decide (0 < cn) = pc := hpc.symm
      have HPC := Lib.hid hpc
      clear hpc
      obtain ⟨wS, hwS⟩ : ∃ wS, wS = wr.alloc (.cells #[.slice co cn cc, .int .i64 pk, .slice no nn nc, .slice eo en ec, .slice lo ln lc] 45) := ⟨_, rfl⟩
      have HWS := Lib.hid (show Below wr.heap.size wr wS ∧ wS.cell? ⟨wr.heap.size, 0, none⟩ = some (.slice co cn cc) ∧ wS.cell? ⟨wr.heap.size, 1, none⟩ = some (.int .i64 pk) ∧ wS.cell? ⟨wr.heap.size, 2, none⟩ = some (.slice no nn nc) ∧ wS.cell? ⟨wr.heap.size, 3, none⟩ = some (.slice eo en ec) ∧ wS.cell? ⟨wr.heap.size, 4, none⟩ = some (.slice lo ln lc) by
        rw [hwS]; exact ⟨bel_new (Below.refl _ _) _, by simp [go_sem], by simp [go_sem], by simp [go_sem], by simp [go_sem], by simp [go_sem]⟩)
      have f0 : wS.cell? ⟨w.heap.size, 0, none⟩ = some (.slice ot tn ct) := cell_later HWS.out.1 e0
      have f1 : wS.cell? ⟨w.heap.size, 1, none⟩ = some (.slice o9 n9 c9) := cell_later HWS.out.1 e1
      have f2 : wS.cell? ⟨w.heap.size + 1, 1, none⟩ = some (.bool fr) := cell_later HWS.out.1 e2
      have f3 : wS.cell? ⟨w.heap.size + 1, 2, none⟩ = some (.slice (some ⟨b0, off, none⟩) n sc) := cell_later HWS.out.1 e3
      go_upto_region 7 with (fail)
      rw [← hwS]
      clear hwS e0 e1 e2 e3 k0 k1 k2 k3 k4
      obtain ⟨i0, i1, i2, i3, i4⟩ := HWS.out.2
      have HPS := Lib.hid hps
      clear hps
      go_cut [53] from 43 to 53 (fun s53 wx => s53 = .bool (pc != ps) ∧ wx = wS)
      case first =>
        by_cases hj0 : 0 < j
        · have hj1 : decide ((0 : Int) < (j : Int)) = true := by simp; omega
          have hj2 : decide (0 < j) = true := by simpa using hj0
          have hps1 : ps = true := by rw [HPS.out, decide_eq_true hj0]; rfl
          clear hj0
          subst hps1
          go_wp2_with fail
          go_meet
          case rel => exact ⟨by cases pc <;> rfl, rfl⟩
        · have hj1 : decide ((0 : Int) < (j : Int)) = false := by simp; omega
          have hj2 : decide (0 < j) = false := by simpa using hj0
          have hps1 : ps = fr := by rw [HPS.out, decide_eq_false hj0]; rfl
          clear hj0
          subst hps1
          go_wp2_with fail
          go_meet
          case rel => exact ⟨by cases pc <;> cases ps <;> rfl, rfl⟩
      case rest =>
      obtain ⟨rfl, hwy⟩ := hcut
      obtain rfl : wS = wc := hwy.symm
      have HBS := Lib.hid (bel_then HBE.out HWS.out.1)
      by_cases z1 : pc = ps
      case neg =>
        have y1 : (pc != ps) = true := by simpa using z1
        have HX := Lib.hid (show codeOf (rruleE T r) = 5 by
          rw [HPD.out, rstepE, if_pos (by rw [← HSD.out.2.2, ← HPC.out]; exact z1)]; rfl)
        clear z1 ea1 ea2
        rw [y1]
        go_wp2_with fail
        go_ret
        exact ⟨by rw [HX.out]; rfl, HBS.out⟩
      have y1 : (pc != ps) = false := by simpa using z1
      have HPD2 := Lib.hid (show rruleE T r = orE (orE (namesE T 1 [] s.calls) (if 60 < pz ∨ 12 < pd then some 6 else patE T s.p)) (rstepsE T fr (j + 1) (r.steps.drop (j + 1))) by
        rw [HPD.out, rstepE, if_neg (by rw [← HSD.out.2.2, ← HPC.out]; exact fun h => h z1), ← HSD.out.1, ← HSD.out.2.1])
      clear z1 ea1 ea2
      rw [y1]
      go_wp2_with fail
      refine (HCAL.out _ (by exact HBS.out)).mono ?_
      rintro x w2 ⟨rfl, hb2⟩
      have m0 := cell_later hb2 f0
      have m1 := cell_later hb2 f1
      have m2 := cell_later hb2 f2
      have m3 := cell_later hb2 f3
      have l1 := cell_later hb2 i1
      have l2 := cell_later hb2 i2
      have l3 := cell_later hb2 i3
      have l4 := cell_later hb2 i4
      have HB2 := Lib.hid (bel_then HBS.out hb2)
      clear hb2 f0 f1 f2 f3 i0 i1 i2 i3 i4
      obtain ⟨d1, hd1⟩ : ∃ d, d = codeOf (namesE T 1 [] s.calls) := ⟨_, rfl⟩
      rw [← hd1]
      by_cases hz1 : d1 = 0
      case neg =>
        have g1 : (d1 != 0) = true := by simpa using hz1
        have HX := Lib.hid (show codeOf (rruleE T r) = d1 by
          rw [HPD2.out]
          cases hq : namesE T 1 [] s.calls with
          | none => rw [hq] at hd1; exact absurd hd1 hz1
          | some c => rw [hq] at hd1; rw [hd1]; rfl)
        clear hz1 hd1
        go_wp2_with fail
        go_ret
        exact ⟨by rw [HX.out]; rfl, HB2.out⟩
      have HPD3 := Lib.hid (show rruleE T r = orE (if 60 < pz ∨ 12 < pd then some 6 else patE T s.p) (rstepsE T fr (j + 1) (r.steps.drop (j + 1))) by
        rw [HPD2.out, (codeOf_zero (fun c => namesE_ne _ _ c)).1 (hd1.symm.trans hz1)]; rfl)
      clear hd1
      subst hz1
      go_wp2_with fail
      refine (HCNT.out _ (by exact HB2.out)).mono ?_
      rintro x w3 ⟨rfl, hb3⟩
      have n0 := cell_later hb3 m0
      have n1 := cell_later hb3 m1
      have n2 := cell_later hb3 m2
      have n3 := cell_later hb3 m3
      have j1 := cell_later hb3 l1
      have j2 := cell_later hb3 l2
      have j3 := cell_later hb3 l3
      have j4 := cell_later hb3 l4
      have HB3 := Lib.hid (bel_then HB2.out hb3)
      clear hb3 m0 m1 m2 m3 l1 l2 l3 l4
      by_cases q1 : 60 < pz
      · have y2 : decide ((60 : Int) < (pz : Int)) = true := by simp; omega
        have y3 : decide (60 < pz) = true := decide_eq_true q1
        have HX := Lib.hid (show codeOf (rruleE T r) = 6 by rw [HPD3.out, if_pos (.inl q1)]; rfl)
        clear q1
        go_wp2_with fail
        go_ret
        exact ⟨by rw [HX.out]; rfl, HB3.out⟩
      have y2 : decide ((60 : Int) < (pz : Int)) = false := by simp; omega
      have y3 : decide (60 < pz) = false := decide_eq_false q1
      by_cases q2 : 12 < pd
      · have y4 : decide ((12 : Int) < (pd : Int)) = true := by simp; omega
        have y5 : decide (12 < pd) = true := decide_eq_true q2
        have HX := Lib.hid (show codeOf (rruleE T r) = 6 by rw [HPD3.out, if_pos (.inr q2)]; rfl)
        clear q1 q2
        go_wp2_with fail
        go_ret
        exact ⟨by rw [HX.out]; rfl, HB3.out⟩
      have y4 : decide ((12 : Int) < (pd : Int)) = false := by simp; omega
      have y5 : decide (12 < pd) = false := decide_eq_false q2
      have HPD4 := Lib.hid (show rruleE T r = orE (patE T s.p) (rstepsE T fr (j + 1) (r.steps.drop (j + 1))) by
        rw [HPD3.out, if_neg (by omega)])
      clear q1 q2
      go_wp2_with fail
      refine (HPAT.out _ (by exact HB3.out)).mono ?_
      rintro x w4 ⟨rfl, hb4⟩
      have l0 := cell_later hb4 n0
      have l1 := cell_later hb4 n1
      have l2 := cell_later hb4 n2
      have l3 := cell_later hb4 n3
      have HB4 := Lib.hid (bel_then HB3.out hb4)
      clear hb4 n0 n1 n2 n3 j1 j2 j3 j4
      obtain ⟨d3, hd3⟩ : ∃ d, d = codeOf (patE T s.p) := ⟨_, rfl⟩
      rw [← hd3]
      by_cases hz3 : d3 = 0
      case neg =>
        have g3 : (d3 != 0) = true := by simpa using hz3
        have HX := Lib.hid (show codeOf (rruleE T r) = d3 by
          rw [HPD4.out]
          cases hq : patE T s.p with
          | none => rw [hq] at hd3; exact absurd hd3 hz3
          | some c => rw [hq] at hd3; rw [hd3]; rfl)
        clear hz3 hd3
        go_wp2_with fail
        go_ret
        exact ⟨by rw [HX.out]; rfl, HB4.out⟩
      have HPN := Lib.hid (show rruleE T r = rstepsE T fr (j + 1) (r.steps.drop (j + 1)) by
        rw [HPD4.out, (codeOf_zero (patE_ne s.p.size s.p (Nat.le_refl _))).1 (hd3.symm.trans hz3)]; rfl)
      clear hd3
      subst hz3
      go_wp2_with fail
      go_roundg g
      case measure => omega
      case rel => exact ⟨j + 1, by omega, by simp, HPN.out, HB4.out, l0, l1, l2, l3⟩
end Go.Proofs.Ytkmnigoikkffnaa
