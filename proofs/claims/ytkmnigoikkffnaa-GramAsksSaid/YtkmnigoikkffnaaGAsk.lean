/- GramAsks: the walk. -/
import Derived.Test.YtkmnigoikkffnaaGRefS
import Derived.Test.YtkmnigoikkffnaaGTold
set_option linter.unusedVariables false
set_option linter.unusedSimpArgs false
namespace Go.Proofs.Ytkmnigoikkffnaa
open Go.RowKit Ru

theorem gs_cells {wc : World} {p : Nat} {a b : Value} {t : TypeId} (h : wc.heap[p]? = some (.cells #[a, b] t (0, 0))) : wc.cell? ⟨p, 0, none⟩ = some a ∧ wc.cell? ⟨p, 1, none⟩ = some b := by
  simp [World.cell?, h]
set_option maxHeartbeats 32000000 in
set_option maxRecDepth 100000 in
theorem gramAsks_walk (T U : List TK) (R S : List RU) (tv rv uv sv : Value) (nm : ByteArray) (w : World) (hT : TksAre w tv T) (hU : TksAre w uv U) (hR : RusAre w rv R) (hS : RusAre w sv S) (hTr : TRaw T) (hUr : TRaw U) :
    Calls Try.prog 3 #[.agg #[tv, rv], .agg #[uv, sv], .string nm] w fun e w' => e = .returned (.bool true) ∧ Below w.heap.size w w' := by
  obtain ⟨ot, ct, nmx, kdx, clx, rkx, sox, snx, scx, lox, lnx, lcx, htv, -⟩ := hT.all
  obtain ⟨ou, cu, nmy, kdy, cly, rky, soy, sny, scy, loy, lny, lcy, huv, -⟩ := hU.all
  obtain ⟨orr, cr, hrv⟩ := hR.form
  obtain ⟨os, cs, hsv⟩ := hS.form
  have hfg := fun w' (hb : Below w.heap.size w w') => gfew_any T R tv rv w' (hT.moved hb) (hR.moved hb) hTr
  have hfh := fun w' (hb : Below w.heap.size w w') => gfew_any U S uv sv w' (hU.moved hb) (hS.moved hb) hUr
  have hck := fun w' (hb : Below w.heap.size w w') (hG : FewG T R) => gchk_any T R tv rv w' (hT.moved hb) (hR.moved hb) (by have := hG.tl; omega) (by have := hG.rl; omega) hG.tf hG.rf
  have hrk := fun w' (hb : Below w.heap.size w w') (hG : FewG T R) => rchk_any T R tv rv w' (hT.moved hb) (hR.moved hb) hG
  have hmy := fun w' (hb : Below w.heap.size w w') (hG : FewG T R) => gramMay_any T R tv rv w' (hT.moved hb) (hR.moved hb) (by have := hG.tl; omega) (by have := hG.rl; omega) hG.tf hG.rf
  have hsa := fun w' (hb : Below w.heap.size w w') (hG : FewG T R) (hH : FewG U S) => gramSame_any T U R S tv rv uv sv w' (hT.moved hb) (hU.moved hb) (hR.moved hb) (hS.moved hb) (by have := hG.tl; omega) (by have := hH.tl; omega) (by have := hG.rl; omega) (by have := hH.rl; omega) hG.tf hH.tf hG.rf hH.rf
  have hsb := fun w' (hb : Below w.heap.size w w') (hG : FewG T R) (hH : FewG U S) => rgsame_any T U R S tv rv uv sv w' (hT.moved hb) (hU.moved hb) (hR.moved hb) (hS.moved hb) hG hH
  have hss := fun w' (hb : Below w.heap.size w w') (hG : FewG T R) => gramSame_any T T R R tv rv tv rv w' (hT.moved hb) (hT.moved hb) (hR.moved hb) (hR.moved hb) (by have := hG.tl; omega) (by have := hG.tl; omega) (by have := hG.rl; omega) (by have := hG.rl; omega) hG.tf hG.tf hG.rf hG.rf
  rw [show (allS TK.same T T && allS RU.same R R) = true by rw [allS_refl TK.same_refl, allS_refl RU.same_refl]; rfl] at hss
  have hfi := fun w' (hb : Below w.heap.size w w') (hG : FewG T R) => gramFind_any T tv rv nm w' (hT.moved hb) (by have := hG.tl; omega) ⟨_, _, _, hrv⟩
  have hfj := fun w' (hb : Below w.heap.size w w') (hG : FewG T R) => refFind_any T tv rv nm w' (hT.moved hb) (by have := hG.tl; omega) ⟨_, _, _, hrv⟩
  subst htv huv hrv hsv
  obtain ⟨n, hn⟩ : ∃ x, x = T.length := ⟨_, rfl⟩
  obtain ⟨m, hm⟩ : ∃ x, x = R.length := ⟨_, rfl⟩
  obtain ⟨n2, hn2⟩ : ∃ x, x = U.length := ⟨_, rfl⟩
  obtain ⟨m2, hm2⟩ : ∃ x, x = S.length := ⟨_, rfl⟩
  obtain ⟨cd, hcd⟩ : ∃ x, x = (chkE T R).1 := ⟨_, rfl⟩
  obtain ⟨pl, hpl⟩ : ∃ x, x = (chkE T R).2 := ⟨_, rfl⟩
  obtain ⟨sa, hsa9⟩ : ∃ x, x = (allS TK.same T U && allS RU.same R S) := ⟨_, rfl⟩
  obtain ⟨fi, hfi9⟩ : ∃ x, x = findB T nm := ⟨_, rfl⟩
  rw [← hn, ← hm] at hfg hck hrk hmy hsa hsb hss hfi hfj
  rw [← hn2, ← hm2] at hfh hsa hsb
  rw [← hcd] at hck hrk hmy
  rw [← hpl] at hck hrk
  rw [← hsa9] at hsa hsb
  rw [← hfi9] at hfi hfj
  rw [← hn, ← hm, ← hn2, ← hm2]
  obtain ⟨mb, hmb⟩ : ∃ b, decide (cd = 0) = b := ⟨_, rfl⟩
  rw [hmb] at hmy
  have b0 : (cd == 0) = mb := by rw [← hmb]; by_cases h : cd = 0 <;> simp [h]
  have b1 : (mb == mb) = true := by simp
  have b2 : (cd == cd) = true := by simp
  have b3 : (pl == pl) = true := by simp
  have b4 : (sa == sa) = true := by simp
  have b5 : (fi == fi) = true := by simp
  have HFG := Lib.hid hfg
  have HFH := Lib.hid hfh
  have HCK := Lib.hid hck
  have HRK := Lib.hid hrk
  have HMY := Lib.hid hmy
  have HSA := Lib.hid hsa
  have HSB := Lib.hid hsb
  have HSS := Lib.hid hss
  have HFI := Lib.hid hfi
  have HFJ := Lib.hid hfj
  clear hfg hfh hck hrk hmy hsa hsb hss hfi hfj hn hm hn2 hm2 hcd hpl hsa9 hfi9 hmb hT hU hR hS hTr hUr
  have hB1 : ∀ (x y : Obj), Below w.heap.size w ((w.alloc x).alloc y) := fun x y => bel_new (bel_new (Below.refl _ _) _) _
  go_enter Try.func3, Try.ntmps3
  go_wp2_with fail
  refine (HFG.out _ (hB1 _ _)).mono ?_
  rintro x w3 ⟨⟨bg, rfl, hg⟩, hb3⟩
  have c0 : w3.cell? ⟨w.heap.size, 0, none⟩ = some (.slice ot n ct) := cell_later hb3 (by simp [go_sem])
  have c1 : w3.cell? ⟨w.heap.size, 1, none⟩ = some (.slice orr m cr) := cell_later hb3 (by simp [go_sem])
  have c2 : w3.cell? ⟨w.heap.size + 1, 0, none⟩ = some (.slice ou n2 cu) := cell_later hb3 (by simp [go_sem])
  have c3 : w3.cell? ⟨w.heap.size + 1, 1, none⟩ = some (.slice os m2 cs) := cell_later hb3 (by simp [go_sem])
  have HB3 := Lib.hid (bel_then (hB1 _ _) hb3)
  have HGG := Lib.hid hg
  clear hb3 hg hB1
  cases bg with
  | false =>
    go_wp2_with fail
    refine (gtold_any w3).mono ?_
    rintro x w4 ⟨rfl, hb4⟩
    have HB4 := Lib.hid (bel_then HB3.out hb4)
    clear hb4
    go_wp2_with fail
    go_ret
    exact ⟨rfl, HB4.out⟩
  | true =>
    go_wp2_with fail
    refine (HFH.out _ HB3.out).mono ?_
    rintro x w4 ⟨⟨bh, rfl, hh⟩, hb4⟩
    have HB4 := Lib.hid (bel_then HB3.out hb4)
    replace c0 := cell_later hb4 c0
    replace c1 := cell_later hb4 c1
    replace c2 := cell_later hb4 c2
    replace c3 := cell_later hb4 c3
    have HHH := Lib.hid hh
    clear hb4 hh
    cases bh with
    | false =>
      go_wp2_with fail
      refine (gtold_any w4).mono ?_
      rintro x w5 ⟨rfl, hb5⟩
      have HB5 := Lib.hid (bel_then HB4.out hb5)
      clear hb5
      go_wp2_with fail
      go_ret
      exact ⟨rfl, HB5.out⟩
    | true =>
      by_cases hl : 100 < nm.size
      · have d1 : decide ((100 : Int) < (nm.size : Int)) = true := by simp; omega
        have d2 : decide (100 < nm.size) = true := by simp; omega
        clear hl
        go_wp2_with fail
        refine (gtold_any w4).mono ?_
        rintro x w5 ⟨rfl, hb5⟩
        have HB5 := Lib.hid (bel_then HB4.out hb5)
        clear hb5
        go_wp2_with fail
        go_ret
        exact ⟨rfl, HB5.out⟩
      have d1 : decide ((100 : Int) < (nm.size : Int)) = false := by simp; omega
      have d2 : decide (100 < nm.size) = false := by simp; omega
      have HNL := Lib.hid (show nm.size ≤ 1000 by omega)
      have HG1 := Lib.hid (HGG.out (by first | rfl | trivial))
      have HH1 := Lib.hid (HHH.out (by first | rfl | trivial))
      clear hl
      go_wp2_with fail
      refine (HCK.out _ HB4.out HG1.out).mono ?_
      rintro x w5 ⟨rfl, hb5⟩
      have HB5 := Lib.hid (bel_then HB4.out hb5)
      replace c0 := cell_later hb5 c0
      replace c1 := cell_later hb5 c1
      replace c2 := cell_later hb5 c2
      replace c3 := cell_later hb5 c3
      clear hb5
      go_wp2_with fail
      refine (HRK.out _ HB5.out HG1.out).mono ?_
      rintro x w6 ⟨rfl, hb6⟩
      have HB6 := Lib.hid (bel_then HB5.out hb6)
      replace c0 := cell_later hb6 c0
      replace c1 := cell_later hb6 c1
      replace c2 := cell_later hb6 c2
      replace c3 := cell_later hb6 c3
      clear hb6
      obtain ⟨nb, hnb⟩ : ∃ x, x = namB nm := ⟨_, rfl⟩
      have b6 : (nb == nb) = true := by simp
      obtain ⟨ι, K, hne, hkb, hks⟩ := kept_family w6
      have KB := Lib.hid hkb
      have kS := hks _ (Below.refl _ _).drew
      have HK1 := Lib.hid (fun i => calls_kept hkb hks (gtold_any (K i)))
      have HK2 := Lib.hid (fun i => calls_kept hkb hks (HMY.out (K i) (bel_then HB6.out (hkb i)) HG1.out))
      have HK3 := Lib.hid (fun i => calls_kept hkb hks (HSA.out (K i) (bel_then HB6.out (hkb i)) HG1.out HH1.out))
      have HK4 := Lib.hid (fun i => calls_kept hkb hks (HSB.out (K i) (bel_then HB6.out (hkb i)) HG1.out HH1.out))
      have HK5 := Lib.hid (fun i => calls_kept hkb hks (HSS.out (K i) (bel_then HB6.out (hkb i)) HG1.out))
      have HK6 := Lib.hid (fun i => calls_kept hkb hks (HFI.out (K i) (bel_then HB6.out (hkb i)) HG1.out))
      have HK7 := Lib.hid (fun i => calls_kept hkb hks (HFJ.out (K i) (bel_then HB6.out (hkb i)) HG1.out))
      have HK8 := Lib.hid (fun i => calls_kept (v := .bool nb) hkb hks ((gName_any nm (K i) HNL.out).mono fun e w'' hh => ⟨by rw [hnb]; exact hh.1, hh.2⟩))
      have HK9 := Lib.hid (fun i => calls_kept (v := .bool nb) hkb hks ((refName_any nm (K i) HNL.out).mono fun e w'' hh => ⟨by rw [hnb]; exact hh.1, by rw [hh.2]; exact Below.refl _ _⟩))
      have j0 : ∀ i, (K i).cell? ⟨w.heap.size, 0, none⟩ = some (.slice ot n ct) := fun i => cell_later (hkb i) c0
      have j1 : ∀ i, (K i).cell? ⟨w.heap.size, 1, none⟩ = some (.slice orr m cr) := fun i => cell_later (hkb i) c1
      have j2 : ∀ i, (K i).cell? ⟨w.heap.size + 1, 0, none⟩ = some (.slice ou n2 cu) := fun i => cell_later (hkb i) c2
      have j3 : ∀ i, (K i).cell? ⟨w.heap.size + 1, 1, none⟩ = some (.slice os m2 cs) := fun i => cell_later (hkb i) c3
      clear hkb hks hnb c0 c1 c2 c3
      go_upto_region 5 with (fail)
      refine region_kept K (by kernel_rfl) (by kernel_rfl) kS ?_
      repeat (go_big_quiet_step (first | with_reducible exact HK1.out _ | with_reducible exact HK2.out _ | with_reducible exact HK3.out _ | with_reducible exact HK4.out _ | with_reducible exact HK5.out _ | with_reducible exact HK6.out _ | with_reducible exact HK7.out _ | with_reducible exact HK8.out _ | with_reducible exact HK9.out _))
      refine wpQuiet_nil ?_
      rintro _ ⟨iw, rfl⟩
      have HB7 := Lib.hid (bel_then HB6.out (KB.out iw))
      go_wp2_with fail
      go_ret
      exact ⟨rfl, HB7.out⟩
/-- the same, without a word of the law's frame -/
theorem gramAsks_fin (T : List TK) (R : List RU) (tv rv : Value) (U : List TK) (S : List RU) (uv sv : Value) (nm : ByteArray) (w : World) (hT : TksAre w tv T) (hR : RusAre w rv R) (hTr : TRaw T) (hU : TksAre w uv U) (hS : RusAre w sv S) (hUr : TRaw U) :
    Calls Try.prog 3 #[.agg #[tv, rv], .agg #[uv, sv], .string nm] w fun e w' => e = .returned (.bool true) ∧ Below w.heap.size w w' :=
  gramAsks_walk T U R S tv rv uv sv nm w hT hU hR hS hTr hUr
end Go.Proofs.Ytkmnigoikkffnaa
