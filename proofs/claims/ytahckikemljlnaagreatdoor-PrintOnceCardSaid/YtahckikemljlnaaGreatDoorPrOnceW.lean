/- PrintOnce's walk: what is printed, parsed, and printed again, is the same text; unlike expressions have unlike texts. -/
import Derived.Test.YtahckikemljlnaaGreatDoorPaText
import Derived.Test.YtahckikemljlnaaGreatDoorPmUse
import Derived.Test.YtahckikemljlnaaGreatDoorM6W
import Derived.Test.YtahckikemljlnaaGreatDoorPrTold
set_option linter.unusedVariables false
set_option linter.unusedSimpArgs false
namespace Go.Proofs.YtahckikemljlnaaGreatDoor
open Go.RowKit Ru

theorem beqL_ne {s t : ByteArray} (h : s ≠ t) : (s.toList == t.toList) = false := by
  rw [ByteArray.toList_eq, ByteArray.toList_eq]
  refine beq_eq_false_iff_ne.2 (fun h2 => h ?_)
  cases s; cases t
  simp at h2
  rw [h2]
theorem reP_may {e : RE} (h : e.may = true) : reP e = e.text := by unfold reP; rw [if_pos h]
set_option maxHeartbeats 8000000 in
set_option maxRecDepth 100000 in
theorem printOnce_walk (a : List Int) (va : Value) (b : List Int) (vb : Value) (w : World) (ha : Row w va a.length (a.map (Value.int .i64))) (hb : Row w vb b.length (b.map (Value.int .i64))) (hT : TZ w) :
    Calls Tryz.prog 11 #[va, vb] w fun x w' => x = .returned (.bool true) ∧ Below w.heap.size w w' := by
  have ha0 := ha
  have hb0 := hb
  obtain ⟨oa, ca, rfl, _⟩ := ha
  obtain ⟨ob, cb, rfl, _⟩ := hb
  have hm1 := make6_any a oa ca w ha0
  have hm2 := fun w' (h : Below w.heap.size w w') => make6_any b ob cb w' (hb0.below h)
  obtain ⟨gx, mx, zx⟩ := M6.makeR_ok a
  obtain ⟨gy, my, zy⟩ := M6.makeR_ok b
  obtain ⟨x, hx⟩ : ∃ x, x = M6.makeR a := ⟨_, rfl⟩
  obtain ⟨y, hy⟩ : ∃ y, y = M6.makeR b := ⟨_, rfl⟩
  unfold M6Post at hm1 hm2
  rw [← hx] at hm1 gx mx zx
  rw [← hy] at hm2 gy my zy
  have hte := Pm.texts_eq mx my gx.nn gy.nn
  have heq : (x.text.toList == y.text.toList) = x.same y := by
    cases hs : x.same y with
    | true => rw [hte.2 ((RE.same_iff x.size x y (Nat.le_refl _)).1 hs)]; simp
    | false => exact beqL_ne (fun h => by rw [(RE.same_iff x.size x y (Nat.le_refl _)).2 (hte.1 h)] at hs; cases hs)
  have hss : (x.text.toList == x.text.toList) = true := by simp
  have HTO := Lib.hid (fun w' (h : Below w.heap.size w w') => told14_any w' (hT.moved h))
  have HP1 := Lib.hid (fun sv lv w' (h : Below w.heap.size w w') (hr : ReIs w' x sv lv) => prRe_any x sv lv w' hr gx.fit (hT.moved h))
  have HP2 := Lib.hid (fun sv lv w' (h : Below w.heap.size w w') (hr : ReIs w' y sv lv) => prRe_any y sv lv w' hr gy.fit (hT.moved h))
  have HSM := Lib.hid (fun sa la sb lb w' (h1 : ReIs w' x sa la) (h2 : ReIs w' y sb lb) => reSame_any x y sa la sb lb w' h1 h2 gx.fit gy.fit)
  have HRE := Lib.hid (fun w' => re_text x w' (Pm.may_back mx).1 gx.nn (Pm.may_back mx).2.1 (by omega))
  have HR := Lib.hid (And.intro (reP_may mx) (reP_may my))
  obtain ⟨S, hS⟩ : ∃ S, S = x.text := ⟨_, rfl⟩
  obtain ⟨T, hTT⟩ : ∃ T, T = y.text := ⟨_, rfl⟩
  rw [← hS, ← hTT] at heq
  rw [← hS] at hss
  obtain ⟨bq, hbq⟩ : ∃ bq, bq = x.same y := ⟨_, rfl⟩
  rw [← hbq] at heq
  have HBQ := Lib.hid hbq
  have HS := Lib.hid (And.intro hS hTT)
  have HM1 := Lib.hid hm1
  have HM2 := Lib.hid hm2
  clear hm1 hm2 ha0 hb0 hT gx mx zx gy my zy hte hS hTT hbq hx hy
  obtain ⟨kx, hkx⟩ : ∃ n, n = x.kind := ⟨_, rfl⟩
  obtain ⟨ky, hky⟩ : ∃ n, n = y.kind := ⟨_, rfl⟩
  have HKX := Lib.hid (And.intro hkx hky)
  clear hkx hky
  go_enter Tryz.func11, Tryz.ntmps11
  go_wp2_with fail
  refine HM1.out.mono ?_
  rintro e1 w1 ⟨s1, l1, rfl, hk1, hb1⟩
  obtain ⟨⟨o1, q1, rfl⟩, ⟨o2, q2, rfl⟩⟩ := hk1.here.form
  rw [← HKX.out.1]
  have HK1 := Lib.hid hk1.here
  have HB1 := Lib.hid hb1
  clear hk1 hb1
  go_wp2_with fail
  refine (HM2.out _ HB1.out).mono ?_
  rintro e2 w2 ⟨s2, l2, rfl, hk2, hb2⟩
  obtain ⟨⟨o3, q3, rfl⟩, ⟨o4, q4, rfl⟩⟩ := hk2.here.form
  rw [← HKX.out.2]
  obtain ⟨W0, hW0⟩ : ∃ W0, W0 = (w2.alloc (.cells #[.int .i64 kx, .slice o1 x.set.length q1, .slice o2 x.parts.length q2] 35)).alloc (.cells #[.int .i64 ky, .slice o3 y.set.length q3, .slice o4 y.parts.length q4] 35) := ⟨_, rfl⟩
  have hbW : Below w2.heap.size w2 W0 := by rw [hW0]; exact bel_new (bel_new (Below.refl _ _) _) _
  have HB0 := Lib.hid (bel_then (bel_then HB1.out hb2) hbW)
  have HX0 := Lib.hid ((HK1.out.moved hb2).moved hbW)
  have HY0 := Lib.hid (hk2.here.moved hbW)
  have hq1 : W0.heap[w2.heap.size]? = some (.cells #[.int .i64 kx, .slice o1 x.set.length q1, .slice o2 x.parts.length q2] 35 (0, 0)) := by
    rw [hW0]
    exact bel_get (w := w2.alloc _) (bel_new (Below.refl _ _) _) (heap_alloc_new w2 _)
  have hq2 : W0.heap[w2.heap.size + 1]? = some (.cells #[.int .i64 ky, .slice o3 y.set.length q3, .slice o4 y.parts.length q4] 35 (0, 0)) := by
    rw [hW0]
    have h := heap_alloc_new (w2.alloc (.cells #[.int .i64 kx, .slice o1 x.set.length q1, .slice o2 x.parts.length q2] 35)) (.cells #[.int .i64 ky, .slice o3 y.set.length q3, .slice o4 y.parts.length q4] 35)
    simpa using h
  have HQ := Lib.hid (And.intro hq1 hq2)
  have HW0 := Lib.hid hW0
  clear hk2 hb2 hbW hq1 hq2 hW0
  go_wp2_with fail
  rw [← HW0.out]
  obtain ⟨ι, K, hne, hkb, hks⟩ := kept_family W0
  have KB := Lib.hid hkb
  have kS := hks _ (Below.refl _ _).drew
  have hp1 := fun i => calls_kept hkb hks (i := i) (HP1.out (.slice o1 x.set.length q1) (.slice o2 x.parts.length q2) (K i) (bel_then HB0.out (hkb i)) (HX0.out.moved (hkb i)))
  have hp2 := fun i => calls_kept hkb hks (i := i) (HP2.out (.slice o3 y.set.length q3) (.slice o4 y.parts.length q4) (K i) (bel_then HB0.out (hkb i)) (HY0.out.moved (hkb i)))
  rw [HR.out.1, ← HS.out.1, ← HKX.out.1] at hp1
  rw [HR.out.2, ← HS.out.2, ← HKX.out.2] at hp2
  have HPK1 := Lib.hid hp1
  have HPK2 := Lib.hid hp2
  have jx : ∀ i, ((K i).cell? ⟨w2.heap.size, 0, none⟩ = some (.int .i64 kx) ∧ (K i).cell? ⟨w2.heap.size, 1, none⟩ = some (.slice o1 x.set.length q1) ∧ (K i).cell? ⟨w2.heap.size, 2, none⟩ = some (.slice o2 x.parts.length q2)) := fun i => cell3_of (bel_get (hkb i) HQ.out.1)
  have jy : ∀ i, ((K i).cell? ⟨w2.heap.size + 1, 0, none⟩ = some (.int .i64 ky) ∧ (K i).cell? ⟨w2.heap.size + 1, 1, none⟩ = some (.slice o3 y.set.length q3) ∧ (K i).cell? ⟨w2.heap.size + 1, 2, none⟩ = some (.slice o4 y.parts.length q4)) := fun i => cell3_of (bel_get (hkb i) HQ.out.2)
  have jx0 := fun i => (jx i).1
  have jx1 := fun i => (jx i).2.1
  have jx2 := fun i => (jx i).2.2
  have jy0 := fun i => (jy i).1
  have jy1 := fun i => (jy i).2.1
  have jy2 := fun i => (jy i).2.2
  clear hkb hks hp1 hp2 jx jy
  refine region_kept K (by kernel_rfl) (by kernel_rfl) kS ?_
  repeat (go_big_quiet_step (with_reducible first | exact HPK1.out _ | exact HPK2.out _))
  refine wpQuiet_nil ?_
  rintro _ ⟨iw, rfl⟩
  have hbK := KB.out iw
  obtain ⟨W3, hW3⟩ : ∃ W3, W3 = K iw := ⟨_, rfl⟩
  rw [← hW3] at hbK ⊢
  have HB3 := Lib.hid (bel_then HB0.out hbK)
  have HX3 := Lib.hid (HX0.out.moved hbK)
  have HY3 := Lib.hid (HY0.out.moved hbK)
  have HQ3 := Lib.hid (And.intro (bel_get hbK HQ.out.1) (bel_get hbK HQ.out.2))
  have hre := HRE.out W3
  rw [← HS.out.1] at hre
  have HRE3 := Lib.hid hre
  clear jx0 jx1 jx2 jy0 jy1 jy2 hbK hW3 hre kS
  go_wp2_with fail
  refine HRE3.out.mono ?_
  rintro e4 w4 ⟨s4, l4, rfl, hk4, hb4⟩
  obtain ⟨⟨o5, q5, rfl⟩, ⟨o6, q6, rfl⟩⟩ := hk4.here.form
  rw [← HKX.out.1]
  have hb5 : Below w4.heap.size w4 (w4.alloc (.cells #[.int .i64 kx, .slice o5 x.set.length q5, .slice o6 x.parts.length q6] 35)) := bel_new (Below.refl _ _) _
  have HB5 := Lib.hid (bel_then (bel_then HB3.out hb4) hb5)
  have HX5 := Lib.hid ((HX3.out.moved hb4).moved hb5)
  have HY5 := Lib.hid ((HY3.out.moved hb4).moved hb5)
  have HZ5 := Lib.hid (hk4.here.moved hb5)
  have HQ5 := Lib.hid (And.intro (bel_get hb5 (bel_get hb4 HQ3.out.1)) (And.intro (bel_get hb5 (bel_get hb4 HQ3.out.2)) (heap_alloc_new w4 (.cells #[.int .i64 kx, .slice o5 x.set.length q5, .slice o6 x.parts.length q6] 35))))
  clear hk4 hb4 hb5
  go_wp2_with fail
  refine (HTO.out _ HB5.out).mono ?_
  rintro e6 w6 ⟨rfl, hb6⟩
  have HB6 := Lib.hid (bel_then HB5.out hb6)
  have HX6 := Lib.hid (HX5.out.moved hb6)
  have HY6 := Lib.hid (HY5.out.moved hb6)
  have HZ6 := Lib.hid (HZ5.out.moved hb6)
  have HQ6 := Lib.hid (And.intro (bel_get hb6 HQ5.out.1) (And.intro (bel_get hb6 HQ5.out.2.1) (bel_get hb6 HQ5.out.2.2)))
  obtain ⟨z0, z1, z2⟩ := cell3_of HQ6.out.2.2
  have hp6 := HP1.out (.slice o5 x.set.length q5) (.slice o6 x.parts.length q6) w6 HB6.out HZ6.out
  rw [HR.out.1, ← HS.out.1, ← HKX.out.1] at hp6
  have HP6 := Lib.hid hp6
  clear hb6 hp6
  go_wp2_with fail
  refine HP6.out.mono ?_
  rintro e7 w7 ⟨rfl, hb7⟩
  have HB7 := Lib.hid (bel_then HB6.out hb7)
  obtain ⟨x0, x1, x2⟩ := cell3_of (bel_get hb7 HQ6.out.1)
  obtain ⟨y0, y1, y2⟩ := cell3_of (bel_get hb7 HQ6.out.2.1)
  have hs7 := HSM.out (.slice o1 x.set.length q1) (.slice o2 x.parts.length q2) (.slice o3 y.set.length q3) (.slice o4 y.parts.length q4) w7 (HX6.out.moved hb7) (HY6.out.moved hb7)
  rw [← HKX.out.1, ← HKX.out.2, ← HBQ.out] at hs7
  have HS7 := Lib.hid hs7
  clear hb7 hs7 z0 z1 z2
  go_wp2_with fail
  refine HS7.out.mono ?_
  rintro e8 w8 ⟨rfl, hb8⟩
  have HB8 := Lib.hid (bel_then HB7.out hb8)
  clear hb8
  cases bq with
  | true =>
    go_wp2_with fail
    go_ret
    exact ⟨rfl, HB8.out⟩
  | false =>
    go_wp2_with fail
    go_ret
    exact ⟨rfl, HB8.out⟩
end Go.Proofs.YtahckikemljlnaaGreatDoor
