/- gobolaw11.pattern: arms of its switch. -/
import Derived.Test.YtbanmggkfpnalaaGreatDoorGMkC
set_option linter.unusedVariables false
set_option linter.unusedSimpArgs false
namespace Go.Proofs.YtbanmggkfpnalaaGreatDoor
open Go.RowKit Ru PT

set_option maxHeartbeats 20000000 in
set_option maxRecDepth 100000 in
theorem pat_arm7 (T : List TK) (l : List Int) (cl : Nat) (oi : Option Addr) (ci : Nat) (oc : Option Addr) (cc : Nat) (or : Option Addr) (cr : Nat) (I C R : List ByteArray) (w : World) : (patCore (fun n v => 0 < n ∧ v = 7) T l cl oi ci oc cc or cr I C R w).1 := by
  intro ip hp0 hp1 hp2 hp3 HE Q0 K0 A0 wr _ _ _ _ _ _ _ _ _ _ _ _ _ _ _ _ _ _ _ _ _ _ _ _ _ _ _ _ _ _ _ _ _ _ _ _ _ _ _ _ _ _ _ _ _ _ _ _ _ _ _ _ _ _ _ _ _ _ _ _ _ _ _ _ _ _ _ _ _ _ _ _ _ _ _ _ _ _ _ _ _ _ _ _ _ _ _ _ _ _ _ _ _ _ _ _ _ _ _ _ _ _ _ _ _ _ _ _ _ _ _ _ _ _ _ _ _ _ _ _ _ _ _ _ _ _ _ _ _ _ _ _ _ _ _ _ _ _ _ _ _ _ _ _ _ _ _ _ _ _ _ _ _ _ _ _ _ _ _ _ _ _ _ _ _ _ _ _ _ _ _ _ _ _ _ _ _ _ _ _ _ J0 K1 j o n c ps hn8 k v hv ev1 ev2 HKE hd1 hd2 b off hk0 A1 hj8 hjl g A2 hjg K2 A3 K3 A4 nq wq HQ hcase
  rcases hcase with ⟨h, rfl⟩
  obtain ⟨m, rfl⟩ : ∃ m, n = m + 1 := ⟨n - 1, by omega⟩
  obtain ⟨ps', q, rfl⟩ : ∃ ps' q, ps = ps' ++ [q] := last_of (by have := HQ.out.len; omega)
  obtain ⟨g5, rfl, hg1, hg2, hnc, hfz, hcl⟩ := HQ.out.own_cells (by omega)
  obtain ⟨x0, x1, x2, x3⟩ := hcl m q (by have h9 := HQ.out.len; simp at h9; subst h9; simp)
  have z0 := hfz (m * 4)
  have z1 := hfz (m * 4 + 1)
  have z2 := hfz (m * 4 + 2)
  have z3 := hfz (m * 4 + 3)
  have hm0 : (0 : Int) ≤ (m : Int) := by omega
  have hm1 : (m : Int) < (m : Int) + 1 := by omega
  have n0 : ¬ g5 = wq.heap.size := by omega
  clear hcl hfz
  by_cases h2 : (m : Int) + 1 < 2
  · have e2 : decide ((m : Int) + 1 < 2) = true := by simpa using h2
    clear h2
    have e0 : ((m : Int) + 1 == 0) = false := by simp; omega
    have e1 : decide ((0 : Int) < (m : Int) + 1) = true := by simp
    obtain ⟨x11, hx11⟩ : ∃ x, IntKind.i64.wrap (k.tdiv 11) = x := ⟨_, rfl⟩
    obtain ⟨x13, hx13⟩ : ∃ x, IntKind.i64.wrap (k.tdiv 13) = x := ⟨_, rfl⟩
    obtain ⟨op, np, cp, ns, hnl, hrow, hsub, hcall⟩ := pick_kp C _ x11 w HE.out.hC HE.out.lC.1 HE.out.lC.2
    obtain ⟨oq, nr, cq, es, hnl2, hrow2, hsub2, hcall2⟩ := pick_kp R _ x13 w HE.out.hR HE.out.lR.1 HE.out.lR.2
    subst hnl hnl2
    have HP := Lib.hid (And.intro hrow (And.intro hsub (And.intro hrow2 hsub2)))
    clear hrow hsub hrow2 hsub2
    have hm2 : (0 : Int) ≤ (m : Int) + 1 := by omega
    go_upto_region 18 with (fail)
    have w1 : IntKind.i64.wrap (m : Int) = (m : Int) := IntWalk.i64_in _ (by omega)
    go_region_law (first
        | (go_simp; go_at_call 45; (first | with_reducible refine (hcall _).mono ?_ | with_reducible refine (hcall2 _).mono ?_); rintro e w3 ⟨rfl, rfl⟩))
    all_goals (
      obtain ⟨w5, hw5⟩ : ∃ w5, w5 = ((((wq.setCell ⟨g5, m * 4, none⟩ (.int .i64 3)).setCell ⟨g5, m * 4 + 1, none⟩ (.slice op ns.length cp)).setCell ⟨g5, m * 4 + 2, none⟩ (.slice oq es.length cq)).setCell ⟨g5, m * 4 + 3, none⟩ (.slice (some ⟨wq.heap.size, 0, none⟩) 1 1)).alloc (.cells #[.int .i64 q.1.kind, q.2.1, q.2.2.1, q.2.2.2] 47) := ⟨_, rfl⟩
      rw [← hw5]
      have hbX : Below wq.heap.size wq (wq.alloc (.cells #[.int .i64 q.1.kind, q.2.1, q.2.2.1, q.2.2.2] 47)) := bel_new (Below.refl _ _) _
      have hS5 := HQ.out.over hbX (hw5.trans (set4_alloc hg2).symm) (p := .mk 3 ns es [q.1]) (nv := .slice op ns.length cp) (ev := .slice oq es.length cq) (lv := .slice (some ⟨wq.heap.size, 0, none⟩) 1 1)
        (kp_and (kp_arg HQ.out hbX (kp_and HP.out.1 HP.out.2.2.1 (fun w' h1 h2 => And.intro h1 h2))) (kp_and ((HQ.out.own.keep q (by simp)).to (.of hbX)) (KP.block (heap_alloc_new wq _) ⟨⟨.inl (by have := HQ.out.lt; omega), by have := HQ.out.lt; omega⟩, fun e => by simp [Value.ownBlock] at e; omega⟩) (fun w' h1 h2 => And.intro h1 h2)) (fun w' h1 h2 => pt_one h1.1 h1.2 h2.1 h2.2))
        (gp_in (HE.out.nC _ HP.out.2.1.1) (HE.out.nR _ HP.out.2.2.2.1) (HQ.out.stk.good q.1 (by simp))) (by rw [deep_mk, deeps_cons, deeps_nil]; omega) (by rw [size_mk, sizes_cons, sizes_nil]) (HQ.out.wrapIn hjl HKE.out ev1 hx11 hx13 HP.out.2.1.2 HP.out.2.2.2.2)
      have HS5 := Lib.hid (hS5.moved (Below.refl _ _).drew)
      clear hS5 hw5 hbX
      go_wp2
      go_roundg g
      case measure => omega
      case rel => exact ⟨j + 1, _, m + 1, c, _, by omega, by simp, rfl, HS5.out⟩)
  · have e2 : decide ((m : Int) + 1 < 2) = false := by simpa using h2
    clear h2
    have e0 : ((m : Int) + 1 == 0) = false := by simp; omega
    have e1 : decide ((0 : Int) < (m : Int) + 1) = true := by simp
    obtain ⟨x11, hx11⟩ : ∃ x, IntKind.i64.wrap (k.tdiv 11) = x := ⟨_, rfl⟩
    obtain ⟨x13, hx13⟩ : ∃ x, IntKind.i64.wrap (k.tdiv 13) = x := ⟨_, rfl⟩
    obtain ⟨op, np, cp, ns, hnl, hrow, hsub, hcall⟩ := pick_kp C _ x11 w HE.out.hC HE.out.lC.1 HE.out.lC.2
    obtain ⟨oq, nr, cq, es, hnl2, hrow2, hsub2, hcall2⟩ := pick_kp R _ x13 w HE.out.hR HE.out.lR.1 HE.out.lR.2
    subst hnl hnl2
    have HP := Lib.hid (And.intro hrow (And.intro hsub (And.intro hrow2 hsub2)))
    clear hrow hsub hrow2 hsub2
    have hm2 : (0 : Int) ≤ (m : Int) + 1 := by omega
    go_upto_region 18 with (fail)
    have w1 : IntKind.i64.wrap (m : Int) = (m : Int) := IntWalk.i64_in _ (by omega)
    go_region_law (first
        | (go_simp; go_at_call 45; (first | with_reducible refine (hcall _).mono ?_ | with_reducible refine (hcall2 _).mono ?_); rintro e w3 ⟨rfl, rfl⟩))
    all_goals (
      obtain ⟨w5, hw5⟩ : ∃ w5, w5 = ((((wq.setCell ⟨g5, m * 4, none⟩ (.int .i64 3)).setCell ⟨g5, m * 4 + 1, none⟩ (.slice op ns.length cp)).setCell ⟨g5, m * 4 + 2, none⟩ (.slice oq es.length cq)).setCell ⟨g5, m * 4 + 3, none⟩ (.slice (some ⟨wq.heap.size, 0, none⟩) 1 1)).alloc (.cells #[.int .i64 q.1.kind, q.2.1, q.2.2.1, q.2.2.2] 47) := ⟨_, rfl⟩
      rw [← hw5]
      have hbX : Below wq.heap.size wq (wq.alloc (.cells #[.int .i64 q.1.kind, q.2.1, q.2.2.1, q.2.2.2] 47)) := bel_new (Below.refl _ _) _
      have hS5 := HQ.out.over hbX (hw5.trans (set4_alloc hg2).symm) (p := .mk 3 ns es [q.1]) (nv := .slice op ns.length cp) (ev := .slice oq es.length cq) (lv := .slice (some ⟨wq.heap.size, 0, none⟩) 1 1)
        (kp_and (kp_arg HQ.out hbX (kp_and HP.out.1 HP.out.2.2.1 (fun w' h1 h2 => And.intro h1 h2))) (kp_and ((HQ.out.own.keep q (by simp)).to (.of hbX)) (KP.block (heap_alloc_new wq _) ⟨⟨.inl (by have := HQ.out.lt; omega), by have := HQ.out.lt; omega⟩, fun e => by simp [Value.ownBlock] at e; omega⟩) (fun w' h1 h2 => And.intro h1 h2)) (fun w' h1 h2 => pt_one h1.1 h1.2 h2.1 h2.2))
        (gp_in (HE.out.nC _ HP.out.2.1.1) (HE.out.nR _ HP.out.2.2.2.1) (HQ.out.stk.good q.1 (by simp))) (by rw [deep_mk, deeps_cons, deeps_nil]; omega) (by rw [size_mk, sizes_cons, sizes_nil]) (HQ.out.wrapIn hjl HKE.out ev1 hx11 hx13 HP.out.2.1.2 HP.out.2.2.2.2)
      have HS5 := Lib.hid (hS5.moved (Below.refl _ _).drew)
      clear hS5 hw5 hbX
      go_wp2
      go_roundg g
      case measure => omega
      case rel => exact ⟨j + 1, _, m + 1, c, _, by omega, by simp, rfl, HS5.out⟩)
end Go.Proofs.YtbanmggkfpnalaaGreatDoor
