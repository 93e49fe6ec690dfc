/- gobolaw11.pattern: arms of its switch. -/
import Derived.Test.YtbanmggkfpnalaaGreatDoorSp
import Derived.Test.YtbanmggkfpnalaaGreatDoorGMkC
set_option linter.unusedVariables false
set_option linter.unusedSimpArgs false
namespace Go.Proofs.YtbanmggkfpnalaaGreatDoor
open Go.RowKit Ru PT

set_option maxHeartbeats 20000000 in
set_option maxRecDepth 100000 in
theorem pat_arm3 (T : List TK) (l : List Int) (cl : Nat) (oi : Option Addr) (ci : Nat) (oc : Option Addr) (cc : Nat) (or : Option Addr) (cr : Nat) (I C R : List ByteArray) (w : World) : (patCore (fun n v => v = 5) T l cl oi ci oc cc or cr I C R w).1 := by
  intro ip hp0 hp1 hp2 hp3 HE Q0 K0 A0 wr _ _ _ _ _ _ _ _ _ _ _ _ _ _ _ _ _ _ _ _ _ _ _ _ _ _ _ _ _ _ _ _ _ _ _ _ _ _ _ _ _ _ _ _ _ _ _ _ _ _ _ _ _ _ _ _ _ _ _ _ _ _ _ _ _ _ _ _ _ _ _ _ _ _ _ _ _ _ _ _ _ _ _ _ _ _ _ _ _ _ _ _ _ _ _ _ _ _ _ _ _ _ _ _ _ _ _ _ _ _ _ _ _ _ _ _ _ _ _ _ _ _ _ _ _ _ _ _ _ _ _ _ _ _ _ _ _ _ _ _ _ _ _ _ _ _ _ _ _ _ _ _ _ _ _ _ _ _ _ _ _ _ _ _ _ _ _ _ _ _ _ _ _ _ _ _ _ _ _ _ _ J0 K1 j o n c ps hn8 k v hv ev1 ev2 HKE hd1 hd2 b off hk0 A1 hj8 hjl g A2 hjg K2 A3 K3 A4 nq wq HQ hcase
  rcases hcase with rfl
  rcases Nat.eq_zero_or_pos n with rfl | h0
  · have HROW := Lib.hid (show wq.ownsRow (w.heap.size + 1) 47 4 (.slice o 0 c) 0 (ps.flatMap four) from by have := HQ.out.own.row; rw [HQ.out.len] at this; exact this)
    have HLT := Lib.hid HQ.out.lt
    obtain ⟨x11, hx11⟩ : ∃ x, IntKind.i64.wrap (k.tdiv 11) = x := ⟨_, rfl⟩
    obtain ⟨x13, hx13⟩ : ∃ x, IntKind.i64.wrap (k.tdiv 13) = x := ⟨_, rfl⟩
    obtain ⟨op, np, cp, ns, hnl, hrow, hsub, hcall⟩ := pick_kp C _ x11 w HE.out.hC HE.out.lC.1 HE.out.lC.2
    obtain ⟨oq, nr, cq, es, hnl2, hrow2, hsub2, hcall2⟩ := pick_kp R _ x13 w HE.out.hR HE.out.lR.1 HE.out.lR.2
    subst hnl hnl2
    have HP := Lib.hid (And.intro hrow (And.intro hsub (And.intro hrow2 hsub2)))
    clear hrow hsub hrow2 hsub2
    go_upto_region 14 with (fail)
    obtain ⟨x17, hx17⟩ : ∃ x, IntKind.i64.wrap (k.tdiv 17) = x := ⟨_, rfl⟩
    rcases bits_one x17 with hz | hz
    · refine wp_region_noPanic ?_
      refine wp_region_held_drew (S := fun w' => True) (by kernel_rfl) trivial (fun _ => ?_)
      refine wpAnyH_take (i := 0) (v := ?_) rfl (by kernel_rfl) (by kernel_rfl) (by kernel_rfl) (fun _ _ _ h => h) (Or.inl ⟨by rfl, ?_⟩) trivial ?_
      rotate_left
      · intro w hSw; skip; go_simp; try with_reducible rfl
      try simp only [Act.put, sp]
      refine wpAnyH_take (i := 1) (v := ?_) rfl (by kernel_rfl) (by kernel_rfl) (by kernel_rfl) (fun _ _ _ h => h) (Or.inl ⟨by rfl, ?_⟩) trivial ?_
      rotate_left
      · intro w hSw; skip; go_simp; try with_reducible rfl
      try simp only [Act.put, sp]
      refine wpAnyH_take (i := 2) (v := ?_) rfl (by kernel_rfl) (by kernel_rfl) (by kernel_rfl) (fun _ _ _ h => h) (Or.inl ⟨by rfl, ?_⟩) trivial ?_
      rotate_left
      · intro w hSw; skip; go_simp; try with_reducible rfl
      try simp only [Act.put, sp]
      refine wpAnyH_take (i := 3) (v := ?_) rfl (by kernel_rfl) (by kernel_rfl) (by kernel_rfl) (fun _ _ _ h => h) (Or.inl ⟨by rfl, ?_⟩) trivial ?_
      rotate_left
      · intro w hSw; skip; go_simp; try with_reducible rfl
      try simp only [Act.put, sp]
      refine wpAnyH_takeC (i := 4) (v := .slice op ns.length cp) rfl (by kernel_rfl) (by kernel_rfl) (by kernel_rfl) (fun _ _ _ h => h) ⟨by rfl, fun w _ => ⟨_, _, by (first | rfl | (go_simp; try with_reducible rfl)), hcall w⟩⟩ trivial ?_
      try simp only [Act.put, sp]
      refine wpAnyH_take (i := 5) (v := ?_) rfl (by kernel_rfl) (by kernel_rfl) (by kernel_rfl) (fun _ _ _ h => h) (Or.inl ⟨by rfl, ?_⟩) trivial ?_
      rotate_left
      · intro w hSw; skip; go_simp; try with_reducible rfl
      try simp only [Act.put, sp]
      refine wpAnyH_take (i := 6) (v := ?_) rfl (by kernel_rfl) (by kernel_rfl) (by kernel_rfl) (fun _ _ _ h => h) (Or.inl ⟨by rfl, ?_⟩) trivial ?_
      rotate_left
      · intro w hSw; skip; go_simp; try with_reducible rfl
      try simp only [Act.put, sp]
      refine wpAnyH_take (i := 7) (v := ?_) rfl (by kernel_rfl) (by kernel_rfl) (by kernel_rfl) (fun _ _ _ h => h) (Or.inl ⟨by rfl, ?_⟩) trivial ?_
      rotate_left
      · intro w hSw; skip; go_simp; try with_reducible rfl
      try simp only [Act.put, sp]
      refine wpAnyH_takeC (i := 8) (v := .slice oq es.length cq) rfl (by kernel_rfl) (by kernel_rfl) (by kernel_rfl) (fun _ _ _ h => h) ⟨by rfl, fun w _ => ⟨_, _, by (first | rfl | (go_simp; try with_reducible rfl)), hcall2 w⟩⟩ trivial ?_
      try simp only [Act.put, sp]
      refine wpAnyH_take (i := 10) (v := ?_) rfl (by kernel_rfl) (by kernel_rfl) (by kernel_rfl) (fun _ _ _ h => h) (Or.inl ⟨by rfl, ?_⟩) trivial ?_
      rotate_left
      · intro w hSw; skip; go_simp; try with_reducible rfl
      try simp only [Act.put, sp]
      refine wpAnyH_take (i := 11) (v := ?_) rfl (by kernel_rfl) (by kernel_rfl) (by kernel_rfl) (fun _ _ _ h => h) (Or.inl ⟨by rfl, ?_⟩) trivial ?_
      rotate_left
      · intro w hSw; skip; go_simp; try with_reducible rfl
      try simp only [Act.put, sp]
      refine wpAnyH_take (i := 12) (v := ?_) rfl (by kernel_rfl) (by kernel_rfl) (by kernel_rfl) (fun _ _ _ h => h) (Or.inl ⟨by rfl, ?_⟩) trivial ?_
      rotate_left
      · intro w hSw; skip; go_simp; try with_reducible rfl
      try simp only [Act.put, sp]
      refine wpAnyH_ready (rs := [9]) (by kernel_rfl) (by simp) ?_
      refine AllReadyH.cons rfl (fun K hK => ?_) AllReadyH.nil
      go_simp
      refine hK.out _ _ trivial (fun _ => ?_)
      clear hK K
      try simp only [Act.put, sp]
      refine wpAnyH_take (i := 13) (v := ?_) rfl (by kernel_rfl) (by kernel_rfl) (by kernel_rfl) (fun _ _ _ h => h) (Or.inl ⟨by rfl, ?_⟩) trivial ?_
      rotate_left
      · intro w hSw; skip; go_simp; try with_reducible rfl
      try simp only [Act.put, sp]
      refine wpAnyH_ready (rs := [14]) (by kernel_rfl) (by simp) ?_
      refine AllReadyH.cons rfl (fun K hK => ?_) AllReadyH.nil
      go_simp
      refine hK.out _ _ trivial (fun _ => ?_)
      clear hK K
      try simp only [Act.put, sp]
      refine wpAnyH_take (i := 15) (v := ?_) rfl (by kernel_rfl) (by kernel_rfl) (by kernel_rfl) (fun _ _ _ h => h) (Or.inl ⟨by rfl, ?_⟩) trivial ?_
      rotate_left
      · intro w hSw; skip; go_simp; try with_reducible rfl
      try simp only [Act.put, sp]
      refine wpAnyH_ready (rs := [16]) (by kernel_rfl) (by simp) ?_
      refine AllReadyH.cons rfl (fun K hK => ?_) AllReadyH.nil
      go_simp
      refine hK.out _ _ trivial (fun _ => ?_)
      clear hK K
      try simp only [Act.put, sp]
      refine wpAnyH_take (i := 17) (v := ?_) rfl (by kernel_rfl) (by kernel_rfl) (by kernel_rfl) (fun _ _ _ h => h) (Or.inl ⟨by rfl, ?_⟩) trivial ?_
      rotate_left
      · intro w hSw; skip; go_simp; try with_reducible rfl
      try simp only [Act.put, sp]
      refine wpAnyH_ready (rs := [18]) (by kernel_rfl) (by simp) ?_
      refine AllReadyH.cons rfl (fun K hK => ?_) AllReadyH.nil
      go_simp
      refine hK.out _ _ trivial (fun _ => ?_)
      clear hK K
      try simp only [Act.put, sp]
      refine wpAnyH_ready (rs := [19]) (by kernel_rfl) (by simp) ?_
      refine AllReadyH.cons rfl (fun K hK => ?_) AllReadyH.nil
      refine step_append_far _ rfl _ _ 45 rfl (w.heap.size + 1) 47 ip _ 4 80 Tryz.underlying45 hp0 hp1 hp2 hp3 rfl (by decide) (.slice o 0 c) 0 (ps.flatMap four) rfl (by repeat (first | exact HROW.out | refine World.ownsRow.alloc ?_ _ | refine owns_drew ?_)) _ 1 _ rfl (by first | exact row_new rfl (by simp) | exact row_drew (row_new rfl (by simp))) rfl (by simp [Value.oneCell']) (by unfold maxLen; omega) (by omega) (by have := HLT.out; simp; omega) ?_; intro v9 w9 hown9 hg9 hf9 hb9; obtain ⟨o9, c9, rfl⟩ := owns_slice hown9
      refine hK.out _ _ trivial (fun _ => ?_)
      clear hK K
      try simp only [Act.put, sp]
      refine wpAnyH_take (i := 20) (v := ?_) rfl (by kernel_rfl) (by kernel_rfl) (by kernel_rfl) (fun _ _ _ h => h) (Or.inl ⟨by rfl, ?_⟩) trivial ?_
      rotate_left
      · intro w hSw; skip; go_simp; try with_reducible rfl
      try simp only [Act.put, sp]
      refine wpAnyH_done (by kernel_rfl) ?_ _
      refine NoPanic.normal ?_
      (
        obtain ⟨ps5, hS5⟩ := HQ.out.push (p := .mk 3 ns es [.mk 1 [] [] []]) (by repeat (first | exact Below.refl _ _ | refine Below.drew ?_ | refine bel_new ?_ _)) hown9 rfl hg9 hf9
          (kp_and (kp_arg HQ.out (by repeat (first | exact Below.refl _ _ | refine Below.drew ?_ | refine bel_new ?_ _)) (kp_and HP.out.1 HP.out.2.2.1 (fun w' h1 h2 => And.intro h1 h2))) (KP.block (b := wq.heap.size + 1) (bel_get (w := (wq.alloc _).alloc _) (by repeat (first | exact Below.refl _ _ | refine Below.drew ?_ | refine bel_new ?_ _)) (al_two wq _ _)) ⟨⟨.inl (by have := HQ.out.lt; omega), by have := HQ.out.lt; omega⟩, fun e => by have := (HQ.out.own.row.lt _ e).2; omega⟩) (fun w' h1 h2 => pt_one h1.1 h1.2 (pt_kind 1 w') h2))
          (gp_in (HE.out.nC _ HP.out.2.1.1) (HE.out.nR _ HP.out.2.2.2.1) (gp_flat (.inl rfl))) (by rw [deep_mk, deeps_cons, deeps_nil, deep_mk, deeps_nil]; omega) (by rw [size_mk, sizes_cons, sizes_nil, size_mk, sizes_nil]; omega)
          (HQ.out.inn hjl HKE.out ev1 hx11 hx13 hx17 HP.out.2.1.2 HP.out.2.2.2.2 (by rw [hz]; rfl))
        have HS5 := Lib.hid hS5
        clear hS5 hown9 hg9 hf9 hb9
        go_wp2
        go_roundg g
        case measure => omega
        case rel => exact ⟨j + 1, o9, 0 + 1, c9, ps5, by omega, by simp, rfl, HS5.out⟩)
    · refine wp_region_noPanic ?_
      refine wp_region_held_drew (S := fun w' => True) (by kernel_rfl) trivial (fun _ => ?_)
      refine wpAnyH_take (i := 0) (v := ?_) rfl (by kernel_rfl) (by kernel_rfl) (by kernel_rfl) (fun _ _ _ h => h) (Or.inl ⟨by rfl, ?_⟩) trivial ?_
      rotate_left
      · intro w hSw; skip; go_simp; try with_reducible rfl
      try simp only [Act.put, sp]
      refine wpAnyH_take (i := 1) (v := ?_) rfl (by kernel_rfl) (by kernel_rfl) (by kernel_rfl) (fun _ _ _ h => h) (Or.inl ⟨by rfl, ?_⟩) trivial ?_
      rotate_left
      · intro w hSw; skip; go_simp; try with_reducible rfl
      try simp only [Act.put, sp]
      refine wpAnyH_take (i := 2) (v := ?_) rfl (by kernel_rfl) (by kernel_rfl) (by kernel_rfl) (fun _ _ _ h => h) (Or.inl ⟨by rfl, ?_⟩) trivial ?_
      rotate_left
      · intro w hSw; skip; go_simp; try with_reducible rfl
      try simp only [Act.put, sp]
      refine wpAnyH_take (i := 3) (v := ?_) rfl (by kernel_rfl) (by kernel_rfl) (by kernel_rfl) (fun _ _ _ h => h) (Or.inl ⟨by rfl, ?_⟩) trivial ?_
      rotate_left
      · intro w hSw; skip; go_simp; try with_reducible rfl
      try simp only [Act.put, sp]
      refine wpAnyH_takeC (i := 4) (v := .slice op ns.length cp) rfl (by kernel_rfl) (by kernel_rfl) (by kernel_rfl) (fun _ _ _ h => h) ⟨by rfl, fun w _ => ⟨_, _, by (first | rfl | (go_simp; try with_reducible rfl)), hcall w⟩⟩ trivial ?_
      try simp only [Act.put, sp]
      refine wpAnyH_take (i := 5) (v := ?_) rfl (by kernel_rfl) (by kernel_rfl) (by kernel_rfl) (fun _ _ _ h => h) (Or.inl ⟨by rfl, ?_⟩) trivial ?_
      rotate_left
      · intro w hSw; skip; go_simp; try with_reducible rfl
      try simp only [Act.put, sp]
      refine wpAnyH_take (i := 6) (v := ?_) rfl (by kernel_rfl) (by kernel_rfl) (by kernel_rfl) (fun _ _ _ h => h) (Or.inl ⟨by rfl, ?_⟩) trivial ?_
      rotate_left
      · intro w hSw; skip; go_simp; try with_reducible rfl
      try simp only [Act.put, sp]
      refine wpAnyH_take (i := 7) (v := ?_) rfl (by kernel_rfl) (by kernel_rfl) (by kernel_rfl) (fun _ _ _ h => h) (Or.inl ⟨by rfl, ?_⟩) trivial ?_
      rotate_left
      · intro w hSw; skip; go_simp; try with_reducible rfl
      try simp only [Act.put, sp]
      refine wpAnyH_takeC (i := 8) (v := .slice oq es.length cq) rfl (by kernel_rfl) (by kernel_rfl) (by kernel_rfl) (fun _ _ _ h => h) ⟨by rfl, fun w _ => ⟨_, _, by (first | rfl | (go_simp; try with_reducible rfl)), hcall2 w⟩⟩ trivial ?_
      try simp only [Act.put, sp]
      refine wpAnyH_take (i := 10) (v := ?_) rfl (by kernel_rfl) (by kernel_rfl) (by kernel_rfl) (fun _ _ _ h => h) (Or.inl ⟨by rfl, ?_⟩) trivial ?_
      rotate_left
      · intro w hSw; skip; go_simp; try with_reducible rfl
      try simp only [Act.put, sp]
      refine wpAnyH_take (i := 11) (v := ?_) rfl (by kernel_rfl) (by kernel_rfl) (by kernel_rfl) (fun _ _ _ h => h) (Or.inl ⟨by rfl, ?_⟩) trivial ?_
      rotate_left
      · intro w hSw; skip; go_simp; try with_reducible rfl
      try simp only [Act.put, sp]
      refine wpAnyH_take (i := 12) (v := ?_) rfl (by kernel_rfl) (by kernel_rfl) (by kernel_rfl) (fun _ _ _ h => h) (Or.inl ⟨by rfl, ?_⟩) trivial ?_
      rotate_left
      · intro w hSw; skip; go_simp; try with_reducible rfl
      try simp only [Act.put, sp]
      refine wpAnyH_ready (rs := [9]) (by kernel_rfl) (by simp) ?_
      refine AllReadyH.cons rfl (fun K hK => ?_) AllReadyH.nil
      go_simp
      refine hK.out _ _ trivial (fun _ => ?_)
      clear hK K
      try simp only [Act.put, sp]
      refine wpAnyH_take (i := 13) (v := ?_) rfl (by kernel_rfl) (by kernel_rfl) (by kernel_rfl) (fun _ _ _ h => h) (Or.inl ⟨by rfl, ?_⟩) trivial ?_
      rotate_left
      · intro w hSw; skip; go_simp; try with_reducible rfl
      try simp only [Act.put, sp]
      refine wpAnyH_ready (rs := [14]) (by kernel_rfl) (by simp) ?_
      refine AllReadyH.cons rfl (fun K hK => ?_) AllReadyH.nil
      go_simp
      refine hK.out _ _ trivial (fun _ => ?_)
      clear hK K
      try simp only [Act.put, sp]
      refine wpAnyH_take (i := 15) (v := ?_) rfl (by kernel_rfl) (by kernel_rfl) (by kernel_rfl) (fun _ _ _ h => h) (Or.inl ⟨by rfl, ?_⟩) trivial ?_
      rotate_left
      · intro w hSw; skip; go_simp; try with_reducible rfl
      try simp only [Act.put, sp]
      refine wpAnyH_ready (rs := [16]) (by kernel_rfl) (by simp) ?_
      refine AllReadyH.cons rfl (fun K hK => ?_) AllReadyH.nil
      go_simp
      refine hK.out _ _ trivial (fun _ => ?_)
      clear hK K
      try simp only [Act.put, sp]
      refine wpAnyH_take (i := 17) (v := ?_) rfl (by kernel_rfl) (by kernel_rfl) (by kernel_rfl) (fun _ _ _ h => h) (Or.inl ⟨by rfl, ?_⟩) trivial ?_
      rotate_left
      · intro w hSw; skip; go_simp; try with_reducible rfl
      try simp only [Act.put, sp]
      refine wpAnyH_ready (rs := [18]) (by kernel_rfl) (by simp) ?_
      refine AllReadyH.cons rfl (fun K hK => ?_) AllReadyH.nil
      go_simp
      refine hK.out _ _ trivial (fun _ => ?_)
      clear hK K
      try simp only [Act.put, sp]
      refine wpAnyH_ready (rs := [19]) (by kernel_rfl) (by simp) ?_
      refine AllReadyH.cons rfl (fun K hK => ?_) AllReadyH.nil
      refine step_append_far _ rfl _ _ 45 rfl (w.heap.size + 1) 47 ip _ 4 80 Tryz.underlying45 hp0 hp1 hp2 hp3 rfl (by decide) (.slice o 0 c) 0 (ps.flatMap four) rfl (by repeat (first | exact HROW.out | refine World.ownsRow.alloc ?_ _ | refine owns_drew ?_)) _ 1 _ rfl (by first | exact row_new rfl (by simp) | exact row_drew (row_new rfl (by simp))) rfl (by simp [Value.oneCell']) (by unfold maxLen; omega) (by omega) (by have := HLT.out; simp; omega) ?_; intro v9 w9 hown9 hg9 hf9 hb9; obtain ⟨o9, c9, rfl⟩ := owns_slice hown9
      refine hK.out _ _ trivial (fun _ => ?_)
      clear hK K
      try simp only [Act.put, sp]
      refine wpAnyH_take (i := 20) (v := ?_) rfl (by kernel_rfl) (by kernel_rfl) (by kernel_rfl) (fun _ _ _ h => h) (Or.inl ⟨by rfl, ?_⟩) trivial ?_
      rotate_left
      · intro w hSw; skip; go_simp; try with_reducible rfl
      try simp only [Act.put, sp]
      refine wpAnyH_done (by kernel_rfl) ?_ _
      refine NoPanic.normal ?_
      (
        obtain ⟨ps5, hS5⟩ := HQ.out.push (p := .mk 3 ns es [.mk 4 [] [] []]) (by repeat (first | exact Below.refl _ _ | refine Below.drew ?_ | refine bel_new ?_ _)) hown9 rfl hg9 hf9
          (kp_and (kp_arg HQ.out (by repeat (first | exact Below.refl _ _ | refine Below.drew ?_ | refine bel_new ?_ _)) (kp_and HP.out.1 HP.out.2.2.1 (fun w' h1 h2 => And.intro h1 h2))) (KP.block (b := wq.heap.size + 1) (bel_get (w := (wq.alloc _).alloc _) (by repeat (first | exact Below.refl _ _ | refine Below.drew ?_ | refine bel_new ?_ _)) (al_two wq _ _)) ⟨⟨.inl (by have := HQ.out.lt; omega), by have := HQ.out.lt; omega⟩, fun e => by have := (HQ.out.own.row.lt _ e).2; omega⟩) (fun w' h1 h2 => pt_one h1.1 h1.2 (pt_kind 4 w') h2))
          (gp_in (HE.out.nC _ HP.out.2.1.1) (HE.out.nR _ HP.out.2.2.2.1) (gp_flat (.inr rfl))) (by rw [deep_mk, deeps_cons, deeps_nil, deep_mk, deeps_nil]; omega) (by rw [size_mk, sizes_cons, sizes_nil, size_mk, sizes_nil]; omega)
          (HQ.out.inn hjl HKE.out ev1 hx11 hx13 hx17 HP.out.2.1.2 HP.out.2.2.2.2 (by rw [hz]; rfl))
        have HS5 := Lib.hid hS5
        clear hS5 hown9 hg9 hf9 hb9
        go_wp2
        go_roundg g
        case measure => omega
        case rel => exact ⟨j + 1, o9, 0 + 1, c9, ps5, by omega, by simp, rfl, HS5.out⟩)
  · have e0 : ((n : Int) == 0) = false := by simp; omega
    have HROW := Lib.hid (show wq.ownsRow (w.heap.size + 1) 47 4 (.slice o n c) n (ps.flatMap four) from by have := HQ.out.own.row; rw [HQ.out.len] at this; exact this)
    have HLT := Lib.hid HQ.out.lt
    obtain ⟨x11, hx11⟩ : ∃ x, IntKind.i64.wrap (k.tdiv 11) = x := ⟨_, rfl⟩
    obtain ⟨x13, hx13⟩ : ∃ x, IntKind.i64.wrap (k.tdiv 13) = x := ⟨_, rfl⟩
    obtain ⟨op, np, cp, ns, hnl, hrow, hsub, hcall⟩ := pick_kp C _ x11 w HE.out.hC HE.out.lC.1 HE.out.lC.2
    obtain ⟨oq, nr, cq, es, hnl2, hrow2, hsub2, hcall2⟩ := pick_kp R _ x13 w HE.out.hR HE.out.lR.1 HE.out.lR.2
    subst hnl hnl2
    have HP := Lib.hid (And.intro hrow (And.intro hsub (And.intro hrow2 hsub2)))
    clear hrow hsub hrow2 hsub2
    go_upto_region 14 with (fail)
    obtain ⟨x17, hx17⟩ : ∃ x, IntKind.i64.wrap (k.tdiv 17) = x := ⟨_, rfl⟩
    rcases bits_one x17 with hz | hz
    · refine wp_region_noPanic ?_
      refine wp_region_held_drew (S := fun w' => True) (by kernel_rfl) trivial (fun _ => ?_)
      refine wpAnyH_take (i := 0) (v := ?_) rfl (by kernel_rfl) (by kernel_rfl) (by kernel_rfl) (fun _ _ _ h => h) (Or.inl ⟨by rfl, ?_⟩) trivial ?_
      rotate_left
      · intro w hSw; skip; go_simp; try with_reducible rfl
      try simp only [Act.put, sp]
      refine wpAnyH_take (i := 1) (v := ?_) rfl (by kernel_rfl) (by kernel_rfl) (by kernel_rfl) (fun _ _ _ h => h) (Or.inl ⟨by rfl, ?_⟩) trivial ?_
      rotate_left
      · intro w hSw; skip; go_simp; try with_reducible rfl
      try simp only [Act.put, sp]
      refine wpAnyH_take (i := 2) (v := ?_) rfl (by kernel_rfl) (by kernel_rfl) (by kernel_rfl) (fun _ _ _ h => h) (Or.inl ⟨by rfl, ?_⟩) trivial ?_
      rotate_left
      · intro w hSw; skip; go_simp; try with_reducible rfl
      try simp only [Act.put, sp]
      refine wpAnyH_take (i := 3) (v := ?_) rfl (by kernel_rfl) (by kernel_rfl) (by kernel_rfl) (fun _ _ _ h => h) (Or.inl ⟨by rfl, ?_⟩) trivial ?_
      rotate_left
      · intro w hSw; skip; go_simp; try with_reducible rfl
      try simp only [Act.put, sp]
      refine wpAnyH_takeC (i := 4) (v := .slice op ns.length cp) rfl (by kernel_rfl) (by kernel_rfl) (by kernel_rfl) (fun _ _ _ h => h) ⟨by rfl, fun w _ => ⟨_, _, by (first | rfl | (go_simp; try with_reducible rfl)), hcall w⟩⟩ trivial ?_
      try simp only [Act.put, sp]
      refine wpAnyH_take (i := 5) (v := ?_) rfl (by kernel_rfl) (by kernel_rfl) (by kernel_rfl) (fun _ _ _ h => h) (Or.inl ⟨by rfl, ?_⟩) trivial ?_
      rotate_left
      · intro w hSw; skip; go_simp; try with_reducible rfl
      try simp only [Act.put, sp]
      refine wpAnyH_take (i := 6) (v := ?_) rfl (by kernel_rfl) (by kernel_rfl) (by kernel_rfl) (fun _ _ _ h => h) (Or.inl ⟨by rfl, ?_⟩) trivial ?_
      rotate_left
      · intro w hSw; skip; go_simp; try with_reducible rfl
      try simp only [Act.put, sp]
      refine wpAnyH_take (i := 7) (v := ?_) rfl (by kernel_rfl) (by kernel_rfl) (by kernel_rfl) (fun _ _ _ h => h) (Or.inl ⟨by rfl, ?_⟩) trivial ?_
      rotate_left
      · intro w hSw; skip; go_simp; try with_reducible rfl
      try simp only [Act.put, sp]
      refine wpAnyH_takeC (i := 8) (v := .slice oq es.length cq) rfl (by kernel_rfl) (by kernel_rfl) (by kernel_rfl) (fun _ _ _ h => h) ⟨by rfl, fun w _ => ⟨_, _, by (first | rfl | (go_simp; try with_reducible rfl)), hcall2 w⟩⟩ trivial ?_
      try simp only [Act.put, sp]
      refine wpAnyH_take (i := 10) (v := ?_) rfl (by kernel_rfl) (by kernel_rfl) (by kernel_rfl) (fun _ _ _ h => h) (Or.inl ⟨by rfl, ?_⟩) trivial ?_
      rotate_left
      · intro w hSw; skip; go_simp; try with_reducible rfl
      try simp only [Act.put, sp]
      refine wpAnyH_take (i := 11) (v := ?_) rfl (by kernel_rfl) (by kernel_rfl) (by kernel_rfl) (fun _ _ _ h => h) (Or.inl ⟨by rfl, ?_⟩) trivial ?_
      rotate_left
      · intro w hSw; skip; go_simp; try with_reducible rfl
      try simp only [Act.put, sp]
      refine wpAnyH_take (i := 12) (v := ?_) rfl (by kernel_rfl) (by kernel_rfl) (by kernel_rfl) (fun _ _ _ h => h) (Or.inl ⟨by rfl, ?_⟩) trivial ?_
      rotate_left
      · intro w hSw; skip; go_simp; try with_reducible rfl
      try simp only [Act.put, sp]
      refine wpAnyH_ready (rs := [9]) (by kernel_rfl) (by simp) ?_
      refine AllReadyH.cons rfl (fun K hK => ?_) AllReadyH.nil
      go_simp
      refine hK.out _ _ trivial (fun _ => ?_)
      clear hK K
      try simp only [Act.put, sp]
      refine wpAnyH_take (i := 13) (v := ?_) rfl (by kernel_rfl) (by kernel_rfl) (by kernel_rfl) (fun _ _ _ h => h) (Or.inl ⟨by rfl, ?_⟩) trivial ?_
      rotate_left
      · intro w hSw; skip; go_simp; try with_reducible rfl
      try simp only [Act.put, sp]
      refine wpAnyH_ready (rs := [14]) (by kernel_rfl) (by simp) ?_
      refine AllReadyH.cons rfl (fun K hK => ?_) AllReadyH.nil
      go_simp
      refine hK.out _ _ trivial (fun _ => ?_)
      clear hK K
      try simp only [Act.put, sp]
      refine wpAnyH_take (i := 15) (v := ?_) rfl (by kernel_rfl) (by kernel_rfl) (by kernel_rfl) (fun _ _ _ h => h) (Or.inl ⟨by rfl, ?_⟩) trivial ?_
      rotate_left
      · intro w hSw; skip; go_simp; try with_reducible rfl
      try simp only [Act.put, sp]
      refine wpAnyH_ready (rs := [16]) (by kernel_rfl) (by simp) ?_
      refine AllReadyH.cons rfl (fun K hK => ?_) AllReadyH.nil
      go_simp
      refine hK.out _ _ trivial (fun _ => ?_)
      clear hK K
      try simp only [Act.put, sp]
      refine wpAnyH_take (i := 17) (v := ?_) rfl (by kernel_rfl) (by kernel_rfl) (by kernel_rfl) (fun _ _ _ h => h) (Or.inl ⟨by rfl, ?_⟩) trivial ?_
      rotate_left
      · intro w hSw; skip; go_simp; try with_reducible rfl
      try simp only [Act.put, sp]
      refine wpAnyH_ready (rs := [18]) (by kernel_rfl) (by simp) ?_
      refine AllReadyH.cons rfl (fun K hK => ?_) AllReadyH.nil
      go_simp
      refine hK.out _ _ trivial (fun _ => ?_)
      clear hK K
      try simp only [Act.put, sp]
      refine wpAnyH_ready (rs := [19]) (by kernel_rfl) (by simp) ?_
      refine AllReadyH.cons rfl (fun K hK => ?_) AllReadyH.nil
      refine step_append_far _ rfl _ _ 45 rfl (w.heap.size + 1) 47 ip _ 4 80 Tryz.underlying45 hp0 hp1 hp2 hp3 rfl (by decide) (.slice o n c) n (ps.flatMap four) rfl (by repeat (first | exact HROW.out | refine World.ownsRow.alloc ?_ _ | refine owns_drew ?_)) _ 1 _ rfl (by first | exact row_new rfl (by simp) | exact row_drew (row_new rfl (by simp))) rfl (by simp [Value.oneCell']) (by unfold maxLen; omega) (by omega) (by have := HLT.out; simp; omega) ?_; intro v9 w9 hown9 hg9 hf9 hb9; obtain ⟨o9, c9, rfl⟩ := owns_slice hown9
      refine hK.out _ _ trivial (fun _ => ?_)
      clear hK K
      try simp only [Act.put, sp]
      refine wpAnyH_take (i := 20) (v := ?_) rfl (by kernel_rfl) (by kernel_rfl) (by kernel_rfl) (fun _ _ _ h => h) (Or.inl ⟨by rfl, ?_⟩) trivial ?_
      rotate_left
      · intro w hSw; skip; go_simp; try with_reducible rfl
      try simp only [Act.put, sp]
      refine wpAnyH_done (by kernel_rfl) ?_ _
      refine NoPanic.normal ?_
      (
        obtain ⟨ps5, hS5⟩ := HQ.out.push (p := .mk 3 ns es [.mk 1 [] [] []]) (by repeat (first | exact Below.refl _ _ | refine Below.drew ?_ | refine bel_new ?_ _)) hown9 rfl hg9 hf9
          (kp_and (kp_arg HQ.out (by repeat (first | exact Below.refl _ _ | refine Below.drew ?_ | refine bel_new ?_ _)) (kp_and HP.out.1 HP.out.2.2.1 (fun w' h1 h2 => And.intro h1 h2))) (KP.block (b := wq.heap.size + 1) (bel_get (w := (wq.alloc _).alloc _) (by repeat (first | exact Below.refl _ _ | refine Below.drew ?_ | refine bel_new ?_ _)) (al_two wq _ _)) ⟨⟨.inl (by have := HQ.out.lt; omega), by have := HQ.out.lt; omega⟩, fun e => by have := (HQ.out.own.row.lt _ e).2; omega⟩) (fun w' h1 h2 => pt_one h1.1 h1.2 (pt_kind 1 w') h2))
          (gp_in (HE.out.nC _ HP.out.2.1.1) (HE.out.nR _ HP.out.2.2.2.1) (gp_flat (.inl rfl))) (by rw [deep_mk, deeps_cons, deeps_nil, deep_mk, deeps_nil]; omega) (by rw [size_mk, sizes_cons, sizes_nil, size_mk, sizes_nil]; omega)
          (HQ.out.inn hjl HKE.out ev1 hx11 hx13 hx17 HP.out.2.1.2 HP.out.2.2.2.2 (by rw [hz]; rfl))
        have HS5 := Lib.hid hS5
        clear hS5 hown9 hg9 hf9 hb9
        go_wp2
        go_roundg g
        case measure => omega
        case rel => exact ⟨j + 1, o9, n + 1, c9, ps5, by omega, by simp, rfl, HS5.out⟩)
    · refine wp_region_noPanic ?_
      refine wp_region_held_drew (S := fun w' => True) (by kernel_rfl) trivial (fun _ => ?_)
      refine wpAnyH_take (i := 0) (v := ?_) rfl (by kernel_rfl) (by kernel_rfl) (by kernel_rfl) (fun _ _ _ h => h) (Or.inl ⟨by rfl, ?_⟩) trivial ?_
      rotate_left
      · intro w hSw; skip; go_simp; try with_reducible rfl
      try simp only [Act.put, sp]
      refine wpAnyH_take (i := 1) (v := ?_) rfl (by kernel_rfl) (by kernel_rfl) (by kernel_rfl) (fun _ _ _ h => h) (Or.inl ⟨by rfl, ?_⟩) trivial ?_
      rotate_left
      · intro w hSw; skip; go_simp; try with_reducible rfl
      try simp only [Act.put, sp]
      refine wpAnyH_take (i := 2) (v := ?_) rfl (by kernel_rfl) (by kernel_rfl) (by kernel_rfl) (fun _ _ _ h => h) (Or.inl ⟨by rfl, ?_⟩) trivial ?_
      rotate_left
      · intro w hSw; skip; go_simp; try with_reducible rfl
      try simp only [Act.put, sp]
      refine wpAnyH_take (i := 3) (v := ?_) rfl (by kernel_rfl) (by kernel_rfl) (by kernel_rfl) (fun _ _ _ h => h) (Or.inl ⟨by rfl, ?_⟩) trivial ?_
      rotate_left
      · intro w hSw; skip; go_simp; try with_reducible rfl
      try simp only [Act.put, sp]
      refine wpAnyH_takeC (i := 4) (v := .slice op ns.length cp) rfl (by kernel_rfl) (by kernel_rfl) (by kernel_rfl) (fun _ _ _ h => h) ⟨by rfl, fun w _ => ⟨_, _, by (first | rfl | (go_simp; try with_reducible rfl)), hcall w⟩⟩ trivial ?_
      try simp only [Act.put, sp]
      refine wpAnyH_take (i := 5) (v := ?_) rfl (by kernel_rfl) (by kernel_rfl) (by kernel_rfl) (fun _ _ _ h => h) (Or.inl ⟨by rfl, ?_⟩) trivial ?_
      rotate_left
      · intro w hSw; skip; go_simp; try with_reducible rfl
      try simp only [Act.put, sp]
      refine wpAnyH_take (i := 6) (v := ?_) rfl (by kernel_rfl) (by kernel_rfl) (by kernel_rfl) (fun _ _ _ h => h) (Or.inl ⟨by rfl, ?_⟩) trivial ?_
      rotate_left
      · intro w hSw; skip; go_simp; try with_reducible rfl
      try simp only [Act.put, sp]
      refine wpAnyH_take (i := 7) (v := ?_) rfl (by kernel_rfl) (by kernel_rfl) (by kernel_rfl) (fun _ _ _ h => h) (Or.inl ⟨by rfl, ?_⟩) trivial ?_
      rotate_left
      · intro w hSw; skip; go_simp; try with_reducible rfl
      try simp only [Act.put, sp]
      refine wpAnyH_takeC (i := 8) (v := .slice oq es.length cq) rfl (by kernel_rfl) (by kernel_rfl) (by kernel_rfl) (fun _ _ _ h => h) ⟨by rfl, fun w _ => ⟨_, _, by (first | rfl | (go_simp; try with_reducible rfl)), hcall2 w⟩⟩ trivial ?_
      try simp only [Act.put, sp]
      refine wpAnyH_take (i := 10) (v := ?_) rfl (by kernel_rfl) (by kernel_rfl) (by kernel_rfl) (fun _ _ _ h => h) (Or.inl ⟨by rfl, ?_⟩) trivial ?_
      rotate_left
      · intro w hSw; skip; go_simp; try with_reducible rfl
      try simp only [Act.put, sp]
      refine wpAnyH_take (i := 11) (v := ?_) rfl (by kernel_rfl) (by kernel_rfl) (by kernel_rfl) (fun _ _ _ h => h) (Or.inl ⟨by rfl, ?_⟩) trivial ?_
      rotate_left
      · intro w hSw; skip; go_simp; try with_reducible rfl
      try simp only [Act.put, sp]
      refine wpAnyH_take (i := 12) (v := ?_) rfl (by kernel_rfl) (by kernel_rfl) (by kernel_rfl) (fun _ _ _ h => h) (Or.inl ⟨by rfl, ?_⟩) trivial ?_
      rotate_left
      · intro w hSw; skip; go_simp; try with_reducible rfl
      try simp only [Act.put, sp]
      refine wpAnyH_ready (rs := [9]) (by kernel_rfl) (by simp) ?_
      refine AllReadyH.cons rfl (fun K hK => ?_) AllReadyH.nil
      go_simp
      refine hK.out _ _ trivial (fun _ => ?_)
      clear hK K
      try simp only [Act.put, sp]
      refine wpAnyH_take (i := 13) (v := ?_) rfl (by kernel_rfl) (by kernel_rfl) (by kernel_rfl) (fun _ _ _ h => h) (Or.inl ⟨by rfl, ?_⟩) trivial ?_
      rotate_left
      · intro w hSw; skip; go_simp; try with_reducible rfl
      try simp only [Act.put, sp]
      refine wpAnyH_ready (rs := [14]) (by kernel_rfl) (by simp) ?_
      refine AllReadyH.cons rfl (fun K hK => ?_) AllReadyH.nil
      go_simp
      refine hK.out _ _ trivial (fun _ => ?_)
      clear hK K
      try simp only [Act.put, sp]
      refine wpAnyH_take (i := 15) (v := ?_) rfl (by kernel_rfl) (by kernel_rfl) (by kernel_rfl) (fun _ _ _ h => h) (Or.inl ⟨by rfl, ?_⟩) trivial ?_
      rotate_left
      · intro w hSw; skip; go_simp; try with_reducible rfl
      try simp only [Act.put, sp]
      refine wpAnyH_ready (rs := [16]) (by kernel_rfl) (by simp) ?_
      refine AllReadyH.cons rfl (fun K hK => ?_) AllReadyH.nil
      go_simp
      refine hK.out _ _ trivial (fun _ => ?_)
      clear hK K
      try simp only [Act.put, sp]
      refine wpAnyH_take (i := 17) (v := ?_) rfl (by kernel_rfl) (by kernel_rfl) (by kernel_rfl) (fun _ _ _ h => h) (Or.inl ⟨by rfl, ?_⟩) trivial ?_
      rotate_left
      · intro w hSw; skip; go_simp; try with_reducible rfl
      try simp only [Act.put, sp]
      refine wpAnyH_ready (rs := [18]) (by kernel_rfl) (by simp) ?_
      refine AllReadyH.cons rfl (fun K hK => ?_) AllReadyH.nil
      go_simp
      refine hK.out _ _ trivial (fun _ => ?_)
      clear hK K
      try simp only [Act.put, sp]
      refine wpAnyH_ready (rs := [19]) (by kernel_rfl) (by simp) ?_
      refine AllReadyH.cons rfl (fun K hK => ?_) AllReadyH.nil
      refine step_append_far _ rfl _ _ 45 rfl (w.heap.size + 1) 47 ip _ 4 80 Tryz.underlying45 hp0 hp1 hp2 hp3 rfl (by decide) (.slice o n c) n (ps.flatMap four) rfl (by repeat (first | exact HROW.out | refine World.ownsRow.alloc ?_ _ | refine owns_drew ?_)) _ 1 _ rfl (by first | exact row_new rfl (by simp) | exact row_drew (row_new rfl (by simp))) rfl (by simp [Value.oneCell']) (by unfold maxLen; omega) (by omega) (by have := HLT.out; simp; omega) ?_; intro v9 w9 hown9 hg9 hf9 hb9; obtain ⟨o9, c9, rfl⟩ := owns_slice hown9
      refine hK.out _ _ trivial (fun _ => ?_)
      clear hK K
      try simp only [Act.put, sp]
      refine wpAnyH_take (i := 20) (v := ?_) rfl (by kernel_rfl) (by kernel_rfl) (by kernel_rfl) (fun _ _ _ h => h) (Or.inl ⟨by rfl, ?_⟩) trivial ?_
      rotate_left
      · intro w hSw; skip; go_simp; try with_reducible rfl
      try simp only [Act.put, sp]
      refine wpAnyH_done (by kernel_rfl) ?_ _
      refine NoPanic.normal ?_
      (
        obtain ⟨ps5, hS5⟩ := HQ.out.push (p := .mk 3 ns es [.mk 4 [] [] []]) (by repeat (first | exact Below.refl _ _ | refine Below.drew ?_ | refine bel_new ?_ _)) hown9 rfl hg9 hf9
          (kp_and (kp_arg HQ.out (by repeat (first | exact Below.refl _ _ | refine Below.drew ?_ | refine bel_new ?_ _)) (kp_and HP.out.1 HP.out.2.2.1 (fun w' h1 h2 => And.intro h1 h2))) (KP.block (b := wq.heap.size + 1) (bel_get (w := (wq.alloc _).alloc _) (by repeat (first | exact Below.refl _ _ | refine Below.drew ?_ | refine bel_new ?_ _)) (al_two wq _ _)) ⟨⟨.inl (by have := HQ.out.lt; omega), by have := HQ.out.lt; omega⟩, fun e => by have := (HQ.out.own.row.lt _ e).2; omega⟩) (fun w' h1 h2 => pt_one h1.1 h1.2 (pt_kind 4 w') h2))
          (gp_in (HE.out.nC _ HP.out.2.1.1) (HE.out.nR _ HP.out.2.2.2.1) (gp_flat (.inr rfl))) (by rw [deep_mk, deeps_cons, deeps_nil, deep_mk, deeps_nil]; omega) (by rw [size_mk, sizes_cons, sizes_nil, size_mk, sizes_nil]; omega)
          (HQ.out.inn hjl HKE.out ev1 hx11 hx13 hx17 HP.out.2.1.2 HP.out.2.2.2.2 (by rw [hz]; rfl))
        have HS5 := Lib.hid hS5
        clear hS5 hown9 hg9 hf9 hb9
        go_wp2
        go_roundg g
        case measure => omega
        case rel => exact ⟨j + 1, o9, n + 1, c9, ps5, by omega, by simp, rfl, HS5.out⟩)
end Go.Proofs.YtbanmggkfpnalaaGreatDoor
