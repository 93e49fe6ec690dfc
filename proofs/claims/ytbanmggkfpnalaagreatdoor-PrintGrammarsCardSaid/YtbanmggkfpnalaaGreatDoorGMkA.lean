/- gobolaw11.pattern: arms of its switch. -/
import Derived.Test.YtbanmggkfpnalaaGreatDoorGMkC
set_option linter.unusedVariables false
set_option linter.unusedSimpArgs false
namespace Go.Proofs.YtbanmggkfpnalaaGreatDoor
open Go.RowKit Ru PT

set_option maxHeartbeats 20000000 in
set_option maxRecDepth 100000 in
theorem pat_arm0 (T : List TK) (l : List Int) (cl : Nat) (oi : Option Addr) (ci : Nat) (oc : Option Addr) (cc : Nat) (or : Option Addr) (cr : Nat) (I C R : List ByteArray) (w : World) : (patCore (fun n v => v < 3) T l cl oi ci oc cc or cr I C R w).1 := by
  intro ip hp0 hp1 hp2 hp3 HE Q0 K0 A0 wr _ _ _ _ _ _ _ _ _ _ _ _ _ _ _ _ _ _ _ _ _ _ _ _ _ _ _ _ _ _ _ _ _ _ _ _ _ _ _ _ _ _ _ _ _ _ _ _ _ _ _ _ _ _ _ _ _ _ _ _ _ _ _ _ _ _ _ _ _ _ _ _ _ _ _ _ _ _ _ _ _ _ _ _ _ _ _ _ _ _ _ _ _ _ _ _ _ _ _ _ _ _ _ _ _ _ _ _ _ _ _ _ _ _ _ _ _ _ _ _ _ _ _ _ _ _ _ _ _ _ _ _ _ _ _ _ _ _ _ _ _ _ _ _ _ _ _ _ _ _ _ _ _ _ _ _ _ _ _ _ _ _ _ _ _ _ _ _ _ _ _ _ _ _ _ _ _ _ _ _ _ J0 K1 j o n c ps hn8 k v hv ev1 ev2 HKE hd1 hd2 b off hk0 A1 hj8 hjl g A2 hjg K2 A3 K3 A4 nq wq HQ hcase
  have h : v < 3 := hcase
  have d1 : decide ((v : Int) < 3) = true := by simp; omega
  have HCH := Lib.hid h
  have HROW := Lib.hid (show wq.ownsRow (w.heap.size + 1) 47 4 (.slice o n c) n (ps.flatMap four) from by have := HQ.out.own.row; rw [HQ.out.len] at this; exact this)
  have HLT := Lib.hid HQ.out.lt
  go_wp2_with fail
  obtain ⟨op, np, cp, ns, hnl, hrow, hsub, hcall⟩ := pick_kp I _ (wrap64 (k.tdiv 11)) w HE.out.hI HE.out.lI.1 HE.out.lI.2
  refine (hcall _).mono ?_
  rintro e w3 ⟨rfl, rfl⟩
  subst hnl
  have HP := Lib.hid (And.intro hrow hsub)
  clear hcall hrow hsub
  go_wp2_with (at_builtin; refine wpList_append_far _ rfl _ _ 45 rfl (w.heap.size + 1) 47 ip _ 4 80 Tryz.underlying45 hp0 hp1 hp2 hp3 rfl (by decide) (.slice o n c) n (ps.flatMap four) rfl (by repeat (first | exact HROW.out | refine World.ownsRow.alloc ?_ _ | refine owns_drew ?_)) _ 1 _ rfl (by exact row_new rfl (by simp)) rfl (by simp [Value.oneCell']) (by unfold maxLen; omega) (by omega) (by have := HLT.out; simp; omega) ?_; intro v9 w9 hown9 hg9 hf9 hb9; obtain ⟨o9, c9, rfl⟩ := owns_slice hown9)
  obtain ⟨ps5, hS5⟩ := HQ.out.push (by repeat (first | exact Below.refl _ _ | refine Below.drew ?_ | refine bel_new ?_ _)) hown9 rfl hg9 hf9 (kp_arg HQ.out (by repeat (first | exact Below.refl _ _ | refine Below.drew ?_ | refine bel_new ?_ _)) (HP.out.1.mono fun w' hb => pt_tok hb)) (gp_tok (HE.out.nI _ HP.out.2.1)) (by rw [deep_mk, deeps_nil]; omega) (by rw [size_mk, sizes_nil]; omega) (HQ.out.tok hjl HKE.out ev1 (.inl HCH.out) HP.out.2.2)
  have HS5 := Lib.hid hS5
  clear hS5 hown9 hg9 hf9 hb9
  go_roundg g
  case measure => omega
  case rel => exact ⟨j + 1, o9, n + 1, c9, ps5, by omega, by simp, rfl, HS5.out⟩
set_option maxHeartbeats 20000000 in
set_option maxRecDepth 100000 in
theorem pat_arm1 (T : List TK) (l : List Int) (cl : Nat) (oi : Option Addr) (ci : Nat) (oc : Option Addr) (cc : Nat) (or : Option Addr) (cr : Nat) (I C R : List ByteArray) (w : World) : (patCore (fun n v => v = 3) T l cl oi ci oc cc or cr I C R w).1 := by
  intro ip hp0 hp1 hp2 hp3 HE Q0 K0 A0 wr _ _ _ _ _ _ _ _ _ _ _ _ _ _ _ _ _ _ _ _ _ _ _ _ _ _ _ _ _ _ _ _ _ _ _ _ _ _ _ _ _ _ _ _ _ _ _ _ _ _ _ _ _ _ _ _ _ _ _ _ _ _ _ _ _ _ _ _ _ _ _ _ _ _ _ _ _ _ _ _ _ _ _ _ _ _ _ _ _ _ _ _ _ _ _ _ _ _ _ _ _ _ _ _ _ _ _ _ _ _ _ _ _ _ _ _ _ _ _ _ _ _ _ _ _ _ _ _ _ _ _ _ _ _ _ _ _ _ _ _ _ _ _ _ _ _ _ _ _ _ _ _ _ _ _ _ _ _ _ _ _ _ _ _ _ _ _ _ _ _ _ _ _ _ _ _ _ _ _ _ _ J0 K1 j o n c ps hn8 k v hv ev1 ev2 HKE hd1 hd2 b off hk0 A1 hj8 hjl g A2 hjg K2 A3 K3 A4 nq wq HQ hcase
  rcases hcase with rfl
  rcases Nat.eq_zero_or_pos n with rfl | h0
  · have HROW := Lib.hid (show wq.ownsRow (w.heap.size + 1) 47 4 (.slice o 0 c) 0 (ps.flatMap four) from by have := HQ.out.own.row; rw [HQ.out.len] at this; exact this)
    have HLT := Lib.hid HQ.out.lt
    go_wp2_with (at_builtin; refine wpList_append_far _ rfl _ _ 45 rfl (w.heap.size + 1) 47 ip _ 4 80 Tryz.underlying45 hp0 hp1 hp2 hp3 rfl (by decide) (.slice o 0 c) 0 (ps.flatMap four) rfl (by repeat (first | exact HROW.out | refine World.ownsRow.alloc ?_ _ | refine owns_drew ?_)) _ 1 _ rfl (by exact row_new rfl (by simp)) rfl (by simp [Value.oneCell']) (by unfold maxLen; omega) (by omega) (by have := HLT.out; simp; omega) ?_; intro v9 w9 hown9 hg9 hf9 hb9; obtain ⟨o9, c9, rfl⟩ := owns_slice hown9)
    obtain ⟨ps5, hS5⟩ := HQ.out.push (by repeat (first | exact Below.refl _ _ | refine Below.drew ?_ | refine bel_new ?_ _)) hown9 rfl hg9 hf9 (fun w' _ => pt_kind 4 w') (gp_flat (.inr rfl)) (by rw [deep_mk, deeps_nil]; omega) (by rw [size_mk, sizes_nil]; omega) (HQ.out.flat4 hjl HKE.out ev1)
    have HS5 := Lib.hid hS5
    clear hS5 hown9 hg9 hf9 hb9
    go_roundg g
    case measure => omega
    case rel => exact ⟨j + 1, o9, 0 + 1, c9, ps5, by omega, by simp, rfl, HS5.out⟩
  · have e0 : ((n : Int) == 0) = false := by simp; omega
    have HROW := Lib.hid (show wq.ownsRow (w.heap.size + 1) 47 4 (.slice o n c) n (ps.flatMap four) from by have := HQ.out.own.row; rw [HQ.out.len] at this; exact this)
    have HLT := Lib.hid HQ.out.lt
    go_wp2_with (at_builtin; refine wpList_append_far _ rfl _ _ 45 rfl (w.heap.size + 1) 47 ip _ 4 80 Tryz.underlying45 hp0 hp1 hp2 hp3 rfl (by decide) (.slice o n c) n (ps.flatMap four) rfl (by repeat (first | exact HROW.out | refine World.ownsRow.alloc ?_ _ | refine owns_drew ?_)) _ 1 _ rfl (by exact row_new rfl (by simp)) rfl (by simp [Value.oneCell']) (by unfold maxLen; omega) (by omega) (by have := HLT.out; simp; omega) ?_; intro v9 w9 hown9 hg9 hf9 hb9; obtain ⟨o9, c9, rfl⟩ := owns_slice hown9)
    obtain ⟨ps5, hS5⟩ := HQ.out.push (by repeat (first | exact Below.refl _ _ | refine Below.drew ?_ | refine bel_new ?_ _)) hown9 rfl hg9 hf9 (fun w' _ => pt_kind 4 w') (gp_flat (.inr rfl)) (by rw [deep_mk, deeps_nil]; omega) (by rw [size_mk, sizes_nil]; omega) (HQ.out.flat4 hjl HKE.out ev1)
    have HS5 := Lib.hid hS5
    clear hS5 hown9 hg9 hf9 hb9
    go_roundg g
    case measure => omega
    case rel => exact ⟨j + 1, o9, n + 1, c9, ps5, by omega, by simp, rfl, HS5.out⟩
set_option maxHeartbeats 20000000 in
set_option maxRecDepth 100000 in
theorem pat_arm2 (T : List TK) (l : List Int) (cl : Nat) (oi : Option Addr) (ci : Nat) (oc : Option Addr) (cc : Nat) (or : Option Addr) (cr : Nat) (I C R : List ByteArray) (w : World) : (patCore (fun n v => v = 4) T l cl oi ci oc cc or cr I C R w).1 := by
  intro ip hp0 hp1 hp2 hp3 HE Q0 K0 A0 wr _ _ _ _ _ _ _ _ _ _ _ _ _ _ _ _ _ _ _ _ _ _ _ _ _ _ _ _ _ _ _ _ _ _ _ _ _ _ _ _ _ _ _ _ _ _ _ _ _ _ _ _ _ _ _ _ _ _ _ _ _ _ _ _ _ _ _ _ _ _ _ _ _ _ _ _ _ _ _ _ _ _ _ _ _ _ _ _ _ _ _ _ _ _ _ _ _ _ _ _ _ _ _ _ _ _ _ _ _ _ _ _ _ _ _ _ _ _ _ _ _ _ _ _ _ _ _ _ _ _ _ _ _ _ _ _ _ _ _ _ _ _ _ _ _ _ _ _ _ _ _ _ _ _ _ _ _ _ _ _ _ _ _ _ _ _ _ _ _ _ _ _ _ _ _ _ _ _ _ _ _ J0 K1 j o n c ps hn8 k v hv ev1 ev2 HKE hd1 hd2 b off hk0 A1 hj8 hjl g A2 hjg K2 A3 K3 A4 nq wq HQ hcase
  rcases hcase with rfl
  rcases Nat.eq_zero_or_pos n with rfl | h0
  · have HROW := Lib.hid (show wq.ownsRow (w.heap.size + 1) 47 4 (.slice o 0 c) 0 (ps.flatMap four) from by have := HQ.out.own.row; rw [HQ.out.len] at this; exact this)
    have HLT := Lib.hid HQ.out.lt
    go_wp2_with (at_builtin; refine wpList_append_far _ rfl _ _ 45 rfl (w.heap.size + 1) 47 ip _ 4 80 Tryz.underlying45 hp0 hp1 hp2 hp3 rfl (by decide) (.slice o 0 c) 0 (ps.flatMap four) rfl (by repeat (first | exact HROW.out | refine World.ownsRow.alloc ?_ _ | refine owns_drew ?_)) _ 1 _ rfl (by exact row_new rfl (by simp)) rfl (by simp [Value.oneCell']) (by unfold maxLen; omega) (by omega) (by have := HLT.out; simp; omega) ?_; intro v9 w9 hown9 hg9 hf9 hb9; obtain ⟨o9, c9, rfl⟩ := owns_slice hown9)
    obtain ⟨ps5, hS5⟩ := HQ.out.push (by repeat (first | exact Below.refl _ _ | refine Below.drew ?_ | refine bel_new ?_ _)) hown9 rfl hg9 hf9 (fun w' _ => pt_kind 1 w') (gp_flat (.inl rfl)) (by rw [deep_mk, deeps_nil]; omega) (by rw [size_mk, sizes_nil]; omega) (HQ.out.flat1 hjl HKE.out ev1)
    have HS5 := Lib.hid hS5
    clear hS5 hown9 hg9 hf9 hb9
    go_roundg g
    case measure => omega
    case rel => exact ⟨j + 1, o9, 0 + 1, c9, ps5, by omega, by simp, rfl, HS5.out⟩
  · have e0 : ((n : Int) == 0) = false := by simp; omega
    have HROW := Lib.hid (show wq.ownsRow (w.heap.size + 1) 47 4 (.slice o n c) n (ps.flatMap four) from by have := HQ.out.own.row; rw [HQ.out.len] at this; exact this)
    have HLT := Lib.hid HQ.out.lt
    go_wp2_with (at_builtin; refine wpList_append_far _ rfl _ _ 45 rfl (w.heap.size + 1) 47 ip _ 4 80 Tryz.underlying45 hp0 hp1 hp2 hp3 rfl (by decide) (.slice o n c) n (ps.flatMap four) rfl (by repeat (first | exact HROW.out | refine World.ownsRow.alloc ?_ _ | refine owns_drew ?_)) _ 1 _ rfl (by exact row_new rfl (by simp)) rfl (by simp [Value.oneCell']) (by unfold maxLen; omega) (by omega) (by have := HLT.out; simp; omega) ?_; intro v9 w9 hown9 hg9 hf9 hb9; obtain ⟨o9, c9, rfl⟩ := owns_slice hown9)
    obtain ⟨ps5, hS5⟩ := HQ.out.push (by repeat (first | exact Below.refl _ _ | refine Below.drew ?_ | refine bel_new ?_ _)) hown9 rfl hg9 hf9 (fun w' _ => pt_kind 1 w') (gp_flat (.inl rfl)) (by rw [deep_mk, deeps_nil]; omega) (by rw [size_mk, sizes_nil]; omega) (HQ.out.flat1 hjl HKE.out ev1)
    have HS5 := Lib.hid hS5
    clear hS5 hown9 hg9 hf9 hb9
    go_roundg g
    case measure => omega
    case rel => exact ⟨j + 1, o9, n + 1, c9, ps5, by omega, by simp, rfl, HS5.out⟩
set_option maxHeartbeats 20000000 in
set_option maxRecDepth 100000 in
theorem pat_arm4 (T : List TK) (l : List Int) (cl : Nat) (oi : Option Addr) (ci : Nat) (oc : Option Addr) (cc : Nat) (or : Option Addr) (cr : Nat) (I C R : List ByteArray) (w : World) : (patCore (fun n v => n = 0 ∧ 5 < v) T l cl oi ci oc cc or cr I C R w).1 := by
  intro ip hp0 hp1 hp2 hp3 HE Q0 K0 A0 wr _ _ _ _ _ _ _ _ _ _ _ _ _ _ _ _ _ _ _ _ _ _ _ _ _ _ _ _ _ _ _ _ _ _ _ _ _ _ _ _ _ _ _ _ _ _ _ _ _ _ _ _ _ _ _ _ _ _ _ _ _ _ _ _ _ _ _ _ _ _ _ _ _ _ _ _ _ _ _ _ _ _ _ _ _ _ _ _ _ _ _ _ _ _ _ _ _ _ _ _ _ _ _ _ _ _ _ _ _ _ _ _ _ _ _ _ _ _ _ _ _ _ _ _ _ _ _ _ _ _ _ _ _ _ _ _ _ _ _ _ _ _ _ _ _ _ _ _ _ _ _ _ _ _ _ _ _ _ _ _ _ _ _ _ _ _ _ _ _ _ _ _ _ _ _ _ _ _ _ _ _ J0 K1 j o n c ps hn8 k v hv ev1 ev2 HKE hd1 hd2 b off hk0 A1 hj8 hjl g A2 hjg K2 A3 K3 A4 nq wq HQ hcase
  rcases hcase with ⟨rfl, h⟩
  have d1 : decide ((v : Int) < 3) = false := by simp; omega
  have d2 : decide ((5 : Int) < (v : Int)) = true := by simp; omega
  have HROW := Lib.hid (show wq.ownsRow (w.heap.size + 1) 47 4 (.slice o 0 c) 0 (ps.flatMap four) from by have := HQ.out.own.row; rw [HQ.out.len] at this; exact this)
  have HLT := Lib.hid HQ.out.lt
  go_wp2_with fail
  obtain ⟨op, np, cp, ns, hnl, hrow, hsub, hcall⟩ := pick_kp I _ (wrap64 (k.tdiv 11)) w HE.out.hI HE.out.lI.1 HE.out.lI.2
  refine (hcall _).mono ?_
  rintro e w3 ⟨rfl, rfl⟩
  subst hnl
  have HP := Lib.hid (And.intro hrow hsub)
  clear hcall hrow hsub
  go_wp2_with (at_builtin; refine wpList_append_far _ rfl _ _ 45 rfl (w.heap.size + 1) 47 ip _ 4 80 Tryz.underlying45 hp0 hp1 hp2 hp3 rfl (by decide) (.slice o 0 c) 0 (ps.flatMap four) rfl (by repeat (first | exact HROW.out | refine World.ownsRow.alloc ?_ _ | refine owns_drew ?_)) _ 1 _ rfl (by exact row_new rfl (by simp)) rfl (by simp [Value.oneCell']) (by unfold maxLen; omega) (by omega) (by have := HLT.out; simp; omega) ?_; intro v9 w9 hown9 hg9 hf9 hb9; obtain ⟨o9, c9, rfl⟩ := owns_slice hown9)
  obtain ⟨ps5, hS5⟩ := HQ.out.push (by repeat (first | exact Below.refl _ _ | refine Below.drew ?_ | refine bel_new ?_ _)) hown9 rfl hg9 hf9 (kp_arg HQ.out (by repeat (first | exact Below.refl _ _ | refine Below.drew ?_ | refine bel_new ?_ _)) (HP.out.1.mono fun w' hb => pt_tok hb)) (gp_tok (HE.out.nI _ HP.out.2.1)) (by rw [deep_mk, deeps_nil]; omega) (by rw [size_mk, sizes_nil]; omega) (HQ.out.tok hjl HKE.out ev1 (.inr ⟨rfl, h⟩) HP.out.2.2)
  have HS5 := Lib.hid hS5
  clear hS5 hown9 hg9 hf9 hb9
  go_roundg g
  case measure => omega
  case rel => exact ⟨j + 1, o9, 0 + 1, c9, ps5, by omega, by simp, rfl, HS5.out⟩
set_option maxHeartbeats 20000000 in
set_option maxRecDepth 100000 in
theorem pat_arm5 (T : List TK) (l : List Int) (cl : Nat) (oi : Option Addr) (ci : Nat) (oc : Option Addr) (cc : Nat) (or : Option Addr) (cr : Nat) (I C R : List ByteArray) (w : World) : (patCore (fun n v => 0 < n ∧ v = 6) T l cl oi ci oc cc or cr I C R w).1 := by
  intro ip hp0 hp1 hp2 hp3 HE Q0 K0 A0 wr _ _ _ _ _ _ _ _ _ _ _ _ _ _ _ _ _ _ _ _ _ _ _ _ _ _ _ _ _ _ _ _ _ _ _ _ _ _ _ _ _ _ _ _ _ _ _ _ _ _ _ _ _ _ _ _ _ _ _ _ _ _ _ _ _ _ _ _ _ _ _ _ _ _ _ _ _ _ _ _ _ _ _ _ _ _ _ _ _ _ _ _ _ _ _ _ _ _ _ _ _ _ _ _ _ _ _ _ _ _ _ _ _ _ _ _ _ _ _ _ _ _ _ _ _ _ _ _ _ _ _ _ _ _ _ _ _ _ _ _ _ _ _ _ _ _ _ _ _ _ _ _ _ _ _ _ _ _ _ _ _ _ _ _ _ _ _ _ _ _ _ _ _ _ _ _ _ _ _ _ _ J0 K1 j o n c ps hn8 k v hv ev1 ev2 HKE hd1 hd2 b off hk0 A1 hj8 hjl g A2 hjg K2 A3 K3 A4 nq wq HQ hcase
  rcases hcase with ⟨h, rfl⟩
  obtain ⟨m, rfl⟩ : ∃ m, n = m + 1 := ⟨n - 1, by omega⟩
  obtain ⟨ps', q, rfl⟩ : ∃ ps' q, ps = ps' ++ [q] := last_of (by have := HQ.out.len; omega)
  obtain ⟨g5, rfl, hg1, hg2, hnc, hfz, hcl⟩ := HQ.out.own_cells (by omega)
  obtain ⟨x0, x1, x2, x3⟩ := hcl m q (by have h9 := HQ.out.len; simp at h9; subst h9; simp)
  have z0 := hfz (m * 4)
  have z1 := hfz (m * 4 + 1)
  have z2 := hfz (m * 4 + 2)
  have z3 := hfz (m * 4 + 3)
  have hm0 : (0 : Int) ≤ (m : Int) := by omega
  have hm1 : (m : Int) < (m : Int) + 1 := by omega
  have n0 : ¬ g5 = wq.heap.size := by omega
  clear hcl hfz
  have e0 : ((m : Int) + 1 == 0) = false := by simp; omega
  have e1 : decide ((0 : Int) < (m : Int) + 1) = true := by simp
  go_wp2_with fail
  obtain ⟨w5, hw5⟩ : ∃ w5, w5 = ((((wq.setCell ⟨g5, m * 4, none⟩ (.int .i64 7)).setCell ⟨g5, m * 4 + 1, none⟩ (.slice none 0 0)).setCell ⟨g5, m * 4 + 2, none⟩ (.slice none 0 0)).setCell ⟨g5, m * 4 + 3, none⟩ (.slice (some ⟨wq.heap.size, 0, none⟩) 1 1)).alloc (.cells #[.int .i64 q.1.kind, q.2.1, q.2.2.1, q.2.2.2] 47) := ⟨_, rfl⟩
  rw [← hw5]
  have hbX : Below wq.heap.size wq (wq.alloc (.cells #[.int .i64 q.1.kind, q.2.1, q.2.2.1, q.2.2.2] 47)) := bel_new (Below.refl _ _) _
  have hS5 := HQ.out.over hbX (hw5.trans (set4_alloc hg2).symm) (p := .mk 7 [] [] [q.1]) (nv := .slice none 0 0) (ev := .slice none 0 0) (lv := .slice (some ⟨wq.heap.size, 0, none⟩) 1 1)
    (kp_and ((HQ.out.own.keep q (by simp)).to (.of hbX)) (KP.block (heap_alloc_new wq _) ⟨⟨.inl (by have := HQ.out.lt; omega), by have := HQ.out.lt; omega⟩, fun e => by simp [Value.ownBlock] at e; omega⟩) (fun w' h1 h2 => pt_one (ns := []) (es := []) (Row.nil _) (Row.nil _) h1 h2))
    (gp_star (HQ.out.stk.good q.1 (by simp))) (by rw [deep_mk, deeps_cons, deeps_nil]; omega) (by rw [size_mk, sizes_cons, sizes_nil]) (HQ.out.star hjl HKE.out ev1 (.inl rfl))
  have HS5 := Lib.hid hS5
  clear hS5 hw5 hbX
  go_roundg g
  case measure => omega
  case rel => exact ⟨j + 1, _, m + 1, c, _, by omega, by simp, rfl, HS5.out⟩
set_option maxHeartbeats 20000000 in
set_option maxRecDepth 100000 in
theorem pat_arm6 (T : List TK) (l : List Int) (cl : Nat) (oi : Option Addr) (ci : Nat) (oc : Option Addr) (cc : Nat) (or : Option Addr) (cr : Nat) (I C R : List ByteArray) (w : World) : (patCore (fun n v => n = 1 ∧ 7 < v) T l cl oi ci oc cc or cr I C R w).1 := by
  intro ip hp0 hp1 hp2 hp3 HE Q0 K0 A0 wr _ _ _ _ _ _ _ _ _ _ _ _ _ _ _ _ _ _ _ _ _ _ _ _ _ _ _ _ _ _ _ _ _ _ _ _ _ _ _ _ _ _ _ _ _ _ _ _ _ _ _ _ _ _ _ _ _ _ _ _ _ _ _ _ _ _ _ _ _ _ _ _ _ _ _ _ _ _ _ _ _ _ _ _ _ _ _ _ _ _ _ _ _ _ _ _ _ _ _ _ _ _ _ _ _ _ _ _ _ _ _ _ _ _ _ _ _ _ _ _ _ _ _ _ _ _ _ _ _ _ _ _ _ _ _ _ _ _ _ _ _ _ _ _ _ _ _ _ _ _ _ _ _ _ _ _ _ _ _ _ _ _ _ _ _ _ _ _ _ _ _ _ _ _ _ _ _ _ _ _ _ J0 K1 j o n c ps hn8 k v hv ev1 ev2 HKE hd1 hd2 b off hk0 A1 hj8 hjl g A2 hjg K2 A3 K3 A4 nq wq HQ hcase
  rcases hcase with ⟨h1, h⟩
  have d1 : decide ((v : Int) < 3) = false := by simp; omega
  have d2 : decide ((5 : Int) < (v : Int)) = true := by simp; omega
  have d3 : decide ((7 : Int) < (v : Int)) = true := by simp; omega
  have v3 : ((v : Int) == 3) = false := by simp; omega
  have v4 : ((v : Int) == 4) = false := by simp; omega
  have v5 : ((v : Int) == 5) = false := by simp; omega
  have v6 : ((v : Int) == 6) = false := by simp; omega
  obtain ⟨m, rfl⟩ : ∃ m, n = m + 1 := ⟨n - 1, by omega⟩
  obtain ⟨ps', q, rfl⟩ : ∃ ps' q, ps = ps' ++ [q] := last_of (by have := HQ.out.len; omega)
  obtain ⟨g5, rfl, hg1, hg2, hnc, hfz, hcl⟩ := HQ.out.own_cells (by omega)
  obtain ⟨x0, x1, x2, x3⟩ := hcl m q (by have h9 := HQ.out.len; simp at h9; subst h9; simp)
  have z0 := hfz (m * 4)
  have z1 := hfz (m * 4 + 1)
  have z2 := hfz (m * 4 + 2)
  have z3 := hfz (m * 4 + 3)
  have hm0 : (0 : Int) ≤ (m : Int) := by omega
  have hm1 : (m : Int) < (m : Int) + 1 := by omega
  have n0 : ¬ g5 = wq.heap.size := by omega
  clear hcl hfz
  have e0 : ((m : Int) + 1 == 0) = false := by simp; omega
  have e1 : decide ((0 : Int) < (m : Int) + 1) = true := by simp
  have e2 : decide ((m : Int) + 1 < 2) = true := by simp; omega
  have HH1 := Lib.hid h1
  clear h1
  go_wp2_with fail
  obtain ⟨w5, hw5⟩ : ∃ w5, w5 = ((((wq.setCell ⟨g5, m * 4, none⟩ (.int .i64 7)).setCell ⟨g5, m * 4 + 1, none⟩ (.slice none 0 0)).setCell ⟨g5, m * 4 + 2, none⟩ (.slice none 0 0)).setCell ⟨g5, m * 4 + 3, none⟩ (.slice (some ⟨wq.heap.size, 0, none⟩) 1 1)).alloc (.cells #[.int .i64 q.1.kind, q.2.1, q.2.2.1, q.2.2.2] 47) := ⟨_, rfl⟩
  rw [← hw5]
  have hbX : Below wq.heap.size wq (wq.alloc (.cells #[.int .i64 q.1.kind, q.2.1, q.2.2.1, q.2.2.2] 47)) := bel_new (Below.refl _ _) _
  have hS5 := HQ.out.over hbX (hw5.trans (set4_alloc hg2).symm) (p := .mk 7 [] [] [q.1]) (nv := .slice none 0 0) (ev := .slice none 0 0) (lv := .slice (some ⟨wq.heap.size, 0, none⟩) 1 1)
    (kp_and ((HQ.out.own.keep q (by simp)).to (.of hbX)) (KP.block (heap_alloc_new wq _) ⟨⟨.inl (by have := HQ.out.lt; omega), by have := HQ.out.lt; omega⟩, fun e => by simp [Value.ownBlock] at e; omega⟩) (fun w' h1 h2 => pt_one (ns := []) (es := []) (Row.nil _) (Row.nil _) h1 h2))
    (gp_star (HQ.out.stk.good q.1 (by simp))) (by rw [deep_mk, deeps_cons, deeps_nil]; omega) (by rw [size_mk, sizes_cons, sizes_nil]) (HQ.out.star hjl HKE.out ev1 (.inr ⟨by have := HH1.out; omega, h⟩))
  have HS5 := Lib.hid hS5
  clear hS5 hw5 hbX
  go_roundg g
  case measure => omega
  case rel => exact ⟨j + 1, _, m + 1, c, _, by omega, by simp, rfl, HS5.out⟩
end Go.Proofs.YtbanmggkfpnalaaGreatDoor
