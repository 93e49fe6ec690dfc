/- gobolaw11.pattern: arms of its switch. -/
import Derived.Test.YtbanmggkfpnalaaGreatDoorGMkC
set_option linter.unusedVariables false
set_option linter.unusedSimpArgs false
namespace Go.Proofs.YtbanmggkfpnalaaGreatDoor
open Go.RowKit Ru PT

set_option maxHeartbeats 20000000 in
set_option maxRecDepth 100000 in
theorem pat_arm8 (T : List TK) (l : List Int) (cl : Nat) (oi : Option Addr) (ci : Nat) (oc : Option Addr) (cc : Nat) (or : Option Addr) (cr : Nat) (I C R : List ByteArray) (w : World) : (patCore (fun n v => 1 < n ∧ (v = 8 ∨ v = 9)) T l cl oi ci oc cc or cr I C R w).1 := by
  intro ip hp0 hp1 hp2 hp3 HE Q0 K0 A0 wr _ _ _ _ _ _ _ _ _ _ _ _ _ _ _ _ _ _ _ _ _ _ _ _ _ _ _ _ _ _ _ _ _ _ _ _ _ _ _ _ _ _ _ _ _ _ _ _ _ _ _ _ _ _ _ _ _ _ _ _ _ _ _ _ _ _ _ _ _ _ _ _ _ _ _ _ _ _ _ _ _ _ _ _ _ _ _ _ _ _ _ _ _ _ _ _ _ _ _ _ _ _ _ _ _ _ _ _ _ _ _ _ _ _ _ _ _ _ _ _ _ _ _ _ _ _ _ _ _ _ _ _ _ _ _ _ _ _ _ _ _ _ _ _ _ _ _ _ _ _ _ _ _ _ _ _ _ _ _ _ _ _ _ _ _ _ _ _ _ _ _ _ _ _ _ _ _ _ _ _ _ J0 K1 j o n c ps hn8 k v hv ev1 ev2 HKE hd1 hd2 b off hk0 A1 hj8 hjl g A2 hjg K2 A3 K3 A4 nq wq HQ hcase
  rcases hcase with ⟨h, h2⟩
  obtain rfl | rfl := h2
  · obtain ⟨m, rfl⟩ : ∃ m, n = m + 2 := ⟨n - 2, by omega⟩
    obtain ⟨ps1, r, rfl⟩ : ∃ ps1 r, ps = ps1 ++ [r] := last_of (by have := HQ.out.len; omega)
    obtain ⟨ps', q, rfl⟩ : ∃ ps' q, ps1 = ps' ++ [q] := last_of (by have := HQ.out.len; simp at this; omega)
    have HQ2 := Lib.hid (show SK T ⟨l, I, C, R⟩ w j o (m + 2) c (ps' ++ [q, r]) wq by have := HQ.out; simpa using this)
    clear HQ
    obtain ⟨g5, rfl, hg1, hg2, hnc, hfz, hcl⟩ := HQ2.out.own_cells (by omega)
    have hpm : ps'.length = m := by have := HQ2.out.len; simp at this; omega
    obtain ⟨x0, x1, x2, x3⟩ := hcl m q (by subst hpm; simp)
    obtain ⟨y0, y1, y2, y3⟩ := hcl (m + 1) r (by subst hpm; simp)
    have HXC := Lib.hid (show ∀ w', Below wq.heap.size wq w' → ∀ i u, (ps'.flatMap four)[i]? = some u → w'.cell? ⟨g5, 0 + i, none⟩ = some u by
      intro w' hb i u hi
      have hr := HQ2.out.own.row
      have h9 := hr.cells (g := g5) rfl i u (by rw [List.flatMap_append, List.getElem?_append_left (List.getElem?_eq_some_iff.1 hi).1]; exact hi)
      have hadd : ((⟨g5, 0, none⟩ : Addr).add i) = ⟨g5, 0 + i, none⟩ := by unfold Addr.add; by_cases e : i = 0 <;> simp [e]
      rw [hadd] at h9
      rw [hb.cell hg2]; exact h9)
    have HPM := Lib.hid (And.intro hpm (fours_len ps'))
    have hm0 : (0 : Int) ≤ (m : Int) := by omega
    have hm2 : (0 : Int) ≤ (m : Int) + 1 := by omega
    have hm3 : (m : Int) < (m : Int) + 2 := by omega
    have hm4 : (m : Int) + 1 < (m : Int) + 2 := by omega
    have hmc : (m : Int) ≤ (c : Int) := by omega
    have n0 : ¬ g5 = wq.heap.size := by omega
    have n1 : ¬ g5 = wq.heap.size + 1 := by omega
    clear hcl hfz hpm
    have e0 : ((m : Int) + 2 == 0) = false := by simp; omega
    have e1 : decide ((0 : Int) < (m : Int) + 2) = true := by simp; omega
    have e2 : decide ((m : Int) + 2 < 2) = false := by simp; omega
    have e3 : decide ((1 : Int) < (m : Int) + 2) = true := by simp; omega
    go_upto_region 20 with (fail)
    have w1 : IntKind.i64.wrap (m : Int) = (m : Int) := IntWalk.i64_in _ (by omega)
    have w2 : IntKind.i64.wrap ((m : Int) + 1) = (m : Int) + 1 := IntWalk.i64_in _ (by omega)
    have w4 : IntKind.i64.wrap ((m : Int) + 2 - 1) = (m : Int) + 1 := by rw [IntWalk.i64_in _ (by omega)]; omega
    have w5 : IntKind.i64.wrap ((m : Int) + 2 - 2) = (m : Int) := by rw [IntWalk.i64_in _ (by omega)]; omega
    have w3 : ((m : Int) + 1).toNat = m + 1 := by omega
    go_region_held3 (fun w' => w'.cell? ⟨g5, m * 4, none⟩ = some (.int .i64 q.1.kind) ∧ w'.cell? ⟨g5, m * 4 + 1, none⟩ = some q.2.1 ∧ w'.cell? ⟨g5, m * 4 + 2, none⟩ = some q.2.2.1 ∧ w'.cell? ⟨g5, m * 4 + 3, none⟩ = some q.2.2.2 ∧ w'.cell? ⟨g5, (m + 1) * 4, none⟩ = some (.int .i64 r.1.kind) ∧ w'.cell? ⟨g5, (m + 1) * 4 + 1, none⟩ = some r.2.1 ∧ w'.cell? ⟨g5, (m + 1) * 4 + 2, none⟩ = some r.2.2.1 ∧ w'.cell? ⟨g5, (m + 1) * 4 + 3, none⟩ = some r.2.2.2)
      (first | trivial | (refine ⟨?_, ?_, ?_, ?_, ?_, ?_, ?_, ?_⟩ <;> refine (Below.cell (w := wq) (B := wq.heap.size) ?_ hg2).trans (by assumption) <;> repeat (first | exact Below.refl _ _ | exact hB9 | refine Below.drew ?_ | refine bel_new ?_ _)))
      (first | (with_reducible refine is_append ?_; refine step_append_full _ rfl _ _ 45 rfl (w.heap.size + 1) 47 ip _ 4 80 Tryz.underlying45 hp0 hp1 hp2 hp3 rfl (by decide) g5 0 m (ps'.flatMap four) rfl (by rw [HPM.out.2, HPM.out.1]) (HXC.out _ (by repeat (first | exact Below.refl _ _ | refine Below.drew ?_ | refine bel_new ?_ _))) (wq.heap.size + 1) [.int .i64 5, .slice none 0 0, .slice none 0 0, .slice (some ⟨wq.heap.size, 0, none⟩) 2 2] rfl (cells_new (by simp)) rfl (by unfold maxLen; omega) (by omega) (by have := HQ2.out.lt; simp; omega) ?_; intro c9 w9 hown9 hb9; have hB9 : Below wq.heap.size wq w9 := bel_then (by repeat (first | exact Below.refl _ _ | refine Below.drew ?_ | refine bel_new ?_ _)) hb9))
    all_goals (
      have hS5 := HQ2.out.both (G9 := wq.heap.size + 1 + 1) (by repeat (first | exact Below.refl _ _ | refine Below.drew ?_ | refine bel_new ?_ _)) (by simp) (own_at hown9 (by simp)) (p := .mk 5 [] [] [q.1, r.1]) rfl hb9
        (kp_and (kp_and ((HQ2.out.own.keep q (by simp)).to (.of (by repeat (first | exact Below.refl _ _ | refine Below.drew ?_ | refine bel_new ?_ _)))) ((HQ2.out.own.keep r (by simp)).to (.of (by repeat (first | exact Below.refl _ _ | refine Below.drew ?_ | refine bel_new ?_ _)))) (fun w' h1 h2 => And.intro h1 h2)) (KP.block (b := wq.heap.size) (bel_get (w := wq.alloc _) (by repeat (first | exact Below.refl _ _ | refine Below.drew ?_ | refine bel_new ?_ _)) (heap_alloc_new wq _)) ⟨⟨.inl (by have := HQ2.out.lt; omega), by have := HQ2.out.lt; omega⟩, fun e => by simp [Value.ownBlock] at e; omega⟩) (fun w' h1 h2 => pt_two h1.1 h1.2 h2))
        (gp_two (.inl rfl) (HQ2.out.stk.good q.1 (by simp)) (HQ2.out.stk.good r.1 (by simp))) (by rw [deep_mk, deeps_cons, deeps_cons, deeps_nil]; omega) (by rw [size_mk, sizes_cons, sizes_cons, sizes_nil]; omega) (HQ2.out.pair hjl HKE.out ev1 (by decide) rfl)
      have HS5 := Lib.hid hS5
      clear hS5 hown9 hb9 hB9 w1 w2 w3 w4 w5
      go_wp2
      go_roundg g
      case measure => omega
      case rel => exact ⟨j + 1, some ⟨wq.heap.size + 1 + 1, 0, none⟩, m + 1, c9, _, by omega, by simp, rfl, HS5.out⟩)
  · obtain ⟨m, rfl⟩ : ∃ m, n = m + 2 := ⟨n - 2, by omega⟩
    obtain ⟨ps1, r, rfl⟩ : ∃ ps1 r, ps = ps1 ++ [r] := last_of (by have := HQ.out.len; omega)
    obtain ⟨ps', q, rfl⟩ : ∃ ps' q, ps1 = ps' ++ [q] := last_of (by have := HQ.out.len; simp at this; omega)
    have HQ2 := Lib.hid (show SK T ⟨l, I, C, R⟩ w j o (m + 2) c (ps' ++ [q, r]) wq by have := HQ.out; simpa using this)
    clear HQ
    obtain ⟨g5, rfl, hg1, hg2, hnc, hfz, hcl⟩ := HQ2.out.own_cells (by omega)
    have hpm : ps'.length = m := by have := HQ2.out.len; simp at this; omega
    obtain ⟨x0, x1, x2, x3⟩ := hcl m q (by subst hpm; simp)
    obtain ⟨y0, y1, y2, y3⟩ := hcl (m + 1) r (by subst hpm; simp)
    have HXC := Lib.hid (show ∀ w', Below wq.heap.size wq w' → ∀ i u, (ps'.flatMap four)[i]? = some u → w'.cell? ⟨g5, 0 + i, none⟩ = some u by
      intro w' hb i u hi
      have hr := HQ2.out.own.row
      have h9 := hr.cells (g := g5) rfl i u (by rw [List.flatMap_append, List.getElem?_append_left (List.getElem?_eq_some_iff.1 hi).1]; exact hi)
      have hadd : ((⟨g5, 0, none⟩ : Addr).add i) = ⟨g5, 0 + i, none⟩ := by unfold Addr.add; by_cases e : i = 0 <;> simp [e]
      rw [hadd] at h9
      rw [hb.cell hg2]; exact h9)
    have HPM := Lib.hid (And.intro hpm (fours_len ps'))
    have hm0 : (0 : Int) ≤ (m : Int) := by omega
    have hm2 : (0 : Int) ≤ (m : Int) + 1 := by omega
    have hm3 : (m : Int) < (m : Int) + 2 := by omega
    have hm4 : (m : Int) + 1 < (m : Int) + 2 := by omega
    have hmc : (m : Int) ≤ (c : Int) := by omega
    have n0 : ¬ g5 = wq.heap.size := by omega
    have n1 : ¬ g5 = wq.heap.size + 1 := by omega
    clear hcl hfz hpm
    have e0 : ((m : Int) + 2 == 0) = false := by simp; omega
    have e1 : decide ((0 : Int) < (m : Int) + 2) = true := by simp; omega
    have e2 : decide ((m : Int) + 2 < 2) = false := by simp; omega
    have e3 : decide ((1 : Int) < (m : Int) + 2) = true := by simp; omega
    go_upto_region 20 with (fail)
    have w1 : IntKind.i64.wrap (m : Int) = (m : Int) := IntWalk.i64_in _ (by omega)
    have w2 : IntKind.i64.wrap ((m : Int) + 1) = (m : Int) + 1 := IntWalk.i64_in _ (by omega)
    have w4 : IntKind.i64.wrap ((m : Int) + 2 - 1) = (m : Int) + 1 := by rw [IntWalk.i64_in _ (by omega)]; omega
    have w5 : IntKind.i64.wrap ((m : Int) + 2 - 2) = (m : Int) := by rw [IntWalk.i64_in _ (by omega)]; omega
    have w3 : ((m : Int) + 1).toNat = m + 1 := by omega
    go_region_held3 (fun w' => w'.cell? ⟨g5, m * 4, none⟩ = some (.int .i64 q.1.kind) ∧ w'.cell? ⟨g5, m * 4 + 1, none⟩ = some q.2.1 ∧ w'.cell? ⟨g5, m * 4 + 2, none⟩ = some q.2.2.1 ∧ w'.cell? ⟨g5, m * 4 + 3, none⟩ = some q.2.2.2 ∧ w'.cell? ⟨g5, (m + 1) * 4, none⟩ = some (.int .i64 r.1.kind) ∧ w'.cell? ⟨g5, (m + 1) * 4 + 1, none⟩ = some r.2.1 ∧ w'.cell? ⟨g5, (m + 1) * 4 + 2, none⟩ = some r.2.2.1 ∧ w'.cell? ⟨g5, (m + 1) * 4 + 3, none⟩ = some r.2.2.2)
      (first | trivial | (refine ⟨?_, ?_, ?_, ?_, ?_, ?_, ?_, ?_⟩ <;> refine (Below.cell (w := wq) (B := wq.heap.size) ?_ hg2).trans (by assumption) <;> repeat (first | exact Below.refl _ _ | exact hB9 | refine Below.drew ?_ | refine bel_new ?_ _)))
      (first | (with_reducible refine is_append ?_; refine step_append_full _ rfl _ _ 45 rfl (w.heap.size + 1) 47 ip _ 4 80 Tryz.underlying45 hp0 hp1 hp2 hp3 rfl (by decide) g5 0 m (ps'.flatMap four) rfl (by rw [HPM.out.2, HPM.out.1]) (HXC.out _ (by repeat (first | exact Below.refl _ _ | refine Below.drew ?_ | refine bel_new ?_ _))) (wq.heap.size + 1) [.int .i64 5, .slice none 0 0, .slice none 0 0, .slice (some ⟨wq.heap.size, 0, none⟩) 2 2] rfl (cells_new (by simp)) rfl (by unfold maxLen; omega) (by omega) (by have := HQ2.out.lt; simp; omega) ?_; intro c9 w9 hown9 hb9; have hB9 : Below wq.heap.size wq w9 := bel_then (by repeat (first | exact Below.refl _ _ | refine Below.drew ?_ | refine bel_new ?_ _)) hb9))
    all_goals (
      have hS5 := HQ2.out.both (G9 := wq.heap.size + 1 + 1) (by repeat (first | exact Below.refl _ _ | refine Below.drew ?_ | refine bel_new ?_ _)) (by simp) (own_at hown9 (by simp)) (p := .mk 5 [] [] [q.1, r.1]) rfl hb9
        (kp_and (kp_and ((HQ2.out.own.keep q (by simp)).to (.of (by repeat (first | exact Below.refl _ _ | refine Below.drew ?_ | refine bel_new ?_ _)))) ((HQ2.out.own.keep r (by simp)).to (.of (by repeat (first | exact Below.refl _ _ | refine Below.drew ?_ | refine bel_new ?_ _)))) (fun w' h1 h2 => And.intro h1 h2)) (KP.block (b := wq.heap.size) (bel_get (w := wq.alloc _) (by repeat (first | exact Below.refl _ _ | refine Below.drew ?_ | refine bel_new ?_ _)) (heap_alloc_new wq _)) ⟨⟨.inl (by have := HQ2.out.lt; omega), by have := HQ2.out.lt; omega⟩, fun e => by simp [Value.ownBlock] at e; omega⟩) (fun w' h1 h2 => pt_two h1.1 h1.2 h2))
        (gp_two (.inl rfl) (HQ2.out.stk.good q.1 (by simp)) (HQ2.out.stk.good r.1 (by simp))) (by rw [deep_mk, deeps_cons, deeps_cons, deeps_nil]; omega) (by rw [size_mk, sizes_cons, sizes_cons, sizes_nil]; omega) (HQ2.out.pair hjl HKE.out ev1 (by decide) rfl)
      have HS5 := Lib.hid hS5
      clear hS5 hown9 hb9 hB9 w1 w2 w3 w4 w5
      go_wp2
      go_roundg g
      case measure => omega
      case rel => exact ⟨j + 1, some ⟨wq.heap.size + 1 + 1, 0, none⟩, m + 1, c9, _, by omega, by simp, rfl, HS5.out⟩)
set_option maxHeartbeats 20000000 in
set_option maxRecDepth 100000 in
theorem pat_arm9 (T : List TK) (l : List Int) (cl : Nat) (oi : Option Addr) (ci : Nat) (oc : Option Addr) (cc : Nat) (or : Option Addr) (cr : Nat) (I C R : List ByteArray) (w : World) : (patCore (fun n v => 1 < n ∧ v = 10) T l cl oi ci oc cc or cr I C R w).1 := by
  intro ip hp0 hp1 hp2 hp3 HE Q0 K0 A0 wr _ _ _ _ _ _ _ _ _ _ _ _ _ _ _ _ _ _ _ _ _ _ _ _ _ _ _ _ _ _ _ _ _ _ _ _ _ _ _ _ _ _ _ _ _ _ _ _ _ _ _ _ _ _ _ _ _ _ _ _ _ _ _ _ _ _ _ _ _ _ _ _ _ _ _ _ _ _ _ _ _ _ _ _ _ _ _ _ _ _ _ _ _ _ _ _ _ _ _ _ _ _ _ _ _ _ _ _ _ _ _ _ _ _ _ _ _ _ _ _ _ _ _ _ _ _ _ _ _ _ _ _ _ _ _ _ _ _ _ _ _ _ _ _ _ _ _ _ _ _ _ _ _ _ _ _ _ _ _ _ _ _ _ _ _ _ _ _ _ _ _ _ _ _ _ _ _ _ _ _ _ J0 K1 j o n c ps hn8 k v hv ev1 ev2 HKE hd1 hd2 b off hk0 A1 hj8 hjl g A2 hjg K2 A3 K3 A4 nq wq HQ hcase
  rcases hcase with ⟨h, rfl⟩
  obtain ⟨m, rfl⟩ : ∃ m, n = m + 2 := ⟨n - 2, by omega⟩
  obtain ⟨ps1, r, rfl⟩ : ∃ ps1 r, ps = ps1 ++ [r] := last_of (by have := HQ.out.len; omega)
  obtain ⟨ps', q, rfl⟩ : ∃ ps' q, ps1 = ps' ++ [q] := last_of (by have := HQ.out.len; simp at this; omega)
  have HQ2 := Lib.hid (show SK T ⟨l, I, C, R⟩ w j o (m + 2) c (ps' ++ [q, r]) wq by have := HQ.out; simpa using this)
  clear HQ
  obtain ⟨g5, rfl, hg1, hg2, hnc, hfz, hcl⟩ := HQ2.out.own_cells (by omega)
  have hpm : ps'.length = m := by have := HQ2.out.len; simp at this; omega
  obtain ⟨x0, x1, x2, x3⟩ := hcl m q (by subst hpm; simp)
  obtain ⟨y0, y1, y2, y3⟩ := hcl (m + 1) r (by subst hpm; simp)
  have HXC := Lib.hid (show ∀ w', Below wq.heap.size wq w' → ∀ i u, (ps'.flatMap four)[i]? = some u → w'.cell? ⟨g5, 0 + i, none⟩ = some u by
    intro w' hb i u hi
    have hr := HQ2.out.own.row
    have h9 := hr.cells (g := g5) rfl i u (by rw [List.flatMap_append, List.getElem?_append_left (List.getElem?_eq_some_iff.1 hi).1]; exact hi)
    have hadd : ((⟨g5, 0, none⟩ : Addr).add i) = ⟨g5, 0 + i, none⟩ := by unfold Addr.add; by_cases e : i = 0 <;> simp [e]
    rw [hadd] at h9
    rw [hb.cell hg2]; exact h9)
  have HPM := Lib.hid (And.intro hpm (fours_len ps'))
  have hm0 : (0 : Int) ≤ (m : Int) := by omega
  have hm2 : (0 : Int) ≤ (m : Int) + 1 := by omega
  have hm3 : (m : Int) < (m : Int) + 2 := by omega
  have hm4 : (m : Int) + 1 < (m : Int) + 2 := by omega
  have hmc : (m : Int) ≤ (c : Int) := by omega
  have n0 : ¬ g5 = wq.heap.size := by omega
  have n1 : ¬ g5 = wq.heap.size + 1 := by omega
  clear hcl hfz hpm
  have e0 : ((m : Int) + 2 == 0) = false := by simp; omega
  have e1 : decide ((0 : Int) < (m : Int) + 2) = true := by simp; omega
  have e2 : decide ((m : Int) + 2 < 2) = false := by simp; omega
  have e3 : decide ((1 : Int) < (m : Int) + 2) = true := by simp; omega
  go_upto_region 22 with (fail)
  have w1 : IntKind.i64.wrap (m : Int) = (m : Int) := IntWalk.i64_in _ (by omega)
  have w2 : IntKind.i64.wrap ((m : Int) + 1) = (m : Int) + 1 := IntWalk.i64_in _ (by omega)
  have w4 : IntKind.i64.wrap ((m : Int) + 2 - 1) = (m : Int) + 1 := by rw [IntWalk.i64_in _ (by omega)]; omega
  have w5 : IntKind.i64.wrap ((m : Int) + 2 - 2) = (m : Int) := by rw [IntWalk.i64_in _ (by omega)]; omega
  have w3 : ((m : Int) + 1).toNat = m + 1 := by omega
  go_region_held3 (fun w' => w'.cell? ⟨g5, m * 4, none⟩ = some (.int .i64 q.1.kind) ∧ w'.cell? ⟨g5, m * 4 + 1, none⟩ = some q.2.1 ∧ w'.cell? ⟨g5, m * 4 + 2, none⟩ = some q.2.2.1 ∧ w'.cell? ⟨g5, m * 4 + 3, none⟩ = some q.2.2.2 ∧ w'.cell? ⟨g5, (m + 1) * 4, none⟩ = some (.int .i64 r.1.kind) ∧ w'.cell? ⟨g5, (m + 1) * 4 + 1, none⟩ = some r.2.1 ∧ w'.cell? ⟨g5, (m + 1) * 4 + 2, none⟩ = some r.2.2.1 ∧ w'.cell? ⟨g5, (m + 1) * 4 + 3, none⟩ = some r.2.2.2)
    (first | trivial | (refine ⟨?_, ?_, ?_, ?_, ?_, ?_, ?_, ?_⟩ <;> refine (Below.cell (w := wq) (B := wq.heap.size) ?_ hg2).trans (by assumption) <;> repeat (first | exact Below.refl _ _ | exact hB9 | refine Below.drew ?_ | refine bel_new ?_ _)))
    (first | (with_reducible refine is_append ?_; refine step_append_full _ rfl _ _ 45 rfl (w.heap.size + 1) 47 ip _ 4 80 Tryz.underlying45 hp0 hp1 hp2 hp3 rfl (by decide) g5 0 m (ps'.flatMap four) rfl (by rw [HPM.out.2, HPM.out.1]) (HXC.out _ (by repeat (first | exact Below.refl _ _ | refine Below.drew ?_ | refine bel_new ?_ _))) (wq.heap.size + 1) [.int .i64 6, .slice none 0 0, .slice none 0 0, .slice (some ⟨wq.heap.size, 0, none⟩) 2 2] rfl (cells_new (by simp)) rfl (by unfold maxLen; omega) (by omega) (by have := HQ2.out.lt; simp; omega) ?_; intro c9 w9 hown9 hb9; have hB9 : Below wq.heap.size wq w9 := bel_then (by repeat (first | exact Below.refl _ _ | refine Below.drew ?_ | refine bel_new ?_ _)) hb9))
  all_goals (
    have hS5 := HQ2.out.both (G9 := wq.heap.size + 1 + 1) (by repeat (first | exact Below.refl _ _ | refine Below.drew ?_ | refine bel_new ?_ _)) (by simp) (own_at hown9 (by simp)) (p := .mk 6 [] [] [q.1, r.1]) rfl hb9
      (kp_and (kp_and ((HQ2.out.own.keep q (by simp)).to (.of (by repeat (first | exact Below.refl _ _ | refine Below.drew ?_ | refine bel_new ?_ _)))) ((HQ2.out.own.keep r (by simp)).to (.of (by repeat (first | exact Below.refl _ _ | refine Below.drew ?_ | refine bel_new ?_ _)))) (fun w' h1 h2 => And.intro h1 h2)) (KP.block (b := wq.heap.size) (bel_get (w := wq.alloc _) (by repeat (first | exact Below.refl _ _ | refine Below.drew ?_ | refine bel_new ?_ _)) (heap_alloc_new wq _)) ⟨⟨.inl (by have := HQ2.out.lt; omega), by have := HQ2.out.lt; omega⟩, fun e => by simp [Value.ownBlock] at e; omega⟩) (fun w' h1 h2 => pt_two h1.1 h1.2 h2))
      (gp_two (.inr rfl) (HQ2.out.stk.good q.1 (by simp)) (HQ2.out.stk.good r.1 (by simp))) (by rw [deep_mk, deeps_cons, deeps_cons, deeps_nil]; omega) (by rw [size_mk, sizes_cons, sizes_cons, sizes_nil]; omega) (HQ2.out.pair hjl HKE.out ev1 (by decide) rfl)
    have HS5 := Lib.hid hS5
    clear hS5 hown9 hb9 hB9 w1 w2 w3 w4 w5
    go_wp2
    go_roundg g
    case measure => omega
    case rel => exact ⟨j + 1, some ⟨wq.heap.size + 1 + 1, 0, none⟩, m + 1, c9, _, by omega, by simp, rfl, HS5.out⟩)
end Go.Proofs.YtbanmggkfpnalaaGreatDoor
