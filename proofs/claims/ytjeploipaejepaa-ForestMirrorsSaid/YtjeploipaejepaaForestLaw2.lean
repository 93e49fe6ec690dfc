/- The walk of ForestFronts. -/
import Derived.Test.YtjeploipaejepaaForestLaw1
set_option linter.unusedVariables false
set_option linter.unusedSimpArgs false
namespace Go.Proofs.Ytjeploipaejepaa
open Go.RowKit Fo

theorem u64_mod' (a : Int) (m : Nat) (hm : 0 < m) (hm2 : m ≤ 1048576) : ∃ i : Nat, i < m ∧ (IntKind.u64.wrap a).tmod (m : Int) = (i : Int) := by
  have h0 : 0 ≤ IntKind.u64.wrap a := by unfold IntKind.wrap; simp [IntKind.bits, IntKind.signed]; omega
  have h1 := Int.tmod_nonneg (m : Int) h0
  have h2 := Int.tmod_lt_of_pos (IntKind.u64.wrap a) (show (0 : Int) < (m : Int) by omega)
  exact ⟨((IntKind.u64.wrap a).tmod (m : Int)).toNat, by omega, by omega⟩

/-- 'l[:k]' as a fact for a walk -/
theorem cut_syms (o : Option Addr) (cap : Nat) (l : List (Int × Int)) (k : Nat) (hk : k ≤ l.length) (hc : l.length ≤ cap) : ∃ o1 c1,
    (∀ w' : World, (Instr.sliceAt 45 (.slice o l.length cap) none (some (.int .i64 k)) none).run Try.prog w' = .ok (.slice o1 k c1) w') ∧
      ∀ w', Syms w' (.slice o l.length cap) l → Syms w' (.slice o1 k c1) (l.take k) := by
  obtain ⟨i0, hi, hz0, hz1, hz2⟩ := infoSym
  refine ⟨(if cap = 0 then o else o.map (·.add (0 * 2))), cap - 0, fun w' => ?_, fun w' hr => ?_⟩
  · have hsz : (sizeOf (Try.prog.elem 45)).run Try.prog w' = .ok 2 w' := by
      rw [elemSyms]; simp [sizeOf, run_typeInfo _ hi, hz1, go_sem]
    rw [run_sliceAt_slice _ _ _ _ _ _ undSyms, run_slice_h w' 45 o l.length cap undSyms .i64 (k : Int) (by omega) (by omega), hsz]
    simp only [Result.andThen_ok, Go.sliced]
    have e1 : ((k : Int)).toNat = k := by simp
    rw [e1, Nat.sub_zero k]
  · have h := Row.slicedS hr (by rw [flat_len]) (Nat.zero_le k) hk
    simp only [Go.sliced, Nat.sub_zero, Nat.zero_mul, List.drop_zero] at h
    refine Syms.cut (v := .slice o l.length cap) hk ?_
    simpa using h

/-- the partners within a front -/
theorem take_prs (l : List (Int × Int)) (k : Nat) (hk : k ≤ l.length) : prsRow (l.take k) = (List.range k).map fun j => Value.int .i64 (prs (kns l) k j) := by
  have hl : (l.take k).length = k := by simp; omega
  unfold prsRow
  rw [hl, (fo_congr (ks := kns (l.take k)) (ls := kns l) k fun j hj => by simp [kns, List.getD, hj]).2]
theorem take_dp (l : List (Int × Int)) (k : Nat) (hk : k ≤ l.length) : dp (kns (l.take k)) (l.take k).length = dp (kns l) k := by
  have hl : (l.take k).length = k := by simp; omega
  rw [hl]
  exact dp_congr k fun j hj => by simp [kns, List.getD, hj]

set_option maxHeartbeats 2000000 in
set_option maxRecDepth 1000000 in
theorem forestFronts_walk (l : List (Int × Int)) (v : Value) (a : Int) (w : World) (hr : Syms w v l) (ha : (Lit.int .i64 a).wf = true) :
    Calls Try.prog 10 #[v, .int .i64 a] w fun e w' => e = .returned (.bool true) ∧ Below w.heap.size w w' := by
  clear ha
  obtain ⟨ov, cv, rfl⟩ := hr.slice
  by_cases hl : 80 < l.length
  · have hm := hr.le
    go_enter Try.func10, Try.ntmps10
    go_wp2_with (go_at_call 25; refine (told15_any _).mono ?_; rintro e w1 ⟨rfl, hb1⟩)
    go_ret
    exact ⟨rfl, by repeat (first | exact Below.refl _ _ | assumption | (refine Below.drew ?_) | (refine below_drewN ?_ _) | (refine bel_new ?_ _) | (refine bel_then ?_ (by assumption)))⟩
  have hl80 : l.length ≤ 80 := by omega
  have hn : l.length ≤ 100000 := by omega
  have hcap : l.length ≤ cv := by obtain ⟨o', c', e, h, _⟩ := hr; simp only [Value.slice.injEq] at e; omega
  have hmx := hr.le
  clear hl
  obtain ⟨k, hk, ek'⟩ := u64_mod' a (1 + l.length) (by omega) (by omega)
  have ek1 : (IntKind.u64.wrap a).tmod (1 + (l.length : Int)) = (k : Int) := by rw [← ek']; congr 1
  have ek2 : (IntKind.u64.wrap a).tmod ((l.length : Int) + 1) = (k : Int) := by rw [← ek1, Int.add_comm]
  clear ek'
  have hkl : k ≤ l.length := by omega
  obtain ⟨o1, c1, hcut, hcutS⟩ := cut_syms ov cv l k hkl hcap
  have hlt : (l.take k).length = k := by simp; omega
  have HS := Lib.hid hcutS
  have HT := Lib.hid hlt
  clear hcutS hlt
  go_enter Try.func10, Try.ntmps10
  go_wp2_with fail
  go_region_held3 (fun w' => True)
    (first | trivial | go_keep)
    (first
     | (go_at_call 28; refine (pairs_any (l.take k) (.slice o1 k c1) _ (HS.out _ (hr.below hB1)) (by have := HT.out; omega)).mono ?_; rintro e w2 ⟨u2, rfl, hown2, hb2⟩; have hB2 : Below w.heap.size w w2 := bel_then hB1 hb2; have hown1' := owns_below hown1 hb2)
     | (go_at_call 28; refine (pairs_any l (.slice ov l.length cv) _ (hr.below ((Below.refl _ _).drew)) hn).mono ?_; rintro e w1 ⟨u1, rfl, hown1, hb1⟩; have hB1 : Below w.heap.size w w1 := bel_then ((Below.refl _ _).drew) hb1))
  rw [take_prs l k hkl, HT.out] at hown2
  obtain ⟨ou1, cu1, rfl⟩ := owns_slice hown1'
  obtain ⟨ou2, cu2, rfl⟩ := owns_slice hown2
  obtain ⟨_, _, e1, _, _, hrow1⟩ := Row.owned hown1'
  obtain ⟨_, _, e2, _, _, hrow2⟩ := Row.owned hown2
  simp only [Value.slice.injEq, true_and] at e1 e2
  obtain ⟨rfl, rfl⟩ := e1
  obtain ⟨rfl, rfl⟩ := e2
  have H1 := Lib.hid hrow1
  have H2 := Lib.hid hrow2
  clear hown1 hb1 hB1 hown2 hb2 hown1' hrow1 hrow2
  go_wp2_with fail
  go_loopw [8] (fun i wr => ∃ j : Nat, j ≤ k ∧ i = .int .i64 j ∧ wr = w2) (fun i _ => k - (intOf i).toNat)
  case atStart => exact ⟨0, Nat.zero_le _, rfl, rfl⟩
  case round =>
    obtain ⟨j, hj, rfl, rfl⟩ := hrel
    by_cases hjk : j < k
    · rcases H1.out with ⟨h0, _⟩ | ⟨b1, off1, rfl, hlt1, hcell1⟩
      · omega
      rcases H2.out with ⟨h0, _⟩ | ⟨b2, off2, rfl, hlt2, hcell2⟩
      · omega
      have c1' := hcell1 _ _ (prsRow_get l j (by omega))
      have c2' : wr.cell? ⟨b2, off2 + j, none⟩ = some (.int .i64 (prs (kns l) k j)) := hcell2 _ _ (by simp [hjk])
      have hfr := prs_front (kns l) j k l.length hjk hkl
      obtain ⟨x, hx⟩ : ∃ x, x = prs (kns l) l.length j := ⟨_, rfl⟩
      obtain ⟨y, hy⟩ : ∃ x, x = prs (kns l) k j := ⟨_, rfl⟩
      rw [← hx] at c1' hfr
      rw [← hy] at c2' hfr
      clear hcell1 hcell2 hx hy
      by_cases hge : (k : Int) ≤ x
      · rw [if_pos hge] at hfr
        subst hfr
        go_wp2
        go_roundw
        case rel => exact ⟨j + 1, by omega, by go_num, trivial⟩
        case measure => simp [intOf] <;> omega
      · rw [if_neg hge] at hfr
        subst hfr
        go_wp2
        go_roundw
        case rel => exact ⟨j + 1, by omega, by go_num, trivial⟩
        case measure => simp [intOf] <;> omega
    · have hjk2 : j = k := by omega
      subst hjk2
      go_wp2_with fail
      refine (told15_any _).mono ?_
      rintro e w3 ⟨rfl, hb3⟩
      have hB3 : Below w.heap.size w w3 := bel_then hB2 hb3
      clear hb3
      go_wp2_with fail
      refine (deep_any (l.take j) _ _ (HS.out _ (hr.below hB3)) (by have := HT.out; omega)).mono ?_
      rintro e w4 ⟨rfl, hb4⟩
      rw [take_dp l j hkl]
      have hB4 : Below w.heap.size w w4 := bel_then hB3 hb4
      have hmono := dp_mono (kns l) j l.length hkl
      have hdl := dp_le (kns l) l.length
      obtain ⟨x, hx⟩ : ∃ x, x = dp (kns l) j := ⟨_, rfl⟩
      obtain ⟨y, hy⟩ : ∃ x, x = dp (kns l) l.length := ⟨_, rfl⟩
      rw [← hx, ← hy] at hmono
      rw [← hy] at hdl
      rw [← hx]
      have HX := Lib.hid hy
      clear hb4 hB3 hx hy
      go_wp2_with fail
      refine (deep_any l _ _ (hr.below hB4) hn).mono ?_
      rintro e w5 ⟨rfl, hb5⟩
      rw [← HX.out]
      have hB5 : Below w.heap.size w w5 := bel_then hB4 hb5
      clear hb5 hB4
      go_wp2_with fail
      refine (well_any [] _ _ (Row.nil _) (by simp)).mono ?_
      rintro e w6 ⟨rfl, hb6⟩
      rw [show wellB [] = true from by decide]
      have hB6 : Below w.heap.size w w6 := bel_then hB5 hb6
      clear hb6 hB5
      go_wp2
      go_ret
      exact ⟨rfl, hB6⟩
end Go.Proofs.Ytjeploipaejepaa
