/- gram: the checker's names. -/
import Derived.Test.YtkmnigoikkffnaaGCont
import Derived.Test.YtkmnigoikkffnaaKept
set_option linter.unusedVariables false
set_option linter.unusedSimpArgs false
namespace Go.Proofs.Ytkmnigoikkffnaa
open Go.RowKit Ru

/-- the first error of the names: behind those that were seen -/
def namesE (T : List TK) (kind : Int) : List ByteArray → List ByteArray → Option Int
  | _, [] => none
  | seen, x :: l => if findB T x < 0 ∨ memS seen x = true then some 4 else if (T[(findB T x).toNat]?.map (·.kind)) ≠ some kind then some 5 else namesE T kind (seen ++ [x]) l
theorem namesE_nil (T : List TK) (kind : Int) (seen : List ByteArray) : namesE T kind seen [] = none := rfl
theorem namesE_cons (T : List TK) (kind : Int) (seen : List ByteArray) (x : ByteArray) (l : List ByteArray) : namesE T kind seen (x :: l) = if findB T x < 0 ∨ memS seen x = true then some 4 else if (T[(findB T x).toNat]?.map (·.kind)) ≠ some kind then some 5 else namesE T kind (seen ++ [x]) l := rfl
theorem findB_lt {T : List TK} {s : ByteArray} (h : ¬ findB T s < 0) : ∃ i : Nat, findB T s = i ∧ i < T.length := by
  unfold findB at h ⊢
  cases hf : T.findIdx? (fun t => decide (t.name = s)) with
  | none => rw [hf] at h; simp at h
  | some i =>
    refine ⟨i, rfl, ?_⟩
    rw [List.findIdx?_eq_some_iff_getElem] at hf
    exact hf.1
/-- what the checker's parts say: none: as it was; an error: the panic -/
def GPost (r : Option Int) (a : Int) (w : World) (e : Ending) (w' : World) : Prop :=
  (match r with | none => e = .returned (.tuple #[]) | some c => e = gflt c a) ∧ Below w.heap.size w w'
abbrev chkV (tv rv : Value) (q : Nat) : Value := .agg #[tv, rv, needF q]
theorem elemStrs : Try.prog.elem 40 = 9 := by kernel_rfl
theorem undStrs : Try.prog.underlying 40 = some (.slice (Try.prog.elem 40)) := by rw [elemStrs]; exact Try.underlying40
theorem infoStr1 : ∃ i, Try.prog.info? 9 = some i ∧ i.zero = some (.string ⟨#[]⟩) ∧ i.size = 1 ∧ i.bytes = 16 := info_parts (by kernel_rfl)
theorem sizeStrs (w' : World) : (sizeOf (Try.prog.elem 40)).run Try.prog w' = .ok 1 w' := by
  obtain ⟨i0, hi, hz0, hz1, hz2⟩ := infoStr1
  rw [elemStrs]; simp [sizeOf, run_typeInfo _ hi, hz1, go_sem]
theorem cutS_h (o : Option Addr) (cap n : Nat) (cs : List Value) (hcs : cs.length = n) (k : Nat) (hk : k ≤ n) (hc : n ≤ cap) : ∃ o1 c1,
    (∀ w' : World, (Instr.sliceAt 40 (.slice o n cap) none (some (.int .i64 k)) none).run Try.prog w' = .ok (.slice o1 k c1) w') ∧
      ∀ w', Row w' (.slice o n cap) n cs → Row w' (.slice o1 k c1) k (cs.take k) := by
  have e1 : ((k : Int)).toNat = k := by simp
  refine ⟨(if cap = 0 then o else o.map (·.add (0 * 1))), cap - 0, fun w' => ?_, fun w' hr => ?_⟩
  · rw [run_sliceAt_slice _ _ _ _ _ _ undStrs, run_slice_h w' 40 o n cap undStrs .i64 (k : Int) (by omega) (by omega), sizeStrs]
    rw [Result.andThen_ok, e1]
    unfold Go.sliced
    rw [Nat.sub_zero k]
  · have h := hr.sliced hcs (Nat.zero_le k) hk
    unfold Go.sliced at h
    rw [Nat.sub_zero k, List.drop_zero] at h
    exact h
theorem strs_take (l : List ByteArray) (k : Nat) : (strs l).take k = strs (l.take k) := by simp [strs]
set_option maxHeartbeats 8000000 in
set_option maxRecDepth 100000 in
theorem gnames_any (T : List TK) (l : List ByteArray) (tv rv nv : Value) (kind a : Int) (q : Nat) (w : World) (hT : TksAre w tv T) (hTl : T.length ≤ 1000) (hrv : ∃ o n c, rv = .slice o n c) (hn : Row w nv l.length (strs l)) (hl : l.length ≤ 1000)
    (hq : w.heap[q]? = some (.cells #[.int .i64 a] 3 (0, 0))) :
    Calls Try.prog 58 #[chkV tv rv q, nv, .int .i64 kind] w (GPost (namesE T kind [] l) a w) := by
  obtain ⟨ot, ct, nm, kd, cl, rk, so, sn, sc, lo, ln, lc, rfl, hall⟩ := hT.all
  obtain ⟨o9, n9, c9, rfl⟩ := hrv
  have hn' := hn
  obtain ⟨on, cn, rfl, hcn, hcm, _⟩ := hn'
  have hfind := fun s w' (hb : Below w.heap.size w w') => gramFind_any T _ (.slice o9 n9 c9) s w' (hT.moved hb) hTl ⟨_, _, _, rfl⟩
  have HFD := Lib.hid hfind
  have HALL := Lib.hid hall
  have HN := Lib.hid hn
  have HQ := Lib.hid hq
  clear hfind hall hT hn hq
  go_enter Try.func58, Try.ntmps58
  go_wp2_with fail
  obtain ⟨W, hW⟩ : ∃ W, W = w.alloc (.cells #[.slice ot T.length ct, .slice o9 n9 c9, needF q] 66) := ⟨_, rfl⟩
  have hbW : Below w.heap.size w W := by rw [hW]; exact bel_new (Below.refl _ _) _
  have hBX : W.heap[w.heap.size]? = some (.cells #[.slice ot T.length ct, .slice o9 n9 c9, needF q] 66 (0, 0)) := by rw [hW]; exact heap_alloc_new w _
  unfold needF at hW
  rw [← hW]
  have H0 := Lib.hid (And.intro hbW hBX)
  clear hW hbW hBX
  go_loopg [11] l.length (fun g s wx => ∃ k : Nat, k + g = l.length ∧ s = .int .i64 k ∧ Below w.heap.size w wx ∧ wx.heap[w.heap.size]? = some (.cells #[.slice ot T.length ct, .slice o9 n9 c9, needF q] 66 (0, 0)) ∧ namesE T kind (l.take k) (l.drop k) = namesE T kind [] l)
  case atStart => exact ⟨0, by omega, rfl, H0.out.1, H0.out.2, by simp⟩
  case round =>
    obtain ⟨k, hkg, rfl, hbx, hbox, hne⟩ := hrel
    obtain ⟨wo, rfl⟩ : ∃ wo : World, wo = wr := ⟨_, rfl⟩
    cases gk with
    | zero =>
      obtain rfl : k = l.length := by omega
      have hd : decide ((l.length : Int) < (l.length : Int)) = false := by simp
      rw [List.drop_length, namesE_nil] at hne
      have HX := Lib.hid (And.intro hbx hne)
      clear hbx hne hbox
      go_wp2_with fail
      refine bodyPost_end (results_none rfl _ _ _) rfl ?_
      unfold GPost
      rw [← HX.out.2]
      exact ⟨rfl, HX.out.1⟩
    | succ g =>
      have hk : k < l.length := by omega
      have hd : decide ((k : Int) < (l.length : Int)) = true := by simp; omega
      have hk1 : (0 : Int) ≤ (k : Int) := by omega
      have hk2 : (k : Int) < (l.length : Int) := by omega
      have hk9 : (k : Int) ≤ 1000 := by omega
      obtain ⟨x, hx⟩ : ∃ x, l[k]? = some x := ⟨_, List.getElem?_eq_getElem hk⟩
      have hxe : l[k] = x := by rw [List.getElem?_eq_getElem hk] at hx; exact Option.some.inj hx
      obtain ⟨b, f, p, e, hlt, hc⟩ := HN.out.cells' (by omega)
      simp only [Value.slice.injEq, true_and] at e
      obtain ⟨rfl, rfl⟩ := e
      have c1 : wo.cell? ⟨b, f + k, none⟩ = some (.string x) := (hbx.cell hlt).trans (hc k _ (strs_get hx))
      rw [List.drop_eq_getElem_cons hk, hxe, namesE_cons] at hne
      have htk : l.take (k + 1) = l.take k ++ [x] := by rw [List.take_add_one, hx]; rfl
      have hbc : ∀ w', Below wo.heap.size wo w' → w'.cell? ⟨w.heap.size, 0, none⟩ = some (.slice ot T.length ct) ∧ w'.cell? ⟨w.heap.size, 1, none⟩ = some (.slice o9 n9 c9) ∧ w'.cell? ⟨w.heap.size, 2, none⟩ = some (.func (Fn.func 29) #[] #[.pointer (some ⟨q, 0, none⟩)]) := fun w' hb => by
        have := bel_get hb hbox
        simp [World.cell?, this]
      obtain ⟨b0, b1, b2⟩ := hbc wo (Below.refl _ _)
      have HBC := Lib.hid hbc
      have HX := Lib.hid (And.intro hbx (And.intro hbox (And.intro hne htk)))
      clear hbx hbox hne htk hbc hx hxe hc
      go_wp2_with fail
      refine (HFD.out x _ HX.out.1).mono ?_
      rintro e w2 ⟨rfl, hb2⟩
      obtain ⟨d0, d1, d2⟩ := HBC.out w2 hb2
      have HB2 := Lib.hid hb2
      have hq2 := bel_get (bel_then HX.out.1 hb2) HQ.out
      have HQ2 := Lib.hid hq2
      obtain ⟨fi, hfi⟩ : ∃ fi, fi = findB T x := ⟨_, rfl⟩
      rw [← hfi]
      have HFI := Lib.hid hfi
      clear hb2 hq2 b0 b1 b2 hfi
      obtain ⟨ι, K, hne, hkb, hks⟩ := kept_family wo
      have KB := Lib.hid hkb
      have KS := Lib.hid hks
      have k0 : ∀ i, (K i).cell? ⟨w.heap.size, 1, none⟩ = some (.slice o9 n9 c9) := fun i => (HBC.out _ (hkb i)).2.1
      have k1 : ∀ i, (K i).cell? ⟨w.heap.size, 2, none⟩ = some (.func (Fn.func 29) #[] #[.pointer (some ⟨q, 0, none⟩)]) := fun i => (HBC.out _ (hkb i)).2.2
      have kS := KS.out _ HB2.out.drew
      clear hkb hks
      by_cases hneg : fi < 0
      · have t1 : decide ((0 : Int) ≤ fi) = false := by simp; omega
        have HR := Lib.hid (show some 4 = namesE T kind [] l by rw [← HX.out.2.2.1, if_pos (.inl (by rw [← HFI.out]; exact hneg))])
        clear hneg
        go_wp2_with fail
        refine region_tail K 12 (by kernel_rfl) (by kernel_rfl) kS ?_
        simp only [List.take_succ_cons, List.take_zero, List.drop_succ_cons, List.drop_zero]
        repeat (go_big_quiet_step (fail))
        refine wpQuiet_nil ?_
        rintro _ ⟨iw, rfl⟩
        have HB4 := Lib.hid (bel_then HX.out.1 (KB.out iw))
        go_wp2_with fail
        refine (need_no q 4 a _ (bel_get HB4.out HQ.out)).mono ?_
        rintro e w3 ⟨rfl, rfl⟩
        go_wp2_with fail
        refine ⟨rfl, ?_⟩
        unfold GPost
        rw [← HR.out]
        exact ⟨rfl, HB4.out⟩
      · have t1 : decide ((0 : Int) ≤ fi) = true := by simp; omega
        obtain ⟨m, hm⟩ : ∃ m, m = memS (l.take k) x := ⟨_, rfl⟩
        obtain ⟨o1, c1', hcut, hcr⟩ := cutS_h (some ⟨b, f, none⟩) cn l.length (strs l) (strs_len l) k (by omega) hcn
        have hcon : ∀ i, Calls Try.prog 74 #[.slice o1 k c1', .string x] (K i) fun e w'' => e = .returned (.bool m) ∧ ∃ j, w'' = K j := fun i => by
          refine calls_same ?_
          rw [hm]
          have hrow := hcr _ (HN.out.below (bel_then HX.out.1 (KB.out i)))
          rw [strs_take] at hrow
          have hlen : (l.take k).length = k := by simp; omega
          exact containsS_any (l.take k) _ x (K i) (by rw [hlen]; exact hrow) (by omega)
        have HCON := Lib.hid hcon
        have HM := Lib.hid hm
        have HNEG := Lib.hid hneg
        have bn : fi < 2 ^ 40 := by
          obtain ⟨i, e, hi⟩ := findB_lt (T := T) (s := x) (by rw [← HFI.out]; exact hneg)
          rw [HFI.out, e]; omega
        clear hcon hm hneg hcr
        go_wp2_with fail
        refine region_tail K 12 (by kernel_rfl) (by kernel_rfl) kS ?_
        simp only [List.take_succ_cons, List.take_zero, List.drop_succ_cons, List.drop_zero]
        repeat (go_big_quiet_step (exact HCON.out _))
        refine wpQuiet_nil ?_
        rintro _ ⟨iw, rfl⟩
        have HB4 := Lib.hid (bel_then HX.out.1 (KB.out iw))
        cases m with
        | true =>
          have HR := Lib.hid (show some 4 = namesE T kind [] l by rw [← HX.out.2.2.1, if_pos (.inr HM.out.symm)])
          go_wp2_with fail
          refine (need_no q 4 a _ (bel_get HB4.out HQ.out)).mono ?_
          rintro e w3 ⟨rfl, rfl⟩
          go_wp2_with fail
          refine ⟨rfl, ?_⟩
          unfold GPost
          rw [← HR.out]
          exact ⟨rfl, HB4.out⟩
        | false =>
          go_wp2_with fail
          refine (need_ok q 4 _).mono ?_
          rintro e w3 ⟨rfl, rfl⟩
          obtain ⟨i, he, hi⟩ := findB_lt (T := T) (s := x) (by rw [← HFI.out]; have := HNEG.out; omega)
          obtain rfl : fi = (i : Int) := by rw [HFI.out, he]
          have hne3 := HX.out.2.2.1
          rw [if_neg (by intro h; rcases h with h | h; (rw [← HFI.out] at h; have := HNEG.out; omega); rw [← HM.out] at h; cases h), ← HFI.out, Int.toNat_natCast, List.getElem?_eq_getElem hi] at hne3
          have hall := HALL.out i _ (List.getElem?_eq_getElem hi)
          obtain ⟨e1, e2, e3, e4, er, tb, tf, hot, htb, g0, g1, g2, g3, g4, g5⟩ := hall
          have HNE3 := Lib.hid hne3
          have HE2 := Lib.hid e2
          obtain ⟨kdi, hkdi⟩ : ∃ kdi, kdi = kd i := ⟨_, rfl⟩
          have HKD := Lib.hid hkdi
          rw [← hkdi] at g1
          subst hot
          have i1 : (0 : Int) ≤ (i : Int) := by omega
          have i2 : (i : Int) < (T.length : Int) := by omega
          have i3 : (i : Int) ≤ 1000 := by omega
          have m1 : ∀ j, (K j).cell? ⟨tb, tf + i * 6 + 1, none⟩ = some (.int .i64 kdi) := fun j => ((bel_then HX.out.1 (KB.out j)).cell htb).trans g1
          have m0 : ∀ j, (K j).cell? ⟨w.heap.size, 0, none⟩ = some (.slice (some ⟨tb, tf, none⟩) T.length ct) := fun j => (HBC.out _ (KB.out j)).1
          have kS2 := KS.out _ (KB.out iw).drew
          clear hne3 e1 e2 e3 e4 er hkdi g0 g1 g2 g3 g4 g5 he
          go_wp2_with fail
          refine region_tail K 11 (by kernel_rfl) (by kernel_rfl) kS2 ?_
          simp only [List.take_succ_cons, List.take_zero, List.drop_succ_cons, List.drop_zero]
          repeat (go_big_quiet_step (fail))
          refine wpQuiet_nil ?_
          rintro _ ⟨iw2, rfl⟩
          have HB5 := Lib.hid (bel_then HX.out.1 (KB.out iw2))
          have HB6 := Lib.hid (KB.out iw2)
          by_cases hkk : kdi = kind
          · have d1 : (kdi == kind) = true := by simpa using hkk
            have HR := Lib.hid (show namesE T kind (l.take (k + 1)) (l.drop (k + 1)) = namesE T kind [] l by
              rw [HX.out.2.2.2, ← HNE3.out, if_neg (by simp only [Option.map_some, ne_eq, Option.some.injEq, Decidable.not_not]; rw [← HE2.out, ← HKD.out]; exact hkk)])
            clear hkk
            go_wp2_with fail
            refine (need_ok q 5 _).mono ?_
            rintro e w3 ⟨rfl, rfl⟩
            go_wp2_with fail
            go_roundg g
            case measure => omega
            case rel => exact ⟨k + 1, by omega, by go_num, HB5.out, bel_get HB6.out HX.out.2.1, HR.out⟩
          · have d1 : (kdi == kind) = false := by simpa using hkk
            have HR := Lib.hid (show some 5 = namesE T kind [] l by
              rw [← HNE3.out, if_pos (by simp only [Option.map_some, ne_eq, Option.some.injEq]; rw [← HE2.out, ← HKD.out]; exact hkk)])
            clear hkk
            go_wp2_with fail
            refine (need_no q 5 a _ (bel_get HB5.out HQ.out)).mono ?_
            rintro e w3 ⟨rfl, rfl⟩
            go_wp2_with fail
            refine ⟨rfl, ?_⟩
            unfold GPost
            rw [← HR.out]
            exact ⟨rfl, HB5.out⟩
end Go.Proofs.Ytkmnigoikkffnaa
