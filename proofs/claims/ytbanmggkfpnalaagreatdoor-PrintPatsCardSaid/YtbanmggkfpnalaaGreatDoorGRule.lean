/- gram: the checker's rule. -/
import Derived.Test.YtbanmggkfpnalaaGreatDoorGPat
set_option linter.unusedVariables false
set_option linter.unusedSimpArgs false
namespace Go.Proofs.YtbanmggkfpnalaaGreatDoor
open Go.RowKit Ru

/-- the first error of a step, behind its calls' number -/
def stepE (T : List TK) (first : Bool) (s : ST) : Option Int := if (decide (s.calls.length = 0) == first) = false then some 5 else orE (namesE T 1 [] s.calls) (if s.p.fitsB = false then some 6 else patE T s.p)
def stepsE (T : List TK) (free : Bool) : Nat → List ST → Option Int
  | _, [] => none
  | i, s :: l => orE (stepE T (decide (i = 0) && !free) s) (stepsE T free (i + 1) l)
theorem stepsE_nil (T : List TK) (free : Bool) (i : Nat) : stepsE T free i [] = none := rfl
theorem stepsE_cons (T : List TK) (free : Bool) (i : Nat) (s : ST) (l : List ST) : stepsE T free i (s :: l) = orE (stepE T (decide (i = 0) && !free) s) (stepsE T free (i + 1) l) := rfl
/-- the first error of a rule -/
def ruleE (T : List TK) (r : RU) : Option Int := if ¬ ((0 ≤ r.cls ∧ r.cls ≤ 31) ∧ 1 ≤ r.steps.length ∧ r.steps.length ≤ 4) then some 6 else stepsE T r.free 0 r.steps
theorem StsAre.form {w : World} {v : Value} {l : List ST} (h : StsAre w v l) : ∃ o c, v = .slice o l.length c := by
  obtain ⟨ps, h1, ⟨o, c, h2, _⟩, _⟩ := h; exact ⟨o, c, h2⟩
theorem StsAre.get {w : World} {v : Value} {l : List ST} (h : StsAre w v l) {i : Nat} {s : ST} (hs : l[i]? = some s) :
    ∃ b off cap co cc no nc eo ec lo lc, v = .slice (some ⟨b, off, none⟩) l.length cap ∧ b < w.heap.size ∧ Row w (.slice co s.calls.length cc) s.calls.length (strs s.calls) ∧ PtIs w s.p (.slice no s.p.names.length nc) (.slice eo s.p.ends.length ec) (.slice lo s.p.parts.length lc) ∧
      w.cell? ⟨b, off + i * 5, none⟩ = some (.slice co s.calls.length cc) ∧ w.cell? ⟨b, off + i * 5 + 1, none⟩ = some (.int .i64 s.p.kind) ∧ w.cell? ⟨b, off + i * 5 + 2, none⟩ = some (.slice no s.p.names.length nc) ∧ w.cell? ⟨b, off + i * 5 + 3, none⟩ = some (.slice eo s.p.ends.length ec) ∧ w.cell? ⟨b, off + i * 5 + 4, none⟩ = some (.slice lo s.p.parts.length lc) := by
  obtain ⟨ps, rfl, hrow, hall⟩ := h
  rw [List.getElem?_map] at hs
  obtain ⟨p, hp, rfl⟩ := Option.map_eq_some_iff.1 hs
  have hi : i < ps.length := (List.getElem?_eq_some_iff.1 hp).1
  obtain ⟨b, off, cap, e, hb, hc⟩ := hrow.cells' (by simp; omega)
  obtain ⟨h1, h2⟩ := hall i p hp
  have h1' := h1
  obtain ⟨co, cc, e1, _⟩ := h1'
  obtain ⟨⟨x1, y1, e2⟩, ⟨x2, y2, e3⟩, ⟨x3, y3, e4⟩⟩ := h2.form
  have hget : ∀ j u, (five p)[j]? = some u → j < 5 → w.cell? ⟨b, off + (i * 5 + j), none⟩ = some u := fun j u hu hj => hc _ _ (by rw [fm_get five 5 (fun _ => rfl) ps i j p hp hj]; exact hu)
  refine ⟨b, off, cap, co, cc, x1, y1, x2, y2, x3, y3, e, hb, by rw [← e1]; exact h1, by rw [← e2, ← e3, ← e4]; exact h2, ?_, ?_, ?_, ?_, ?_⟩
  · rw [← e1]; exact hget 0 _ rfl (by omega)
  · rw [Nat.add_assoc]; exact hget 1 _ rfl (by omega)
  · rw [Nat.add_assoc, ← e2]; exact hget 2 _ rfl (by omega)
  · rw [Nat.add_assoc, ← e3]; exact hget 3 _ rfl (by omega)
  · rw [Nat.add_assoc, ← e4]; exact hget 4 _ rfl (by omega)
/-- numbers that a machine holds -/
def SFit (l : List ST) : Prop := ∀ (i : Nat) (s : ST), l[i]? = some s → s.calls.length ≤ 1000 ∧ s.p.Fit
set_option maxHeartbeats 8000000 in
set_option maxRecDepth 100000 in
theorem grule_any (w : World) (T : List TK) (tv rv sv : Value) (a : Int) (q : Nat) (r : RU) (E : GEnv w T tv rv a q) (hs : StsAre w sv r.steps) (hsl : r.steps.length ≤ 1000) (hsf : SFit r.steps) :
    Calls Tryz.prog 71 #[chkV tv rv q, .agg #[.int .i64 r.cls, .bool r.free, sv]] w (GPost (ruleE T r) a w) := by
  obtain ⟨o2, q2, rfl⟩ := hs.form
  obtain ⟨o7, c7, nm7, kd7, cl7, rk7, so7, sn7, sc7, lo7, ln7, lc7, rfl, -⟩ := E.hT.all
  obtain ⟨o9, n9, c9, rfl⟩ := E.hrv
  obtain ⟨P, hP⟩ : ∃ P, P = ruleE T r := ⟨_, rfl⟩
  obtain ⟨cc, fr, ss⟩ := r
  simp only at hs hsl hsf hP ⊢
  obtain ⟨b1, hb1⟩ : ∃ b, b = decide (0 ≤ cc ∧ cc ≤ 31) := ⟨_, rfl⟩
  have hPe : P = if b1 = true ∧ 1 ≤ ss.length ∧ ss.length ≤ 4 then stepsE T fr 0 ss else some 6 := by
    rw [hP, hb1]; unfold ruleE; simp only [decide_eq_true_eq]
    by_cases h : ((0 ≤ cc ∧ cc ≤ 31) ∧ 1 ≤ ss.length ∧ ss.length ≤ 4)
    · rw [if_neg (fun k => k h), if_pos h]
    · rw [if_pos h, if_neg h]
  rw [← hP]
  have hcls := fun w' => gClass_any cc w'
  rw [← hb1] at hcls
  have HCL := Lib.hid hcls
  have HPE := Lib.hid hPe
  have HS := Lib.hid hs
  have HSF := Lib.hid hsf
  have HE := Lib.hid E
  have HQ := Lib.hid E.hq
  clear hP hb1 hPe hcls hs hsf E
  go_enter Tryz.func71, Tryz.ntmps71
  go_wp2_with fail
  obtain ⟨W, hW⟩ : ∃ W, W = (w.alloc (.cells #[.slice o7 T.length c7, .slice o9 n9 c9, needF q] 105)).alloc (.cells #[.int .i64 cc, .bool fr, .slice o2 ss.length q2] 64) := ⟨_, rfl⟩
  have hbW : Below w.heap.size w W := by rw [hW]; exact bel_new (bel_new (Below.refl _ _) _) _
  have hB0 : W.heap[w.heap.size]? = some (.cells #[.slice o7 T.length c7, .slice o9 n9 c9, needF q] 105 (0, 0)) := by
    rw [hW]; exact bel_get (bel_new (Below.refl _ _) _) (heap_alloc_new w _)
  have hB1 : W.heap[w.heap.size + 1]? = some (.cells #[.int .i64 cc, .bool fr, .slice o2 ss.length q2] 64 (0, 0)) := by
    rw [hW]
    have := heap_alloc_new (w.alloc (.cells #[.slice o7 T.length c7, .slice o9 n9 c9, needF q] 105)) (.cells #[.int .i64 cc, .bool fr, .slice o2 ss.length q2] 64)
    simpa using this
  unfold needF at hW
  rw [← hW]
  have BW := Lib.hid hbW
  obtain ⟨ι, K, hne, hkb, hks⟩ := kept_family W
  have KB := Lib.hid hkb
  have KS := Lib.hid hks
  have kc : ∀ w', Below W.heap.size W w' → w'.cell? ⟨w.heap.size, 0, none⟩ = some (.slice o7 T.length c7) ∧ w'.cell? ⟨w.heap.size, 1, none⟩ = some (.slice o9 n9 c9) ∧ w'.cell? ⟨w.heap.size, 2, none⟩ = some (.func (Fn.func 69) #[] #[.pointer (some ⟨q, 0, none⟩)]) := fun w' hb => by
    have := bel_get hb hB0
    simp [World.cell?, this]
  have kt : ∀ w', Below W.heap.size W w' → w'.cell? ⟨w.heap.size + 1, 0, none⟩ = some (.int .i64 cc) ∧ w'.cell? ⟨w.heap.size + 1, 1, none⟩ = some (.bool fr) ∧ w'.cell? ⟨w.heap.size + 1, 2, none⟩ = some (.slice o2 ss.length q2) := fun w' hb => by
    have := bel_get hb hB1
    simp [World.cell?, this]
  have k0 := fun i => (kc _ (hkb i)).1
  have k1 := fun i => (kc _ (hkb i)).2.1
  have k2 := fun i => (kc _ (hkb i)).2.2
  have k3 := fun i => (kt _ (hkb i)).1
  have k4 := fun i => (kt _ (hkb i)).2.1
  have k5 := fun i => (kt _ (hkb i)).2.2
  have hcs : ∀ i, Calls Tryz.prog 102 #[.int .i64 cc] (K i) fun e w'' => e = .returned (.bool b1) ∧ ∃ j, w'' = K j := fun i => calls_same ((HCL.out (K i)).mono fun e w' h => ⟨h.1, h.2.symm⟩)
  have HCS := Lib.hid hcs
  have HKC := Lib.hid kc
  have HKT := Lib.hid kt
  have kS := hks _ (Below.refl W.heap.size W).drew
  clear hcs HCL hW hbW hB0 hB1 hkb hks kc kt
  cases b1 with
  | false =>
    refine region_tail K 17 (by kernel_rfl) (by kernel_rfl) kS ?_
    simp only [List.take_succ_cons, List.take_zero, List.drop_succ_cons, List.drop_zero]
    repeat (go_big_quiet_step (exact HCS.out _))
    refine wpQuiet_nil ?_
    rintro _ ⟨iw, rfl⟩
    have HB := Lib.hid (bel_then BW.out (KB.out iw))
    have HR := Lib.hid (show some 6 = P by rw [HPE.out]; simp)
    go_wp2_with fail
    refine (need_no q 6 a _ (bel_get HB.out HQ.out)).mono ?_
    rintro e w3 ⟨rfl, rfl⟩
    go_wp2_with fail
    refine ⟨rfl, ?_⟩
    unfold GPost
    rw [← HR.out]
    exact ⟨rfl, HB.out⟩
  | true =>
    by_cases hn1 : 1 ≤ ss.length
    · have d1 : decide ((1 : Int) ≤ (ss.length : Int)) = true := by simp; omega
      by_cases hn4 : ss.length ≤ 4
      · have d4 : decide ((ss.length : Int) ≤ (4 : Int)) = true := by simp; omega
        have HPF := Lib.hid (show P = stepsE T fr 0 ss by rw [HPE.out, if_pos ⟨rfl, hn1, hn4⟩])
        clear HPE
        refine region_tail K 17 (by kernel_rfl) (by kernel_rfl) kS ?_
        simp only [List.take_succ_cons, List.take_zero, List.drop_succ_cons, List.drop_zero]
        repeat (go_big_quiet_step (exact HCS.out _))
        refine wpQuiet_nil ?_
        rintro _ ⟨iw, rfl⟩
        have HB := Lib.hid (bel_then BW.out (KB.out iw))
        go_wp2_with fail
        refine (need_ok q 6 _).mono ?_
        rintro e w3 ⟨rfl, rfl⟩
        go_wp2_with fail
        clear HB d1 d4 hn1 hn4
        go_loopg [28] ss.length (fun g s wx => ∃ (kk : Nat) (j : ι), kk + g = ss.length ∧ s = .int .i64 kk ∧ wx = K j ∧ P = stepsE T fr kk (ss.drop kk))
        case atStart => exact ⟨0, _, by omega, rfl, rfl, HPF.out⟩
        case round =>
          obtain ⟨kk, j, hkg, rfl, rfl, hpp⟩ := hrel
          cases gk with
          | zero =>
            obtain rfl : kk = ss.length := by omega
            have hd : decide ((ss.length : Int) < (ss.length : Int)) = false := by simp
            rw [List.drop_length, stepsE_nil] at hpp
            have HX := Lib.hid hpp
            clear hpp
            have HB := Lib.hid (bel_then BW.out (KB.out j))
            go_wp2_with fail
            refine bodyPost_end (results_none rfl _ _ _) rfl ?_
            unfold GPost
            rw [HX.out]
            exact ⟨rfl, HB.out⟩
          | succ g =>
            have hk : kk < ss.length := by omega
            have hd : decide ((kk : Int) < (ss.length : Int)) = true := by simp; omega
            have hk1 : (0 : Int) ≤ (kk : Int) := by omega
            have hk2 : (kk : Int) < (ss.length : Int) := by omega
            have hk9 : (kk : Int) ≤ 1000 := by omega
            obtain ⟨s, hse⟩ : ∃ e, ss[kk]? = some e := ⟨_, List.getElem?_eq_getElem hk⟩
            have hxe : ss[kk] = s := by rw [List.getElem?_eq_getElem hk] at hse; exact Option.some.inj hse
            rw [List.drop_eq_getElem_cons hk, hxe, stepsE_cons] at hpp
            have hsf := HSF.out kk s hse
            obtain ⟨b, off, cap, co, cq, no, nc, eo, ec, lo, lc, e, hlt, hrow, hpt, g0, g1, g2, g3, g4⟩ := HS.out.get hse
            simp only [Value.slice.injEq, true_and] at e
            obtain ⟨rfl, rfl⟩ := e
            have m0 : (K j).cell? ⟨b, off + kk * 5, none⟩ = some (.slice co s.calls.length cq) := ((bel_then BW.out (KB.out j)).cell hlt).trans g0
            have m1 : (K j).cell? ⟨b, off + kk * 5 + 1, none⟩ = some (.int .i64 s.p.kind) := ((bel_then BW.out (KB.out j)).cell hlt).trans g1
            have m2 : (K j).cell? ⟨b, off + kk * 5 + 2, none⟩ = some (.slice no s.p.names.length nc) := ((bel_then BW.out (KB.out j)).cell hlt).trans g2
            have m3 : (K j).cell? ⟨b, off + kk * 5 + 3, none⟩ = some (.slice eo s.p.ends.length ec) := ((bel_then BW.out (KB.out j)).cell hlt).trans g3
            have m4 : (K j).cell? ⟨b, off + kk * 5 + 4, none⟩ = some (.slice lo s.p.parts.length lc) := ((bel_then BW.out (KB.out j)).cell hlt).trans g4
            have z0 : w.heap.size < (K j).heap.size := by
              have h := k0 j
              simp only [World.cell?] at h
              by_cases hh : w.heap.size < (K j).heap.size
              · exact hh
              · rw [Array.getElem?_eq_none (by omega)] at h; simp at h
            have z1 : w.heap.size + 1 < (K j).heap.size := by
              have h := k3 j
              simp only [World.cell?] at h
              by_cases hh : w.heap.size + 1 < (K j).heap.size
              · exact hh
              · rw [Array.getElem?_eq_none (by omega)] at h; simp at h
            obtain ⟨nl, hnl⟩ : ∃ n, n = s.calls.length := ⟨_, rfl⟩
            obtain ⟨pk, hpk⟩ : ∃ n, n = s.p.kind := ⟨_, rfl⟩
            obtain ⟨pn, hpn⟩ : ∃ n, n = s.p.names.length := ⟨_, rfl⟩
            obtain ⟨pe, hpe⟩ : ∃ n, n = s.p.ends.length := ⟨_, rfl⟩
            obtain ⟨pl, hpl⟩ : ∃ n, n = s.p.parts.length := ⟨_, rfl⟩
            rw [← hnl] at m0
            rw [← hpk] at m1
            rw [← hpn] at m2
            rw [← hpe] at m3
            rw [← hpl] at m4
            obtain ⟨W2, hW2⟩ : ∃ W2, W2 = (K j).alloc (.cells #[.slice co nl cq, .int .i64 pk, .slice no pn nc, .slice eo pe ec, .slice lo pl lc] 66) := ⟨_, rfl⟩
            have hb2 : Below W.heap.size W W2 := by rw [hW2]; exact bel_new (KB.out j) _
            have hB2 : W2.heap[(K j).heap.size]? = some (.cells #[.slice co nl cq, .int .i64 pk, .slice no pn nc, .slice eo pe ec, .slice lo pl lc] 66 (0, 0)) := by rw [hW2]; exact heap_alloc_new (K j) _
            obtain ⟨p2, hp2⟩ : ∃ p, p = (K j).heap.size := ⟨_, rfl⟩
            obtain ⟨ι2, K2, hne2, hkb2, hks2⟩ := kept_family W2
            have hk12 : ∀ i, Below W.heap.size W (K2 i) := fun i => bel_then hb2 (hkb2 i)
            have n0 := fun i => (HKC.out _ (hk12 i)).1
            have n1 := fun i => (HKC.out _ (hk12 i)).2.1
            have n2 := fun i => (HKC.out _ (hk12 i)).2.2
            have n3 := fun i => (HKT.out _ (hk12 i)).1
            have n4 := fun i => (HKT.out _ (hk12 i)).2.1
            have n5 := fun i => (HKT.out _ (hk12 i)).2.2
            rw [← hp2] at hB2
            have ks : ∀ i, (K2 i).cell? ⟨p2, 0, none⟩ = some (.slice co nl cq) ∧ (K2 i).cell? ⟨p2, 1, none⟩ = some (.int .i64 pk) ∧ (K2 i).cell? ⟨p2, 2, none⟩ = some (.slice no pn nc) ∧ (K2 i).cell? ⟨p2, 3, none⟩ = some (.slice eo pe ec) ∧ (K2 i).cell? ⟨p2, 4, none⟩ = some (.slice lo pl lc) := fun i => by
              have := bel_get (hkb2 i) hB2
              simp [World.cell?, this]
            have n6 := fun i => (ks i).1
            have n7 := fun i => (ks i).2.1
            have n8 := fun i => (ks i).2.2.1
            have n9' := fun i => (ks i).2.2.2.1
            have n10 := fun i => (ks i).2.2.2.2
            obtain ⟨r1, hr1⟩ : ∃ r, r = namesE T 1 [] s.calls := ⟨_, rfl⟩
            obtain ⟨b2, hb2'⟩ : ∃ r, r = s.p.fitsB := ⟨_, rfl⟩
            obtain ⟨r2, hr2⟩ : ∃ r, r = patE T s.p := ⟨_, rfl⟩
            obtain ⟨fst, hfst⟩ : ∃ b, b = (decide (kk = 0) && !fr) := ⟨_, rfl⟩
            obtain ⟨b3, hb3⟩ : ∃ b, b = (decide (s.calls.length = 0) == fst) := ⟨_, rfl⟩
            have hbel : ∀ i, Below w.heap.size w (K2 i) := fun i => bel_then BW.out (hk12 i)
            have hc1 : ∀ i, Calls Tryz.prog 104 #[chkV (.slice o7 T.length c7) (.slice o9 n9 c9) q, .slice co nl cq, .int .i64 1] (K2 i) (GPost r1 a (K2 i)) := fun i => by
              rw [hr1, hnl]; exact gnames_env (HE.out.moved (hbel i)) s.calls _ 1 (hrow.below (hbel i)) hsf.1
            have hc2 : ∀ i, Calls Tryz.prog 105 #[.agg #[.int .i64 pk, .slice no pn nc, .slice eo pe ec, .slice lo pl lc]] (K2 i) fun e w'' => e = .returned (.bool b2) ∧ ∃ j, w'' = K2 j := fun i => by
              rw [hb2', hpk, hpn, hpe, hpl]; exact calls_kept hkb2 hks2 (fits_any s.p _ _ _ (K2 i) (hpt.moved (hbel i)) hsf.2)
            have hc3 : ∀ i, Calls Tryz.prog 106 #[chkV (.slice o7 T.length c7) (.slice o9 n9 c9) q, .agg #[.int .i64 pk, .slice no pn nc, .slice eo pe ec, .slice lo pl lc]] (K2 i) (GPost r2 a (K2 i)) := fun i => by
              rw [hr2, hpk, hpn, hpe, hpl]; exact gpat_all w T _ _ a q HE.out s.p.size s.p _ _ _ (K2 i) (Nat.le_refl _) hsf.2 (hpt.moved (hbel i)) (hbel i)
            have hp3 : b3 = false → some 5 = P := fun h => by rw [hpp]; unfold stepE; rw [← hfst, ← hb3, if_pos h]; rfl
            have hp4 : b3 = true → ∀ c, r1 = some c → some c = P := fun h c h1 => by rw [hpp]; unfold stepE; rw [← hfst, ← hb3, if_neg (by rw [h]; simp), ← hr1, h1]; rfl
            have hp5 : b3 = true → r1 = none → b2 = false → some 6 = P := fun h h1 h2 => by rw [hpp]; unfold stepE; rw [← hfst, ← hb3, if_neg (by rw [h]; simp), ← hr1, h1, ← hb2', if_pos h2]; rfl
            have hp6 : b3 = true → r1 = none → b2 = true → ∀ c, r2 = some c → some c = P := fun h h1 h2 c h3 => by rw [hpp]; unfold stepE; rw [← hfst, ← hb3, if_neg (by rw [h]; simp), ← hr1, h1, ← hb2', if_neg (by rw [h2]; simp), ← hr2, h3]; rfl
            have hp7 : b3 = true → r1 = none → b2 = true → r2 = none → P = stepsE T fr (kk + 1) (ss.drop (kk + 1)) := fun h h1 h2 h3 => by rw [hpp]; unfold stepE; rw [← hfst, ← hb3, if_neg (by rw [h]; simp), ← hr1, h1, ← hb2', if_neg (by rw [h2]; simp), ← hr2, h3]; rfl
            have hn0 : ((nl : Int) == 0) = decide (s.calls.length = 0) := by
              rw [← hnl]; by_cases h : nl = 0
              · subst h; rfl
              · have : ((nl : Int) == 0) = false := by simp; omega
                rw [this]; simp [h]
            have hkf : (kk = 0 ∧ ((kk : Int) == 0) = true ∧ fst = !fr) ∨ (kk ≠ 0 ∧ ((kk : Int) == 0) = false ∧ fst = false) := by
              by_cases h : kk = 0
              · left; refine ⟨h, by simp [h], by rw [hfst]; simp [h]⟩
              · right; refine ⟨h, by simp; omega, by rw [hfst]; simp [h]⟩
            have hn00 : (((nl : Int) == 0) == fst) = b3 := by rw [hb3, hn0]
            have HC1 := Lib.hid hc1
            have HC2 := Lib.hid hc2
            have HC3 := Lib.hid hc3
            have HP3 := Lib.hid hp3
            have HP4 := Lib.hid hp4
            have HP5 := Lib.hid hp5
            have HP6 := Lib.hid hp6
            have HP7 := Lib.hid hp7
            have KB2 := Lib.hid hkb2
            have KS2 := Lib.hid hks2
            have BW2 := Lib.hid (bel_then BW.out hb2)
            have HB2 := Lib.hid hb2
            have HBEL := Lib.hid hbel
            have HKF := Lib.hid hkf
            have HN0 := Lib.hid hn00
            have HW2 := Lib.hid hW2
            have kS := hks2 _ (Below.refl W2.heap.size W2)
            have HP2 := Lib.hid hp2
            have HW3 := Lib.hid hW2
            clear hc1 hc2 hc3 hp3 hp4 hp5 hp6 hp7 hkb2 hks2 hb2 hB2 hbel hkf hn00 hk12 ks hr1 hb2' hr2 hfst hb3 hn0 hpp hxe hse hsf g0 g1 g2 g3 g4 hrow hpt hnl hpk hpn hpe hpl hW2 hp2
            obtain ⟨X, hX⟩ : ∃ X : Bool, X = (((nl : Int) == 0) == fst) := ⟨_, rfl⟩
            have hXb : X = b3 := hX.trans HN0.out
            have HXB := Lib.hid hXb
            clear hXb
            have hkd : ∃ Y : Bool, Y = X ∧ ((kk = 0 ∧ ((kk : Int) == 0) = true ∧ (((nl : Int) == 0) == !fr) = Y) ∨ (kk ≠ 0 ∧ ((kk : Int) == 0) = false ∧ (!((nl : Int) == 0)) = Y)) := by
              refine ⟨X, rfl, ?_⟩
              rcases HKF.out with ⟨h0, d0, hf0⟩ | ⟨h0, d0, hf0⟩
              · left; exact ⟨h0, d0, by rw [hX, hf0]⟩
              · right; exact ⟨h0, d0, by rw [hX, hf0]; cases ((nl : Int) == 0) <;> rfl⟩
            clear hX
            obtain ⟨Y, rfl, ⟨hk0, d0, hx⟩ | ⟨hk0, d0, hx⟩⟩ := hkd
            all_goals
              have HXX := Lib.hid hx
              clear hk0 hx
              go_wp2_with fail
              rw [HXX.out, ← HW2.out, ← HP2.out]
              have HB := Lib.hid BW2.out
              refine (need_any q _ 5 a _ (bel_get HB.out HQ.out)).mono ?_
              rintro e w3 ⟨⟨hxt, rfl⟩ | ⟨hxt, rfl⟩, rfl⟩
              · have HXT := Lib.hid (HXB.out.symm.trans hxt)
                clear hxt
                obtain ⟨iw, hiw⟩ := kS
                rw [hiw]
                go_wp2_with fail
                refine (HC1.out iw).mono ?_
                intro e w3 hg
                unfold GPost at hg
                cases r1 with
                | some cd =>
                  obtain ⟨rfl, hb⟩ := hg
                  have HB3 := Lib.hid (bel_then (HBEL.out iw) hb)
                  clear hb
                  have HR := Lib.hid (HP4.out HXT.out cd rfl)
                  go_wp2_with fail
                  refine ⟨rfl, ?_⟩
                  unfold GPost
                  rw [← HR.out]
                  exact ⟨rfl, HB3.out⟩
                | none =>
                  obtain ⟨rfl, hb⟩ := hg
                  obtain ⟨iw2, rfl⟩ := KS2.out _ (bel_then (KB2.out iw) hb)
                  clear hb
                  have kS2 := KS2.out _ (KB2.out iw2).drew
                  go_wp2_with fail
                  refine region_tail K2 5 (by kernel_rfl) (by kernel_rfl) kS2 ?_
                  simp only [List.take_succ_cons, List.take_zero, List.drop_succ_cons, List.drop_zero]
                  repeat (go_big_quiet_step (exact HC2.out _))
                  refine wpQuiet_nil ?_
                  rintro _ ⟨iw3, rfl⟩
                  cases b2 with
                  | false =>
                    have HR := Lib.hid (HP5.out HXT.out (by first | exact trivial | rfl) (by first | exact trivial | rfl))
                    go_wp2_with fail
                    refine (need_no q 6 a _ (bel_get (HBEL.out iw3) HQ.out)).mono ?_
                    rintro e w3 ⟨rfl, rfl⟩
                    go_wp2_with fail
                    refine ⟨rfl, ?_⟩
                    unfold GPost
                    rw [← HR.out]
                    exact ⟨rfl, HBEL.out iw3⟩
                  | true =>
                    go_wp2_with fail
                    refine (need_ok q 6 _).mono ?_
                    rintro e w3 ⟨rfl, rfl⟩
                    go_wp2_with fail
                    refine (HC3.out iw3).mono ?_
                    intro e w3 hg
                    unfold GPost at hg
                    cases r2 with
                    | some cd =>
                      obtain ⟨rfl, hb⟩ := hg
                      have HB3 := Lib.hid (bel_then (HBEL.out iw3) hb)
                      clear hb
                      have HR := Lib.hid (HP6.out HXT.out (by first | exact trivial | rfl) (by first | exact trivial | rfl) cd (by first | exact trivial | rfl))
                      go_wp2_with fail
                      refine ⟨rfl, ?_⟩
                      unfold GPost
                      rw [← HR.out]
                      exact ⟨rfl, HB3.out⟩
                    | none =>
                      obtain ⟨rfl, hb⟩ := hg
                      obtain ⟨j2, hj2⟩ := KS.out _ (bel_then (bel_then HB2.out (KB2.out iw3)) hb)
                      have HR := Lib.hid (HP7.out HXT.out (by first | exact trivial | rfl) (by first | exact trivial | rfl) (by first | exact trivial | rfl))
                      subst hj2
                      clear hb
                      go_wp2_with fail
                      go_roundg g
                      case measure => omega
                      case rel => exact ⟨kk + 1, j2, by omega, by go_num, rfl, HR.out⟩
              · have HR := Lib.hid (HP3.out (HXB.out.symm.trans hxt))
                clear hxt
                go_wp2_with fail
                refine ⟨rfl, ?_⟩
                unfold GPost
                rw [← HR.out]
                exact ⟨rfl, HB.out⟩
      · have d4 : decide ((ss.length : Int) ≤ (4 : Int)) = false := by simp; omega
        have HPF := Lib.hid (show P = some 6 by rw [HPE.out, if_neg (by omega)])
        clear HPE
        refine region_tail K 17 (by kernel_rfl) (by kernel_rfl) kS ?_
        simp only [List.take_succ_cons, List.take_zero, List.drop_succ_cons, List.drop_zero]
        repeat (go_big_quiet_step (exact HCS.out _))
        refine wpQuiet_nil ?_
        rintro _ ⟨iw, rfl⟩
        have HB := Lib.hid (bel_then BW.out (KB.out iw))
        have HR := Lib.hid (show some 6 = P by rw [HPF.out])
        go_wp2_with fail
        refine (need_no q 6 a _ (bel_get HB.out HQ.out)).mono ?_
        rintro e w3 ⟨rfl, rfl⟩
        go_wp2_with fail
        refine ⟨rfl, ?_⟩
        unfold GPost
        rw [← HR.out]
        exact ⟨rfl, HB.out⟩
    · have d1 : decide ((1 : Int) ≤ (ss.length : Int)) = false := by simp; omega
      have HPF := Lib.hid (show P = some 6 by rw [HPE.out, if_neg (by omega)])
      clear HPE
      refine region_tail K 17 (by kernel_rfl) (by kernel_rfl) kS ?_
      simp only [List.take_succ_cons, List.take_zero, List.drop_succ_cons, List.drop_zero]
      repeat (go_big_quiet_step (exact HCS.out _))
      refine wpQuiet_nil ?_
      rintro _ ⟨iw, rfl⟩
      have HB := Lib.hid (bel_then BW.out (KB.out iw))
      have HR := Lib.hid (show some 6 = P by rw [HPF.out])
      go_wp2_with fail
      refine (need_no q 6 a _ (bel_get HB.out HQ.out)).mono ?_
      rintro e w3 ⟨rfl, rfl⟩
      go_wp2_with fail
      refine ⟨rfl, ?_⟩
      unfold GPost
      rw [← HR.out]
      exact ⟨rfl, HB.out⟩
end Go.Proofs.YtbanmggkfpnalaaGreatDoor
