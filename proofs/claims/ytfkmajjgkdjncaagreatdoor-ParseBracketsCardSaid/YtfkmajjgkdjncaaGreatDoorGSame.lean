/- Merged. -/
import Derived.Test.YtfkmajjgkdjncaaGreatDoorGPat
import Derived.Defers
set_option linter.unusedVariables false
set_option linter.unusedSimpArgs false
set_option maxHeartbeats 8000000
set_option maxRecDepth 100000
namespace Go.Proofs.YtfkmajjgkdjncaaGreatDoor
open Go.RowKit Ru
def stepE (T : List TK) (first : Bool) (s : ST) : Option Int := if (decide (s.calls.length = 0) == first) = false then some 5 else orE (namesE T 1 [] s.calls) (if s.p.fitsB = false then some 6 else patE T s.p)
def stepsE (T : List TK) (free : Bool) : Nat → List ST → Option Int
 | _, [] => none
 | i, s :: l => orE (stepE T (decide (i = 0) && !free) s) (stepsE T free (i + 1) l)
theorem stepsE_nil (T : List TK) (free : Bool) (i : Nat) : stepsE T free i [] = none := rfl
theorem stepsE_cons (T : List TK) (free : Bool) (i : Nat) (s : ST) (l : List ST) : stepsE T free i (s :: l) = orE (stepE T (decide (i = 0) && !free) s) (stepsE T free (i + 1) l) := rfl
def ruleE (T : List TK) (r : RU) : Option Int := if ¬ ((0 ≤ r.cls ∧ r.cls ≤ 31) ∧ 1 ≤ r.steps.length ∧ r.steps.length ≤ 4) then some 6 else stepsE T r.free 0 r.steps
theorem StsAre.form {w : World} {v : Value} {l : List ST} (h : StsAre w v l) : ∃ o c, v = .slice o l.length c := by
 obtain ⟨ps, h1, ⟨o, c, h2, _⟩, _⟩ := h; exact ⟨o, c, h2⟩
theorem StsAre.get {w : World} {v : Value} {l : List ST} (h : StsAre w v l) {i : Nat} {s : ST} (hs : l[i]? = some s) :
 ∃ b off cap co cc no nc eo ec lo lc, v = .slice (some ⟨b, off, none⟩) l.length cap ∧ b < w.heap.size ∧ Row w (.slice co s.calls.length cc) s.calls.length (strs s.calls) ∧ PtIs w s.p (.slice no s.p.names.length nc) (.slice eo s.p.ends.length ec) (.slice lo s.p.parts.length lc) ∧
  w.cell? ⟨b, off + i * 5, none⟩ = some (.slice co s.calls.length cc) ∧ w.cell? ⟨b, off + i * 5 + 1, none⟩ = some (.int .i64 s.p.kind) ∧ w.cell? ⟨b, off + i * 5 + 2, none⟩ = some (.slice no s.p.names.length nc) ∧ w.cell? ⟨b, off + i * 5 + 3, none⟩ = some (.slice eo s.p.ends.length ec) ∧ w.cell? ⟨b, off + i * 5 + 4, none⟩ = some (.slice lo s.p.parts.length lc) := by
 obtain ⟨ps, rfl, hrow, hall⟩ := h
 rw [List.getElem?_map] at hs
 obtain ⟨p, hp, rfl⟩ := Option.map_eq_some_iff.1 hs
 have hi : i < ps.length := (List.getElem?_eq_some_iff.1 hp).1
 obtain ⟨b, off, cap, e, hb, hc⟩ := hrow.cells' (by simp; omega)
 obtain ⟨h1, h2⟩ := hall i p hp
 have h1' := h1
 obtain ⟨co, cc, e1, _⟩ := h1'
 obtain ⟨⟨x1, y1, e2⟩, ⟨x2, y2, e3⟩, ⟨x3, y3, e4⟩⟩ := h2.form
 have hget : ∀ j u, (five p)[j]? = some u → j < 5 → w.cell? ⟨b, off + (i * 5 + j), none⟩ = some u := fun j u hu hj => hc _ _ (by rw [fm_get five 5 (fun _ => rfl) ps i j p hp hj]; exact hu)
 refine ⟨b, off, cap, co, cc, x1, y1, x2, y2, x3, y3, e, hb, by rw [← e1]; exact h1, by rw [← e2, ← e3, ← e4]; exact h2, ?_, ?_, ?_, ?_, ?_⟩
 · rw [← e1]; exact hget 0 _ rfl (by omega)
 · rw [Nat.add_assoc]; exact hget 1 _ rfl (by omega)
 · rw [Nat.add_assoc, ← e2]; exact hget 2 _ rfl (by omega)
 · rw [Nat.add_assoc, ← e3]; exact hget 3 _ rfl (by omega)
 · rw [Nat.add_assoc, ← e4]; exact hget 4 _ rfl (by omega)
def SFit (l : List ST) : Prop := ∀ (i : Nat) (s : ST), l[i]? = some s → s.calls.length ≤ 1000 ∧ s.p.Fit
theorem grule_any (w : World) (T : List TK) (tv rv sv : Value) (a : Int) (q : Nat) (r : RU) (E : GEnv w T tv rv a q) (hs : StsAre w sv r.steps) (hsl : r.steps.length ≤ 1000) (hsf : SFit r.steps) :
 Calls Tryz.prog 62 #[chkV tv rv q, .agg #[.int .i64 r.cls, .bool r.free, sv]] w (GPost (ruleE T r) a w) := by
 obtain ⟨o2, q2, rfl⟩ := hs.form
 obtain ⟨o7, c7, nm7, kd7, cl7, rk7, so7, sn7, sc7, lo7, ln7, lc7, rfl, -⟩ := E.hT.all
 obtain ⟨o9, n9, c9, rfl⟩ := E.hrv
 obtain ⟨P, hP⟩ : ∃ P, P = ruleE T r := ⟨_, rfl⟩
 obtain ⟨cc, fr, ss⟩ := r
 simp only at hs hsl hsf hP ⊢
 obtain ⟨b1, hb1⟩ : ∃ b, b = decide (0 ≤ cc ∧ cc ≤ 31) := ⟨_, rfl⟩
 have hPe : P = if b1 = true ∧ 1 ≤ ss.length ∧ ss.length ≤ 4 then stepsE T fr 0 ss else some 6 := by
  rw [hP, hb1]; unfold ruleE; simp only [decide_eq_true_eq]
  by_cases h : ((0 ≤ cc ∧ cc ≤ 31) ∧ 1 ≤ ss.length ∧ ss.length ≤ 4)
  · rw [if_neg (fun k => k h), if_pos h]
  · rw [if_pos h, if_neg h]
 rw [← hP]
 have hcls := fun w' => gClass_any cc w'
 rw [← hb1] at hcls
 have HCL := Lib.hid hcls
 have HPE := Lib.hid hPe
 have HS := Lib.hid hs
 have HSF := Lib.hid hsf
 have HE := Lib.hid E
 have HQ := Lib.hid E.hq
 clear hP hb1 hPe hcls hs hsf E
 go_enter Tryz.func62, Tryz.ntmps62
 go_wp2_with fail
 obtain ⟨W, hW⟩ : ∃ W, W = (w.alloc (.cells #[.slice o7 T.length c7, .slice o9 n9 c9, needF q] 119)).alloc (.cells #[.int .i64 cc, .bool fr, .slice o2 ss.length q2] 63) := ⟨_, rfl⟩
 have hbW : Below w.heap.size w W := by rw [hW]; exact bel_new (bel_new (Below.refl _ _) _) _
 have hB0 : W.heap[w.heap.size]? = some (.cells #[.slice o7 T.length c7, .slice o9 n9 c9, needF q] 119 (0, 0)) := by
  rw [hW]; exact bel_get (bel_new (Below.refl _ _) _) (heap_alloc_new w _)
 have hB1 : W.heap[w.heap.size + 1]? = some (.cells #[.int .i64 cc, .bool fr, .slice o2 ss.length q2] 63 (0, 0)) := by
  rw [hW]
  have := heap_alloc_new (w.alloc (.cells #[.slice o7 T.length c7, .slice o9 n9 c9, needF q] 119)) (.cells #[.int .i64 cc, .bool fr, .slice o2 ss.length q2] 63)
  simpa using this
 unfold needF at hW
 rw [← hW]
 have BW := Lib.hid hbW
 obtain ⟨ι, K, hne, hkb, hks⟩ := kept_family W
 have KB := Lib.hid hkb
 have KS := Lib.hid hks
 have kc : ∀ w', Below W.heap.size W w' → w'.cell? ⟨w.heap.size, 0, none⟩ = some (.slice o7 T.length c7) ∧ w'.cell? ⟨w.heap.size, 1, none⟩ = some (.slice o9 n9 c9) ∧ w'.cell? ⟨w.heap.size, 2, none⟩ = some (.func (Fn.func 60) #[] #[.pointer (some ⟨q, 0, none⟩)]) := fun w' hb => by
  have := bel_get hb hB0
  simp [World.cell?, this]
 have kt : ∀ w', Below W.heap.size W w' → w'.cell? ⟨w.heap.size + 1, 0, none⟩ = some (.int .i64 cc) ∧ w'.cell? ⟨w.heap.size + 1, 1, none⟩ = some (.bool fr) ∧ w'.cell? ⟨w.heap.size + 1, 2, none⟩ = some (.slice o2 ss.length q2) := fun w' hb => by
  have := bel_get hb hB1
  simp [World.cell?, this]
 have k0 := fun i => (kc _ (hkb i)).1
 have k1 := fun i => (kc _ (hkb i)).2.1
 have k2 := fun i => (kc _ (hkb i)).2.2
 have k3 := fun i => (kt _ (hkb i)).1
 have k4 := fun i => (kt _ (hkb i)).2.1
 have k5 := fun i => (kt _ (hkb i)).2.2
 have hcs : ∀ i, Calls Tryz.prog 98 #[.int .i64 cc] (K i) fun e w'' => e = .returned (.bool b1) ∧ ∃ j, w'' = K j := fun i => calls_same ((HCL.out (K i)).mono fun e w' h => ⟨h.1, h.2.symm⟩)
 have HCS := Lib.hid hcs
 have HKC := Lib.hid kc
 have HKT := Lib.hid kt
 have kS := hks _ (Below.refl W.heap.size W).drew
 clear hcs HCL hW hbW hB0 hB1 hkb hks kc kt
 cases b1 with
 | false =>
  refine region_tail K 17 (by kernel_rfl) (by kernel_rfl) kS ?_
  simp only [List.take_succ_cons, List.take_zero, List.drop_succ_cons, List.drop_zero]
  repeat (go_big_quiet_step (exact HCS.out _))
  refine wpQuiet_nil ?_
  rintro _ ⟨iw, rfl⟩
  have HB := Lib.hid (bel_then BW.out (KB.out iw))
  have HR := Lib.hid (show some 6 = P by rw [HPE.out]; simp)
  go_wp2_with fail
  refine (need_no q 6 a _ (bel_get HB.out HQ.out)).mono ?_
  rintro e w3 ⟨rfl, rfl⟩
  go_wp2_with fail
  refine ⟨rfl, ?_⟩
  unfold GPost
  rw [← HR.out]
  exact ⟨rfl, HB.out⟩
 | true =>
  by_cases hn1 : 1 ≤ ss.length
  · have d1 : decide ((1 : Int) ≤ (ss.length : Int)) = true := by simp; omega
    by_cases hn4 : ss.length ≤ 4
    · have d4 : decide ((ss.length : Int) ≤ (4 : Int)) = true := by simp; omega
      have HPF := Lib.hid (show P = stepsE T fr 0 ss by rw [HPE.out, if_pos ⟨rfl, hn1, hn4⟩])
      clear HPE
      refine region_tail K 17 (by kernel_rfl) (by kernel_rfl) kS ?_
      simp only [List.take_succ_cons, List.take_zero, List.drop_succ_cons, List.drop_zero]
      repeat (go_big_quiet_step (exact HCS.out _))
      refine wpQuiet_nil ?_
      rintro _ ⟨iw, rfl⟩
      have HB := Lib.hid (bel_then BW.out (KB.out iw))
      go_wp2_with fail
      refine (need_ok q 6 _).mono ?_
      rintro e w3 ⟨rfl, rfl⟩
      go_wp2_with fail
      clear HB d1 d4 hn1 hn4
      go_loopg [28] ss.length (fun g s wx => ∃ (kk : Nat) (j : ι), kk + g = ss.length ∧ s = .int .i64 kk ∧ wx = K j ∧ P = stepsE T fr kk (ss.drop kk))
      case atStart => exact ⟨0, _, by omega, rfl, rfl, HPF.out⟩
      case round =>
       obtain ⟨kk, j, hkg, rfl, rfl, hpp⟩ := hrel
       cases gk with
       | zero =>
        obtain rfl : kk = ss.length := by omega
        have hd : decide ((ss.length : Int) < (ss.length : Int)) = false := by simp
        rw [List.drop_length, stepsE_nil] at hpp
        have HX := Lib.hid hpp
        clear hpp
        have HB := Lib.hid (bel_then BW.out (KB.out j))
        go_wp2_with fail
        refine bodyPost_end (results_none rfl _ _ _) rfl ?_
        unfold GPost
        rw [HX.out]
        exact ⟨rfl, HB.out⟩
       | succ g =>
        have hk : kk < ss.length := by omega
        have hd : decide ((kk : Int) < (ss.length : Int)) = true := by simp; omega
        have hk1 : (0 : Int) ≤ (kk : Int) := by omega
        have hk2 : (kk : Int) < (ss.length : Int) := by omega
        have hk9 : (kk : Int) ≤ 1000 := by omega
        obtain ⟨s, hse⟩ : ∃ e, ss[kk]? = some e := ⟨_, List.getElem?_eq_getElem hk⟩
        have hxe : ss[kk] = s := by rw [List.getElem?_eq_getElem hk] at hse; exact Option.some.inj hse
        rw [List.drop_eq_getElem_cons hk, hxe, stepsE_cons] at hpp
        have hsf := HSF.out kk s hse
        obtain ⟨b, off, cap, co, cq, no, nc, eo, ec, lo, lc, e, hlt, hrow, hpt, g0, g1, g2, g3, g4⟩ := HS.out.get hse
        simp only [Value.slice.injEq, true_and] at e
        obtain ⟨rfl, rfl⟩ := e
        have m0 : (K j).cell? ⟨b, off + kk * 5, none⟩ = some (.slice co s.calls.length cq) := ((bel_then BW.out (KB.out j)).cell hlt).trans g0
        have m1 : (K j).cell? ⟨b, off + kk * 5 + 1, none⟩ = some (.int .i64 s.p.kind) := ((bel_then BW.out (KB.out j)).cell hlt).trans g1
        have m2 : (K j).cell? ⟨b, off + kk * 5 + 2, none⟩ = some (.slice no s.p.names.length nc) := ((bel_then BW.out (KB.out j)).cell hlt).trans g2
        have m3 : (K j).cell? ⟨b, off + kk * 5 + 3, none⟩ = some (.slice eo s.p.ends.length ec) := ((bel_then BW.out (KB.out j)).cell hlt).trans g3
        have m4 : (K j).cell? ⟨b, off + kk * 5 + 4, none⟩ = some (.slice lo s.p.parts.length lc) := ((bel_then BW.out (KB.out j)).cell hlt).trans g4
        have z0 : w.heap.size < (K j).heap.size := by
         have h := k0 j
         simp only [World.cell?] at h
         by_cases hh : w.heap.size < (K j).heap.size
         · exact hh
         · rw [Array.getElem?_eq_none (by omega)] at h; simp at h
        have z1 : w.heap.size + 1 < (K j).heap.size := by
         have h := k3 j
         simp only [World.cell?] at h
         by_cases hh : w.heap.size + 1 < (K j).heap.size
         · exact hh
         · rw [Array.getElem?_eq_none (by omega)] at h; simp at h
        obtain ⟨nl, hnl⟩ : ∃ n, n = s.calls.length := ⟨_, rfl⟩
        obtain ⟨pk, hpk⟩ : ∃ n, n = s.p.kind := ⟨_, rfl⟩
        obtain ⟨pn, hpn⟩ : ∃ n, n = s.p.names.length := ⟨_, rfl⟩
        obtain ⟨pe, hpe⟩ : ∃ n, n = s.p.ends.length := ⟨_, rfl⟩
        obtain ⟨pl, hpl⟩ : ∃ n, n = s.p.parts.length := ⟨_, rfl⟩
        rw [← hnl] at m0
        rw [← hpk] at m1
        rw [← hpn] at m2
        rw [← hpe] at m3
        rw [← hpl] at m4
        obtain ⟨W2, hW2⟩ : ∃ W2, W2 = (K j).alloc (.cells #[.slice co nl cq, .int .i64 pk, .slice no pn nc, .slice eo pe ec, .slice lo pl lc] 60) := ⟨_, rfl⟩
        have hb2 : Below W.heap.size W W2 := by rw [hW2]; exact bel_new (KB.out j) _
        have hB2 : W2.heap[(K j).heap.size]? = some (.cells #[.slice co nl cq, .int .i64 pk, .slice no pn nc, .slice eo pe ec, .slice lo pl lc] 60 (0, 0)) := by rw [hW2]; exact heap_alloc_new (K j) _
        obtain ⟨p2, hp2⟩ : ∃ p, p = (K j).heap.size := ⟨_, rfl⟩
        obtain ⟨ι2, K2, hne2, hkb2, hks2⟩ := kept_family W2
        have hk12 : ∀ i, Below W.heap.size W (K2 i) := fun i => bel_then hb2 (hkb2 i)
        have n0 := fun i => (HKC.out _ (hk12 i)).1
        have n1 := fun i => (HKC.out _ (hk12 i)).2.1
        have n2 := fun i => (HKC.out _ (hk12 i)).2.2
        have n3 := fun i => (HKT.out _ (hk12 i)).1
        have n4 := fun i => (HKT.out _ (hk12 i)).2.1
        have n5 := fun i => (HKT.out _ (hk12 i)).2.2
        rw [← hp2] at hB2
        have ks : ∀ i, (K2 i).cell? ⟨p2, 0, none⟩ = some (.slice co nl cq) ∧ (K2 i).cell? ⟨p2, 1, none⟩ = some (.int .i64 pk) ∧ (K2 i).cell? ⟨p2, 2, none⟩ = some (.slice no pn nc) ∧ (K2 i).cell? ⟨p2, 3, none⟩ = some (.slice eo pe ec) ∧ (K2 i).cell? ⟨p2, 4, none⟩ = some (.slice lo pl lc) := fun i => by
         have := bel_get (hkb2 i) hB2
         simp [World.cell?, this]
        have n6 := fun i => (ks i).1
        have n7 := fun i => (ks i).2.1
        have n8 := fun i => (ks i).2.2.1
        have n9' := fun i => (ks i).2.2.2.1
        have n10 := fun i => (ks i).2.2.2.2
        obtain ⟨r1, hr1⟩ : ∃ r, r = namesE T 1 [] s.calls := ⟨_, rfl⟩
        obtain ⟨b2, hb2'⟩ : ∃ r, r = s.p.fitsB := ⟨_, rfl⟩
        obtain ⟨r2, hr2⟩ : ∃ r, r = patE T s.p := ⟨_, rfl⟩
        obtain ⟨fst, hfst⟩ : ∃ b, b = (decide (kk = 0) && !fr) := ⟨_, rfl⟩
        obtain ⟨b3, hb3⟩ : ∃ b, b = (decide (s.calls.length = 0) == fst) := ⟨_, rfl⟩
        have hbel : ∀ i, Below w.heap.size w (K2 i) := fun i => bel_then BW.out (hk12 i)
        have hc1 : ∀ i, Calls Tryz.prog 101 #[chkV (.slice o7 T.length c7) (.slice o9 n9 c9) q, .slice co nl cq, .int .i64 1] (K2 i) (GPost r1 a (K2 i)) := fun i => by
         rw [hr1, hnl]; exact gnames_env (HE.out.moved (hbel i)) s.calls _ 1 (hrow.below (hbel i)) hsf.1
        have hc2 : ∀ i, Calls Tryz.prog 102 #[.agg #[.int .i64 pk, .slice no pn nc, .slice eo pe ec, .slice lo pl lc]] (K2 i) fun e w'' => e = .returned (.bool b2) ∧ ∃ j, w'' = K2 j := fun i => by
         rw [hb2', hpk, hpn, hpe, hpl]; exact calls_kept hkb2 hks2 (fits_any s.p _ _ _ (K2 i) (hpt.moved (hbel i)) hsf.2)
        have hc3 : ∀ i, Calls Tryz.prog 103 #[chkV (.slice o7 T.length c7) (.slice o9 n9 c9) q, .agg #[.int .i64 pk, .slice no pn nc, .slice eo pe ec, .slice lo pl lc]] (K2 i) (GPost r2 a (K2 i)) := fun i => by
         rw [hr2, hpk, hpn, hpe, hpl]; exact gpat_all w T _ _ a q HE.out s.p.size s.p _ _ _ (K2 i) (Nat.le_refl _) hsf.2 (hpt.moved (hbel i)) (hbel i)
        have hp3 : b3 = false → some 5 = P := fun h => by rw [hpp]; unfold stepE; rw [← hfst, ← hb3, if_pos h]; rfl
        have hp4 : b3 = true → ∀ c, r1 = some c → some c = P := fun h c h1 => by rw [hpp]; unfold stepE; rw [← hfst, ← hb3, if_neg (by rw [h]; simp), ← hr1, h1]; rfl
        have hp5 : b3 = true → r1 = none → b2 = false → some 6 = P := fun h h1 h2 => by rw [hpp]; unfold stepE; rw [← hfst, ← hb3, if_neg (by rw [h]; simp), ← hr1, h1, ← hb2', if_pos h2]; rfl
        have hp6 : b3 = true → r1 = none → b2 = true → ∀ c, r2 = some c → some c = P := fun h h1 h2 c h3 => by rw [hpp]; unfold stepE; rw [← hfst, ← hb3, if_neg (by rw [h]; simp), ← hr1, h1, ← hb2', if_neg (by rw [h2]; simp), ← hr2, h3]; rfl
        have hp7 : b3 = true → r1 = none → b2 = true → r2 = none → P = stepsE T fr (kk + 1) (ss.drop (kk + 1)) := fun h h1 h2 h3 => by rw [hpp]; unfold stepE; rw [← hfst, ← hb3, if_neg (by rw [h]; simp), ← hr1, h1, ← hb2', if_neg (by rw [h2]; simp), ← hr2, h3]; rfl
        have hn0 : ((nl : Int) == 0) = decide (s.calls.length = 0) := by
         rw [← hnl]; by_cases h : nl = 0
         · subst h; rfl
         · have : ((nl : Int) == 0) = false := by simp; omega
           rw [this]; simp [h]
        have hkf : (kk = 0 ∧ ((kk : Int) == 0) = true ∧ fst = !fr) ∨ (kk ≠ 0 ∧ ((kk : Int) == 0) = false ∧ fst = false) := by
         by_cases h : kk = 0
         · left; refine ⟨h, by simp [h], by rw [hfst]; simp [h]⟩
         · right; refine ⟨h, by simp; omega, by rw [hfst]; simp [h]⟩
        have hn00 : (((nl : Int) == 0) == fst) = b3 := by rw [hb3, hn0]
        have HC1 := Lib.hid hc1
        have HC2 := Lib.hid hc2
        have HC3 := Lib.hid hc3
        have HP3 := Lib.hid hp3
        have HP4 := Lib.hid hp4
        have HP5 := Lib.hid hp5
        have HP6 := Lib.hid hp6
        have HP7 := Lib.hid hp7
        have KB2 := Lib.hid hkb2
        have KS2 := Lib.hid hks2
        have BW2 := Lib.hid (bel_then BW.out hb2)
        have HB2 := Lib.hid hb2
        have HBEL := Lib.hid hbel
        have HKF := Lib.hid hkf
        have HN0 := Lib.hid hn00
        have HW2 := Lib.hid hW2
        have kS := hks2 _ (Below.refl W2.heap.size W2)
        have HP2 := Lib.hid hp2
        have HW3 := Lib.hid hW2
        clear hc1 hc2 hc3 hp3 hp4 hp5 hp6 hp7 hkb2 hks2 hb2 hB2 hbel hkf hn00 hk12 ks hr1 hb2' hr2 hfst hb3 hn0 hpp hxe hse hsf g0 g1 g2 g3 g4 hrow hpt hnl hpk hpn hpe hpl hW2 hp2
        obtain ⟨X, hX⟩ : ∃ X : Bool, X = (((nl : Int) == 0) == fst) := ⟨_, rfl⟩
        have hXb : X = b3 := hX.trans HN0.out
        have HXB := Lib.hid hXb
        clear hXb
        have hkd : ∃ Y : Bool, Y = X ∧ ((kk = 0 ∧ ((kk : Int) == 0) = true ∧ (((nl : Int) == 0) == !fr) = Y) ∨ (kk ≠ 0 ∧ ((kk : Int) == 0) = false ∧ (!((nl : Int) == 0)) = Y)) := by
         refine ⟨X, rfl, ?_⟩
         rcases HKF.out with ⟨h0, d0, hf0⟩ | ⟨h0, d0, hf0⟩
         · left; exact ⟨h0, d0, by rw [hX, hf0]⟩
         · right; exact ⟨h0, d0, by rw [hX, hf0]; cases ((nl : Int) == 0) <;> rfl⟩
        clear hX
        obtain ⟨Y, rfl, ⟨hk0, d0, hx⟩ | ⟨hk0, d0, hx⟩⟩ := hkd
        all_goals
         have HXX := Lib.hid hx
         clear hk0 hx
         go_wp2_with fail
         rw [HXX.out, ← HW2.out, ← HP2.out]
         have HB := Lib.hid BW2.out
         refine (need_any q _ 5 a _ (bel_get HB.out HQ.out)).mono ?_
         rintro e w3 ⟨⟨hxt, rfl⟩ | ⟨hxt, rfl⟩, rfl⟩
         · have HXT := Lib.hid (HXB.out.symm.trans hxt)
           clear hxt
           obtain ⟨iw, hiw⟩ := kS
           rw [hiw]
           go_wp2_with fail
           refine (HC1.out iw).mono ?_
           intro e w3 hg
           unfold GPost at hg
           cases r1 with
           | some cd =>
            obtain ⟨rfl, hb⟩ := hg
            have HB3 := Lib.hid (bel_then (HBEL.out iw) hb)
            clear hb
            have HR := Lib.hid (HP4.out HXT.out cd rfl)
            go_wp2_with fail
            refine ⟨rfl, ?_⟩
            unfold GPost
            rw [← HR.out]
            exact ⟨rfl, HB3.out⟩
           | none =>
            obtain ⟨rfl, hb⟩ := hg
            obtain ⟨iw2, rfl⟩ := KS2.out _ (bel_then (KB2.out iw) hb)
            clear hb
            have kS2 := KS2.out _ (KB2.out iw2).drew
            go_wp2_with fail
            refine region_tail K2 5 (by kernel_rfl) (by kernel_rfl) kS2 ?_
            simp only [List.take_succ_cons, List.take_zero, List.drop_succ_cons, List.drop_zero]
            repeat (go_big_quiet_step (exact HC2.out _))
            refine wpQuiet_nil ?_
            rintro _ ⟨iw3, rfl⟩
            cases b2 with
            | false =>
             have HR := Lib.hid (HP5.out HXT.out (by first | exact trivial | rfl) (by first | exact trivial | rfl))
             go_wp2_with fail
             refine (need_no q 6 a _ (bel_get (HBEL.out iw3) HQ.out)).mono ?_
             rintro e w3 ⟨rfl, rfl⟩
             go_wp2_with fail
             refine ⟨rfl, ?_⟩
             unfold GPost
             rw [← HR.out]
             exact ⟨rfl, HBEL.out iw3⟩
            | true =>
             go_wp2_with fail
             refine (need_ok q 6 _).mono ?_
             rintro e w3 ⟨rfl, rfl⟩
             go_wp2_with fail
             refine (HC3.out iw3).mono ?_
             intro e w3 hg
             unfold GPost at hg
             cases r2 with
             | some cd =>
              obtain ⟨rfl, hb⟩ := hg
              have HB3 := Lib.hid (bel_then (HBEL.out iw3) hb)
              clear hb
              have HR := Lib.hid (HP6.out HXT.out (by first | exact trivial | rfl) (by first | exact trivial | rfl) cd (by first | exact trivial | rfl))
              go_wp2_with fail
              refine ⟨rfl, ?_⟩
              unfold GPost
              rw [← HR.out]
              exact ⟨rfl, HB3.out⟩
             | none =>
              obtain ⟨rfl, hb⟩ := hg
              obtain ⟨j2, hj2⟩ := KS.out _ (bel_then (bel_then HB2.out (KB2.out iw3)) hb)
              have HR := Lib.hid (HP7.out HXT.out (by first | exact trivial | rfl) (by first | exact trivial | rfl) (by first | exact trivial | rfl))
              subst hj2
              clear hb
              go_wp2_with fail
              go_roundg g
              case measure => omega
              case rel => exact ⟨kk + 1, j2, by omega, by go_num, rfl, HR.out⟩
         · have HR := Lib.hid (HP3.out (HXB.out.symm.trans hxt))
           clear hxt
           go_wp2_with fail
           refine ⟨rfl, ?_⟩
           unfold GPost
           rw [← HR.out]
           exact ⟨rfl, HB.out⟩
    · have d4 : decide ((ss.length : Int) ≤ (4 : Int)) = false := by simp; omega
      have HPF := Lib.hid (show P = some 6 by rw [HPE.out, if_neg (by omega)])
      clear HPE
      refine region_tail K 17 (by kernel_rfl) (by kernel_rfl) kS ?_
      simp only [List.take_succ_cons, List.take_zero, List.drop_succ_cons, List.drop_zero]
      repeat (go_big_quiet_step (exact HCS.out _))
      refine wpQuiet_nil ?_
      rintro _ ⟨iw, rfl⟩
      have HB := Lib.hid (bel_then BW.out (KB.out iw))
      have HR := Lib.hid (show some 6 = P by rw [HPF.out])
      go_wp2_with fail
      refine (need_no q 6 a _ (bel_get HB.out HQ.out)).mono ?_
      rintro e w3 ⟨rfl, rfl⟩
      go_wp2_with fail
      refine ⟨rfl, ?_⟩
      unfold GPost
      rw [← HR.out]
      exact ⟨rfl, HB.out⟩
  · have d1 : decide ((1 : Int) ≤ (ss.length : Int)) = false := by simp; omega
    have HPF := Lib.hid (show P = some 6 by rw [HPE.out, if_neg (by omega)])
    clear HPE
    refine region_tail K 17 (by kernel_rfl) (by kernel_rfl) kS ?_
    simp only [List.take_succ_cons, List.take_zero, List.drop_succ_cons, List.drop_zero]
    repeat (go_big_quiet_step (exact HCS.out _))
    refine wpQuiet_nil ?_
    rintro _ ⟨iw, rfl⟩
    have HB := Lib.hid (bel_then BW.out (KB.out iw))
    have HR := Lib.hid (show some 6 = P by rw [HPF.out])
    go_wp2_with fail
    refine (need_no q 6 a _ (bel_get HB.out HQ.out)).mono ?_
    rintro e w3 ⟨rfl, rfl⟩
    go_wp2_with fail
    refine ⟨rfl, ?_⟩
    unfold GPost
    rw [← HR.out]
    exact ⟨rfl, HB.out⟩
end Go.Proofs.YtfkmajjgkdjncaaGreatDoor

set_option maxHeartbeats 8000000
set_option maxRecDepth 100000
namespace Go.Proofs.YtfkmajjgkdjncaaGreatDoor
open Go.RowKit Ru
def toksE (T : List TK) : Nat → List TK → Option (Int × Int)
 | _, [] => none
 | i, t :: l => match tokE T i t with | some c => some (c, (i : Int)) | none => toksE T (i + 1) l
theorem toksE_nil (T : List TK) (i : Nat) : toksE T i [] = none := rfl
theorem toksE_cons (T : List TK) (i : Nat) (t : TK) (l : List TK) : toksE T i (t :: l) = match tokE T i t with | some c => some (c, (i : Int)) | none => toksE T (i + 1) l := rfl
def rulesE (T : List TK) : Nat → List RU → Option (Int × Int)
 | _, [] => none
 | i, t :: l => match ruleE T t with | some c => some (c, (T.length : Int) + (i : Int)) | none => rulesE T (i + 1) l
theorem rulesE_nil (T : List TK) (i : Nat) : rulesE T i [] = none := rfl
theorem rulesE_cons (T : List TK) (i : Nat) (t : RU) (l : List RU) : rulesE T i (t :: l) = match ruleE T t with | some c => some (c, (T.length : Int) + (i : Int)) | none => rulesE T (i + 1) l := rfl
def chkE (T : List TK) (R : List RU) : Int × Int :=
 if ¬ (1 ≤ T.length ∧ T.length ≤ 16) then (6, 0) else match toksE T 0 T with
  | some e => e
  | none => if ¬ R.length ≤ 8 then (6, (T.length : Int)) else match rulesE T 0 R with | some e => e | none => (0, 0)
def TFit (T : List TK) : Prop := ∀ (i : Nat) (t : TK), T[i]? = some t → t.name.size ≤ 1000 ∧ t.re.Fit
def RFit (R : List RU) : Prop := ∀ (i : Nat) (r : RU), R[i]? = some r → r.steps.length ≤ 1000 ∧ SFit r.steps
theorem RusAre.form {w : World} {v : Value} {l : List RU} (h : RusAre w v l) : ∃ o c, v = .slice o l.length c := by
 obtain ⟨ps, h1, ⟨o, c, h2, _⟩, _⟩ := h; exact ⟨o, c, h2⟩
theorem RusAre.get {w : World} {v : Value} {l : List RU} (h : RusAre w v l) {i : Nat} {r : RU} (hs : l[i]? = some r) :
 ∃ b off cap so sc, v = .slice (some ⟨b, off, none⟩) l.length cap ∧ b < w.heap.size ∧ StsAre w (.slice so r.steps.length sc) r.steps ∧ w.cell? ⟨b, off + i * 3, none⟩ = some (.int .i64 r.cls) ∧ w.cell? ⟨b, off + i * 3 + 1, none⟩ = some (.bool r.free) ∧ w.cell? ⟨b, off + i * 3 + 2, none⟩ = some (.slice so r.steps.length sc) := by
 obtain ⟨ps, rfl, hrow, hall⟩ := h
 rw [List.getElem?_map] at hs
 obtain ⟨p, hp, rfl⟩ := Option.map_eq_some_iff.1 hs
 have hi : i < ps.length := (List.getElem?_eq_some_iff.1 hp).1
 obtain ⟨b, off, cap, e, hb, hc⟩ := hrow.cells' (by simp; omega)
 have h1 := hall i p hp
 obtain ⟨so, sc, e1⟩ := h1.form
 have hget : ∀ j u, (three p)[j]? = some u → j < 3 → w.cell? ⟨b, off + (i * 3 + j), none⟩ = some u := fun j u hu hj => hc _ _ (by rw [fm_get three 3 (fun _ => rfl) ps i j p hp hj]; exact hu)
 refine ⟨b, off, cap, so, sc, e, hb, by rw [← e1]; exact h1, ?_, ?_, ?_⟩
 · exact hget 0 _ rfl (by omega)
 · rw [Nat.add_assoc]; exact hget 1 _ rfl (by omega)
 · rw [Nat.add_assoc, ← e1]; exact hget 2 _ rfl (by omega)
structure CK (w w' : World) (tv rv : Value) (a : Int) : Prop where
 bel : Below w.heap.size w w'
 hi : w.heap.size + 5 ≤ w'.heap.size
 hg : w'.heap[w.heap.size]? = some (.cells #[tv, rv] 26 (0, 0))
 h1 : w'.heap[w.heap.size + 1]? = some (.cells #[.int .i64 0] 3 (0, 0))
 h2 : w'.heap[w.heap.size + 1 + 1]? = some (.cells #[.int .i64 0] 3 (0, 0))
 ha : w'.heap[w.heap.size + 1 + 1 + 1]? = some (.cells #[.int .i64 a] 3 (0, 0))
 hc : w'.heap[w.heap.size + 1 + 1 + 1 + 1]? = some (.cells #[tv, rv, needF (w.heap.size + 1 + 1 + 1)] 119 (0, 0))
theorem CK.moved {w w' w'' : World} {tv rv : Value} {a : Int} (h : CK w w' tv rv a) (hb : Below w'.heap.size w' w'') : CK w w'' tv rv a :=
 ⟨bel_then h.bel hb, Nat.le_trans h.hi hb.size, bel_get hb h.hg, bel_get hb h.h1, bel_get hb h.h2, bel_get hb h.ha, bel_get hb h.hc⟩
theorem CK.set {w w' : World} {tv rv : Value} {a : Int} (h : CK w w' tv rv a) (b : Int) : CK w (w'.setCell ⟨w.heap.size + 1 + 1 + 1, 0, none⟩ (.int .i64 b)) tv rv b := by
 refine ⟨h.bel.setCell (by simp; omega) _, by simpa [World.setCell] using h.hi, ?_, ?_, ?_, ?_, ?_⟩
 · rw [Below.heap_setCell _ _ _ _ (by simp; omega)]; exact h.hg
 · rw [Below.heap_setCell _ _ _ _ (by simp)]; exact h.h1
 · rw [Below.heap_setCell _ _ _ _ (by simp)]; exact h.h2
 · exact cell1_set h.ha _
 · rw [Below.heap_setCell _ _ _ _ (by simp)]; exact h.hc
theorem CK.cells {w w' : World} {tv rv : Value} {a : Int} (h : CK w w' tv rv a) : w'.cell? ⟨w.heap.size, 0, none⟩ = some tv ∧ w'.cell? ⟨w.heap.size, 1, none⟩ = some rv ∧ w'.cell? ⟨w.heap.size + 1 + 1 + 1 + 1, 0, none⟩ = some tv ∧ w'.cell? ⟨w.heap.size + 1 + 1 + 1 + 1, 1, none⟩ = some rv ∧ w'.cell? ⟨w.heap.size + 1 + 1 + 1 + 1, 2, none⟩ = some (needF (w.heap.size + 1 + 1 + 1)) ∧
 w'.cell? ⟨w.heap.size + 1 + 1 + 1, 0, none⟩ = some (.int .i64 a) ∧ w'.frozen? ⟨w.heap.size + 1 + 1 + 1, 0, none⟩ = false := by
 have h0 := h.hg
 have h4 := h.hc
 obtain ⟨c, z⟩ := cell1_of h.ha
 simp only [World.cell?, h0, h4]
 exact ⟨rfl, rfl, rfl, rfl, rfl, c, z⟩
theorem CK.start (w W : World) (tv rv : Value) (hW : W = ((((w.alloc (.cells #[tv, rv] 26)).alloc (.cells #[.int .i64 0] 3)).alloc (.cells #[.int .i64 0] 3)).alloc (.cells #[.int .i64 0] 3)).alloc (.cells #[tv, rv, needF (w.heap.size + 1 + 1 + 1)] 119)) : CK w W tv rv 0 := by
 obtain ⟨w1, h1⟩ : ∃ w1, w1 = w.alloc (.cells #[tv, rv] 26) := ⟨_, rfl⟩
 rw [← h1] at hW
 obtain ⟨w2, h2⟩ : ∃ w2, w2 = w1.alloc (.cells #[.int .i64 0] 3) := ⟨_, rfl⟩
 rw [← h2] at hW
 obtain ⟨w3, h3⟩ : ∃ w3, w3 = w2.alloc (.cells #[.int .i64 0] 3) := ⟨_, rfl⟩
 rw [← h3] at hW
 obtain ⟨w4, h4⟩ : ∃ w4, w4 = w3.alloc (.cells #[.int .i64 0] 3) := ⟨_, rfl⟩
 rw [← h4] at hW
 have s1 : w1.heap.size = w.heap.size + 1 := by rw [h1]; simp
 have s2 : w2.heap.size = w.heap.size + 1 + 1 := by rw [h2]; simp [s1]
 have s3 : w3.heap.size = w.heap.size + 1 + 1 + 1 := by rw [h3]; simp [s2]
 have s4 : w4.heap.size = w.heap.size + 1 + 1 + 1 + 1 := by rw [h4]; simp [s3]
 have s5 : W.heap.size = w.heap.size + 1 + 1 + 1 + 1 + 1 := by rw [hW]; simp [s4]
 have b1 : Below w.heap.size w w1 := by rw [h1]; exact bel_new (Below.refl _ _) _
 have b2 : Below w1.heap.size w1 w2 := by rw [h2]; exact bel_new (Below.refl _ _) _
 have b3 : Below w2.heap.size w2 w3 := by rw [h3]; exact bel_new (Below.refl _ _) _
 have b4 : Below w3.heap.size w3 w4 := by rw [h4]; exact bel_new (Below.refl _ _) _
 have b5 : Below w4.heap.size w4 W := by rw [hW]; exact bel_new (Below.refl _ _) _
 have g1 := heap_alloc_new w (.cells #[tv, rv] 26)
 have g2 := heap_alloc_new w1 (.cells #[.int .i64 0] 3)
 have g3 := heap_alloc_new w2 (.cells #[.int .i64 0] 3)
 have g4 := heap_alloc_new w3 (.cells #[.int .i64 0] 3)
 have g5 := heap_alloc_new w4 (.cells #[tv, rv, needF (w.heap.size + 1 + 1 + 1)] 119)
 rw [← h1] at g1
 rw [← h2, s1] at g2
 rw [← h3, s2] at g3
 rw [← h4, s3] at g4
 rw [← hW, s4] at g5
 exact ⟨bel_then (bel_then (bel_then (bel_then b1 b2) b3) b4) b5, by omega, bel_get b5 (bel_get b4 (bel_get b3 (bel_get b2 g1))), bel_get b5 (bel_get b4 (bel_get b3 g2)), bel_get b5 (bel_get b4 g3), bel_get b5 g4, g5⟩
theorem gchk_any (T : List TK) (R : List RU) (tv rv : Value) (w : World) (hT : TksAre w tv T) (hR : RusAre w rv R) (hTl : T.length ≤ 1000) (hRl : R.length ≤ 1000) (hTf : TFit T) (hRf : RFit R) :
 Calls Tryz.prog 25 #[.agg #[tv, rv]] w fun e w' => e = .returned (.tuple #[.int .i64 (chkE T R).1, .int .i64 (chkE T R).2]) ∧ Below w.heap.size w w' := by
 have hmf : ∀ (fn : Fn) (first cap : Array Value) (w : World), (Instr.makeFunc fn first cap).run Tryz.prog w = .ok (.func fn first cap) w := fun _ _ _ _ => rfl
 obtain ⟨o7, c7, nm7, kd7, cl7, rk7, so7, sn7, sc7, lo7, ln7, lc7, rfl, -⟩ := hT.all
 obtain ⟨o9, c9, rfl⟩ := hR.form
 have HT := Lib.hid hT
 have HRU := Lib.hid hR
 have HTF := Lib.hid hTf
 have HRF := Lib.hid hRf
 clear hT hR hTf hRf
 by_cases hl1 : 1 ≤ T.length ∧ T.length ≤ 16
 · have d1 : decide ((1 : Int) ≤ (T.length : Int)) = true := by simp; omega
   have d2 : decide ((T.length : Int) ≤ (16 : Int)) = true := by simp; omega
   have HL1 := Lib.hid hl1
   clear hl1
   go_enter_defers Tryz.func25, Tryz.ntmps25
   go_wp2_with fail
   obtain ⟨W, hW⟩ : ∃ W, W = ((((w.alloc (.cells #[.slice o7 T.length c7, .slice o9 R.length c9] 26)).alloc (.cells #[.int .i64 0] 3)).alloc (.cells #[.int .i64 0] 3)).alloc (.cells #[.int .i64 0] 3)).alloc (.cells #[.slice o7 T.length c7, .slice o9 R.length c9, needF (w.heap.size + 1 + 1 + 1)] 119) := ⟨_, rfl⟩
   have CK0 := Lib.hid (CK.start w W _ _ hW)
   unfold needF at hW
   rw [← hW]
   refine (need_ok _ 6 _).mono ?_
   rintro e w3 ⟨rfl, rfl⟩
   clear hW
   obtain ⟨c0, c1, c2, c3, c4, c5, z5⟩ := CK0.out.cells
   go_wp2_with fail
   clear c0 c1 c2 c3 c4 c5 z5
   obtain ⟨E, hE⟩ : ∃ E, E = chkE T R := ⟨_, rfl⟩
   have hE1 : E = match toksE T 0 T with | some e => e | none => if ¬ R.length ≤ 8 then (6, (T.length : Int)) else match rulesE T 0 R with | some e => e | none => (0, 0) := by rw [hE]; unfold chkE; rw [if_neg (fun h => h HL1.out)]
   have HE := Lib.hid hE
   have HE1 := Lib.hid hE1
   clear hE hE1
   go_loopg [28] T.length (fun g s wx => ∃ (k : Nat) (a : Int), k + g = T.length ∧ s = .int .i64 k ∧ CK w wx (.slice o7 T.length c7) (.slice o9 R.length c9) a ∧ toksE T 0 T = toksE T k (T.drop k))
   case atStart => exact ⟨0, 0, by omega, rfl, CK0.out, rfl⟩
   case round =>
    obtain ⟨k, a, hkg, rfl, hck, hpp⟩ := hrel
    clear CK0
    obtain ⟨wo, rfl⟩ : ∃ wo : World, wo = wr := ⟨_, rfl⟩
    have CKO := Lib.hid hck
    obtain ⟨c0, c1, c2, c3, c4, c5, z5⟩ := hck.cells
    have hsz := hck.hi
    unfold needF at c4
    cases gk with
    | zero =>
     obtain rfl : k = T.length := by omega
     have hd : decide ((T.length : Int) < (T.length : Int)) = false := by simp
     rw [List.drop_length, toksE_nil] at hpp
     have hE2 := HE1.out
     rw [hpp] at hE2
     simp only at hE2
     have HE2 := Lib.hid hE2
     clear hpp hck hE2 HE1
     by_cases hl8 : R.length ≤ 8
     · have d8 : decide ((R.length : Int) ≤ (8 : Int)) = true := by simp; omega
       have hE3 : E = match rulesE T 0 R with | some e => e | none => (0, 0) := HE2.out.trans (if_neg (fun h => h hl8))
       have HE3 := Lib.hid hE3
       clear hE3 HE2 hl8
       go_wp2_with fail
       have CK2 := Lib.hid (CKO.out.set (T.length : Int))
       refine (need_ok _ 6 _).mono ?_
       rintro e w3 ⟨rfl, rfl⟩
       obtain ⟨W6, hW6⟩ : ∃ W6, W6 = wo.setCell ⟨w.heap.size + 1 + 1 + 1, 0, none⟩ (.int .i64 T.length) := ⟨_, rfl⟩
       rw [← hW6] at CK2 ⊢
       clear hW6 c0 c1 c2 c3 c4 c5 z5 hsz CKO hd
       obtain ⟨c0, c1, c2, c3, c4, c5, z5⟩ := CK2.out.cells
       go_wp2_with fail
       clear c0 c1 c2 c3 c4 c5 z5
       go_loopg [48] R.length (fun g s wx => ∃ (k : Nat) (a : Int), k + g = R.length ∧ s = .int .i64 k ∧ CK w wx (.slice o7 T.length c7) (.slice o9 R.length c9) a ∧ rulesE T 0 R = rulesE T k (R.drop k))
       case atStart => exact ⟨0, _, by omega, rfl, CK2.out, rfl⟩
       case round =>
        obtain ⟨k, a, hkg, rfl, hck, hpp⟩ := hrel
        clear CK2
        obtain ⟨wo, rfl⟩ : ∃ wo : World, wo = wr := ⟨_, rfl⟩
        have CKO := Lib.hid hck
        obtain ⟨c0, c1, c2, c3, c4, c5, z5⟩ := hck.cells
        have hsz := hck.hi
        unfold needF at c4
        cases gk with
        | zero =>
         obtain rfl : k = R.length := by omega
         have hd : decide ((R.length : Int) < (R.length : Int)) = false := by simp
         rw [List.drop_length, rulesE_nil] at hpp
         have HR := Lib.hid (HE.out.symm.trans (HE3.out.trans (by rw [hpp])))
         obtain ⟨d1, y1⟩ := cell1_of hck.h1
         obtain ⟨d2, y2⟩ := cell1_of hck.h2
         clear hpp hck HE3
         go_wp2
         refine leaves_cons (f := 59) (args := #[.pointer (some ⟨w.heap.size + 1, 0, none⟩), .pointer (some ⟨w.heap.size + 1 + 1, 0, none⟩)]) (by simp) (by simp [go_sem]) ?_
         refine (gcatch_idle _ _ _).mono ?_
         rintro e u' w'' ⟨rfl, rfl, rfl⟩
         obtain ⟨W8, hW8⟩ : ∃ W8, W8 = ((wo.setCell ⟨w.heap.size + 1, 0, none⟩ (.int .i64 0)).setCell ⟨w.heap.size + 1 + 1, 0, none⟩ (.int .i64 0)).alloc (.cells #[.int .i64 0, .int .i64 0] 115) := ⟨_, rfl⟩
         rw [← hW8]
         have hb8 : Below w.heap.size w W8 := by
          rw [hW8]
          exact (((CKO.out.bel.setCell (by simp) _).setCell (by simp; omega) _).alloc (by simp [World.setCell]; omega) _)
         have g1 : W8.heap[w.heap.size + 1]? = some (.cells #[.int .i64 0] 3 (0, 0)) := by
          rw [hW8, Below.heap_alloc _ _ _ (by simp [World.setCell]; omega), Below.heap_setCell _ _ _ _ (by simp)]
          exact cell1_set CKO.out.h1 _
         have g2 : W8.heap[w.heap.size + 1 + 1]? = some (.cells #[.int .i64 0] 3 (0, 0)) := by
          rw [hW8, Below.heap_alloc _ _ _ (by simp [World.setCell]; omega)]
          refine cell1_set (a := .int .i64 0) ?_ _
          rw [Below.heap_setCell _ _ _ _ (by simp)]
          exact CKO.out.h2
         clear d1 y1 d2 y2 hW8
         obtain ⟨d1, y1⟩ := cell1_of g1
         obtain ⟨d2, y2⟩ := cell1_of g2
         simp [Leaves, settle, results, Tryz.results25, go_sem, d1, d2]
         rw [HR.out]
         exact ⟨⟨rfl, rfl⟩, hb8⟩
        | succ g =>
         have hk : k < R.length := by omega
         have hd : decide ((k : Int) < (R.length : Int)) = true := by simp; omega
         have hk1 : (0 : Int) ≤ (k : Int) := by omega
         have hk2 : (k : Int) < (R.length : Int) := by omega
         have hk9 : (k : Int) ≤ 1000 := by omega
         have hk8 : (T.length : Int) ≤ 1000 := by omega
         obtain ⟨t, hte⟩ : ∃ e, R[k]? = some e := ⟨_, List.getElem?_eq_getElem hk⟩
         have hxe : R[k] = t := by rw [List.getElem?_eq_getElem hk] at hte; exact Option.some.inj hte
         rw [List.drop_eq_getElem_cons hk, hxe, rulesE_cons] at hpp
         obtain ⟨r, hr⟩ : ∃ r, r = ruleE T t := ⟨_, rfl⟩
         obtain ⟨b, off, cap, so, sc, e, hlt, hst, g0, g1, g2⟩ := HRU.out.get hte
         simp only [Value.slice.injEq, true_and] at e
         obtain ⟨rfl, rfl⟩ := e
         have m0 := (hck.bel.cell hlt).trans g0
         have m1 := (hck.bel.cell hlt).trans g1
         have m2 := (hck.bel.cell hlt).trans g2
         obtain ⟨at9, hat9⟩ : ∃ x : Int, x = (T.length : Int) + (k : Int) := ⟨_, rfl⟩
         have hcall := fun w' (h : CK w w' (.slice o7 T.length c7) (.slice (some ⟨b, off, none⟩) R.length c9) at9) => grule_any w' T (.slice o7 T.length c7) (.slice (some ⟨b, off, none⟩) R.length c9) _ at9 (w.heap.size + 1 + 1 + 1) t ⟨HT.out.moved h.bel, hTl, ⟨_, _, _, rfl⟩, h.ha⟩ (hst.moved h.bel) (HRF.out k t hte).1 (HRF.out k t hte).2
         rw [← hr] at hcall hpp
         rw [← hat9] at hpp
         obtain ⟨cls, fr, sts⟩ := t
         simp only at m0 m1 m2 hcall
         obtain ⟨sl, hsl⟩ : ∃ n, n = sts.length := ⟨_, rfl⟩
         rw [← hsl] at m2 hcall
         have zz0 : w.heap.size < wo.heap.size := by omega
         have zz3 : w.heap.size + 1 + 1 + 1 < wo.heap.size := by omega
         have zz4 : w.heap.size + 1 + 1 + 1 + 1 < wo.heap.size := by omega
         have HCALL := Lib.hid hcall
         have HPP := Lib.hid hpp
         have HAT := Lib.hid hat9
         clear hcall hpp hr hte hxe hck g0 g1 g2 hst hat9 hsl
         go_wp2_with fail
         rw [← HAT.out]
         have CK2 := Lib.hid ((CKO.out.set at9).moved (bel_new (Below.refl _ _) (.cells #[.int .i64 cls, .bool fr, .slice so sl sc] 63)))
         refine (HCALL.out _ CK2.out).mono ?_
         intro e w3 hg
         unfold GPost at hg
         cases r with
         | some cd =>
          obtain ⟨rfl, hb⟩ := hg
          have CK3 := Lib.hid (CK2.out.moved hb)
          clear hb
          have HR := Lib.hid (HE.out.symm.trans (HE3.out.trans (by rw [HPP.out])))
          go_wp2
          refine leaves_cons (f := 59) (args := #[.pointer (some ⟨w.heap.size + 1, 0, none⟩), .pointer (some ⟨w.heap.size + 1 + 1, 0, none⟩)]) (by simp) (by simp [go_sem]) ?_
          refine (gcatch_panic _ _ cd at9 _ _ _ CK3.out.h1 CK3.out.h2 (by omega)).mono ?_
          rintro e u' w7 ⟨rfl, rfl, K0, K1, hbel7⟩
          have HB7 : Below w.heap.size w w7 := CK3.out.bel.trans (hbel7 _ (by omega) (by omega) (by have := CK3.out.bel.size; omega))
          obtain ⟨c0, z0⟩ := cell1_of K0
          obtain ⟨c1, z1⟩ := cell1_of K1
          simp [Leaves, settle, results, Tryz.results25, go_sem, c0, c1]
          rw [HR.out]
          exact ⟨⟨rfl, rfl⟩, HB7⟩
         | none =>
          obtain ⟨rfl, hb⟩ := hg
          have CK3 := Lib.hid (CK2.out.moved hb)
          clear hb c0 c1 c2 c3 c4 c5 z5 hsz
          go_wp2_with fail
          go_roundg g
          case measure => omega
          case rel => exact ⟨k + 1, _, by omega, by go_num, CK3.out, HPP.out⟩
     · have d8 : decide ((R.length : Int) ≤ (8 : Int)) = false := by simp; omega
       have HE3 := Lib.hid (HE2.out.trans (if_pos hl8))
       clear HE2 hl8
       go_wp2_with fail
       have CK2 := Lib.hid (CKO.out.set (T.length : Int))
       refine (need_no _ 6 _ _ CK2.out.ha).mono ?_
       rintro e w3 ⟨rfl, rfl⟩
       have HR := Lib.hid (HE.out.symm.trans HE3.out)
       go_wp2
       refine leaves_cons (f := 59) (args := #[.pointer (some ⟨w.heap.size + 1, 0, none⟩), .pointer (some ⟨w.heap.size + 1 + 1, 0, none⟩)]) (by simp) (by simp [go_sem]) ?_
       refine (gcatch_panic _ _ 6 (T.length : Int) _ _ _ CK2.out.h1 CK2.out.h2 (by omega)).mono ?_
       rintro e u' w7 ⟨rfl, rfl, K0, K1, hbel7⟩
       have HB7 : Below w.heap.size w w7 := CK2.out.bel.trans (hbel7 _ (by omega) (by omega) (by have := CK2.out.bel.size; omega))
       obtain ⟨c0, z0⟩ := cell1_of K0
       obtain ⟨c1, z1⟩ := cell1_of K1
       simp [Leaves, settle, results, Tryz.results25, go_sem, c0, c1]
       rw [HR.out]
       exact ⟨⟨rfl, rfl⟩, HB7⟩
    | succ g =>
     have hk : k < T.length := by omega
     have hd : decide ((k : Int) < (T.length : Int)) = true := by simp; omega
     have hk1 : (0 : Int) ≤ (k : Int) := by omega
     have hk2 : (k : Int) < (T.length : Int) := by omega
     have hk9 : (k : Int) ≤ 1000 := by omega
     obtain ⟨t, hte⟩ : ∃ e, T[k]? = some e := ⟨_, List.getElem?_eq_getElem hk⟩
     have hxe : T[k] = t := by rw [List.getElem?_eq_getElem hk] at hte; exact Option.some.inj hte
     rw [List.drop_eq_getElem_cons hk, hxe, toksE_cons] at hpp
     obtain ⟨r, hr⟩ : ∃ r, r = tokE T k t := ⟨_, rfl⟩
     have hcall := fun w' (h : CK w w' (.slice o7 T.length c7) (.slice o9 R.length c9) (k : Int)) => gtok_any T k t _ (.slice o9 R.length c9) (k : Int) (w.heap.size + 1 + 1 + 1) w' (HT.out.moved h.bel) hTl ⟨_, _, _, rfl⟩ hte (HTF.out k t hte).1 (HTF.out k t hte).2 h.ha
     rw [← hr] at hcall hpp
     have HCALL := Lib.hid hcall
     have HPP := Lib.hid hpp
     clear hcall hpp hr hte hxe hck
     go_wp2_with fail
     have CK2 := Lib.hid (CKO.out.set (k : Int))
     refine (HCALL.out _ CK2.out).mono ?_
     intro e w3 hg
     unfold GPost at hg
     cases r with
     | some cd =>
      obtain ⟨rfl, hb⟩ := hg
      have CK3 := Lib.hid (CK2.out.moved hb)
      clear hb
      have HR := Lib.hid (HE.out.symm.trans (HE1.out.trans (by rw [HPP.out])))
      go_wp2
      refine leaves_cons (f := 59) (args := #[.pointer (some ⟨w.heap.size + 1, 0, none⟩), .pointer (some ⟨w.heap.size + 1 + 1, 0, none⟩)]) (by simp) (by simp [go_sem]) ?_
      refine (gcatch_panic _ _ cd (k : Int) _ _ _ CK3.out.h1 CK3.out.h2 (by omega)).mono ?_
      rintro e u' w7 ⟨rfl, rfl, K0, K1, hbel7⟩
      have HB7 : Below w.heap.size w w7 := CK3.out.bel.trans (hbel7 _ (by omega) (by omega) (by have := CK3.out.bel.size; omega))
      obtain ⟨c0, z0⟩ := cell1_of K0
      obtain ⟨c1, z1⟩ := cell1_of K1
      simp [Leaves, settle, results, Tryz.results25, go_sem, c0, c1]
      rw [HR.out]
      exact ⟨⟨rfl, rfl⟩, HB7⟩
     | none =>
      obtain ⟨rfl, hb⟩ := hg
      have CK3 := Lib.hid (CK2.out.moved hb)
      clear hb c0 c1 c2 c3 c4 c5 z5 hsz
      go_wp2_with fail
      go_roundg g
      case measure => omega
      case rel => exact ⟨k + 1, _, by omega, by go_num, CK3.out, HPP.out⟩
 · have hR : chkE T R = (6, 0) := by unfold chkE; rw [if_pos hl1]
   have d12 : decide ((1 : Int) ≤ (T.length : Int)) = false ∨ (decide ((1 : Int) ≤ (T.length : Int)) = true ∧ decide ((T.length : Int) ≤ (16 : Int)) = false) := by
    by_cases h : 1 ≤ T.length
    · right; exact ⟨by simp; omega, by simp; omega⟩
    · left; simp; omega
   have HR0 := Lib.hid hR
   clear hl1 hR
   rcases d12 with d1 | ⟨d1, d2⟩
   all_goals
    go_enter_defers Tryz.func25, Tryz.ntmps25
    go_wp2_with fail
    obtain ⟨W, hW⟩ : ∃ W, W = ((((w.alloc (.cells #[.slice o7 T.length c7, .slice o9 R.length c9] 26)).alloc (.cells #[.int .i64 0] 3)).alloc (.cells #[.int .i64 0] 3)).alloc (.cells #[.int .i64 0] 3)).alloc (.cells #[.slice o7 T.length c7, .slice o9 R.length c9, needF (w.heap.size + 1 + 1 + 1)] 119) := ⟨_, rfl⟩
    have CK0 := Lib.hid (CK.start w W _ _ hW)
    unfold needF at hW
    rw [← hW]
    refine (need_no _ 6 0 _ CK0.out.ha).mono ?_
    rintro e w3 ⟨rfl, rfl⟩
    clear hW
    have HR := Lib.hid (HR0.out)
    go_wp2
    refine leaves_cons (f := 59) (args := #[.pointer (some ⟨w.heap.size + 1, 0, none⟩), .pointer (some ⟨w.heap.size + 1 + 1, 0, none⟩)]) (by simp) (by simp [go_sem]) ?_
    refine (gcatch_panic _ _ 6 0 _ _ _ CK0.out.h1 CK0.out.h2 (by omega)).mono ?_
    rintro e u' w7 ⟨rfl, rfl, K0, K1, hbel7⟩
    have HB7 : Below w.heap.size w w7 := CK0.out.bel.trans (hbel7 _ (by omega) (by omega) (by have := CK0.out.bel.size; omega))
    obtain ⟨c0, z0⟩ := cell1_of K0
    obtain ⟨c1, z1⟩ := cell1_of K1
    simp [Leaves, settle, results, Tryz.results25, go_sem, c0, c1]
    rw [HR.out]
    exact ⟨⟨rfl, rfl⟩, HB7⟩
end Go.Proofs.YtfkmajjgkdjncaaGreatDoor

namespace Go.Proofs.YtfkmajjgkdjncaaGreatDoor
open Go.RowKit Ru
namespace PT
mutual
def cnt : PT → Nat → Nat → Nat → Nat × Nat
 | .mk _ _ _ l, deep, n, d => cntL l (deep + 1) (n + 1) (max d deep)
def cntL : List PT → Nat → Nat → Nat → Nat × Nat
 | [], _, n, d => (n, d)
 | e :: l, deep, n, d => cntL l deep (cnt e deep n d).1 (cnt e deep n d).2
end
theorem size_sizes (e : PT) : e.size = sizes e.parts + 1 := by cases e; rw [size_mk]; rfl
end PT
end Go.Proofs.YtfkmajjgkdjncaaGreatDoor

namespace Go.Proofs.YtfkmajjgkdjncaaGreatDoor
open Go.RowKit Ru
def allS {α : Type} (f : α → α → Bool) (l m : List α) : Bool := decide (l.length = m.length) && (List.zipWith f l m).all id
def TK.same (a b : TK) : Bool := decide (a.name = b.name) && (decide (a.kind = b.kind) && (decide (a.cls = b.cls) && a.re.same b.re))
def ST.same (a b : ST) : Bool := decide (a.calls = b.calls) && a.p.same b.p
def RU.same (a b : RU) : Bool := decide (a.cls = b.cls) && ((a.free == b.free) && allS ST.same a.steps b.steps)
end Go.Proofs.YtfkmajjgkdjncaaGreatDoor
