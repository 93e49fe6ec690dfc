/- gobolaw7.NfaAsks: the walk. -/
import Derived.Test.YtmgfpcblbbpahaaGreatNfLaw4
import Derived.RegionTactic
import Derived.Deep.RegionLaw
set_option linter.unusedVariables false
set_option linter.unusedSimpArgs false
namespace Go.Proofs.YtmgfpcblbbpahaaGreat
open Go.RowKit Ru

theorem raw_parts {l : List RE} (h : (RE.mk 0 [] l).Raw) : ∀ (i : Nat) (p : RE), l[i]? = some p → p.Raw := by
  intro i p hp
  cases h with
  | mk k s l hz hr => exact hr i p hp
set_option maxRecDepth 100000 in
set_option maxHeartbeats 8000000 in
theorem nfaAsks_walk (l : List RE) (v : Value) (a : List Int) (av : Value) (r : Int) (w : World) (hre : ReIs w (.mk 0 [] l) (.slice none 0 0) v) (hraw : (RE.mk 0 [] l).Raw)
    (ha : Row w av a.length (a.map (Value.int .i64))) (hza : ∀ n ∈ a, (Lit.int .i64 n).wf = true) (hr32 : -2147483648 ≤ r ∧ r ≤ 2147483647) :
    Calls Tryz.prog 5 #[v, av, .int .i32 r] w fun e w' => e = .returned (.bool true) ∧ Below w.heap.size w w' := by
  obtain ⟨o2, q2, c1, c2, rfl, hall⟩ := hre.all
  rw [show (RE.mk 0 [] l).parts = l from rfl] at hall
  rw [show (RE.mk 0 [] l).parts = l from rfl] at hre ⊢
  have hrp := raw_parts hraw
  have htold := fun X => told7_any X
  obtain ⟨oa, ca, rfl⟩ := Row.form ha
  have HT := Lib.hid htold
  have HRE := Lib.hid hre
  have HALL := Lib.hid hall
  have HRP := Lib.hid hrp
  have HA := Lib.hid ha
  clear htold hre hall hrp ha hraw hza
  by_cases h18 : 18 < l.length
  · have n18 : (18 : Int) < (l.length : Int) := by omega
    go_enter Tryz.func5, Tryz.ntmps5
    go_wp2_with (go_at_call 10; refine (HT.out _).mono ?_; rintro x w9 ⟨rfl, hb9⟩)
    go_ret
    exact ⟨rfl, hb9⟩
  have n18 : ¬ (18 : Int) < (l.length : Int) := by omega
  by_cases h20 : 20 < a.length
  · have n20 : (20 : Int) < (a.length : Int) := by omega
    go_enter Tryz.func5, Tryz.ntmps5
    go_wp2_with (go_at_call 10; refine (HT.out _).mono ?_; rintro x w9 ⟨rfl, hb9⟩)
    go_ret
    exact ⟨rfl, hb9⟩
  have n20 : ¬ (20 : Int) < (a.length : Int) := by omega
  go_enter Tryz.func5, Tryz.ntmps5
  go_wp2_with fail
  go_loopg [7] l.length (fun g s7 wx => ∃ k : Nat, k + g = l.length ∧ s7 = .int .i64 (k : Int) ∧ (∀ e ∈ l.take k, e.size ≤ 200 ∧ e.Fit) ∧ Below w.heap.size w wx)
  case atStart => exact ⟨0, by omega, rfl, by simp, Below.refl _ _⟩
  case round =>
    obtain ⟨k, hk, rfl, hfew, hbx⟩ := hrel
    by_cases hlt : k < l.length
    · obtain ⟨g1, hg1⟩ : ∃ g1, g1 + 1 = gk := ⟨gk - 1, by omega⟩
      have hdk : (k : Int) < (l.length : Int) := by omega
      obtain ⟨p, hp⟩ : ∃ p, l[k]? = some p := ⟨l[k], List.getElem?_eq_getElem hlt⟩
      obtain ⟨hrp, b, off, rfl, hbl, k0, k1, k3⟩ := HALL.out k p hp
      rw [← hbx.cell hbl] at k0
      rw [← hbx.cell hbl] at k1
      rw [← hbx.cell hbl] at k3
      obtain ⟨s1, hs1⟩ : ∃ s1, s1 = c1 k := ⟨_, rfl⟩
      obtain ⟨s2, hs2⟩ : ∃ s2, s2 = c2 k := ⟨_, rfl⟩
      rw [← hs1, ← hs2] at hrp
      rw [← hs1] at k1
      rw [← hs2] at k3
      obtain ⟨⟨oo1, qq1, rfl⟩, ⟨oo2, qq2, rfl⟩⟩ := hrp.form
      have hfw := few_any p _ _ wr (hrp.moved hbx) (HRP.out k p hp)
      have HF := Lib.hid hfw
      have HFEW := Lib.hid hfew
      have HBX := Lib.hid hbx
      clear hfw hfew hbx hrp hs1 hs2
      go_wp2_with fail
      refine HF.out.mono ?_
      rintro x w1 ⟨⟨z, rfl, hz⟩, hb1⟩
      have HB1 := Lib.hid (bel_then HBX.out hb1)
      have HZ := Lib.hid hz
      clear hb1 hz HF k0 k1 k3
      cases z with
      | false =>
        go_wp2_with (go_at_call 10; refine (HT.out _).mono ?_; rintro x w9 ⟨rfl, hb9⟩)
        go_ret
        exact ⟨rfl, bel_then HB1.out hb9⟩
      | true =>
        go_wp2_with fail
        go_roundg g1
        case measure => omega
        case rel =>
          refine ⟨k + 1, by omega, by simp, fun e he => ?_, HB1.out⟩
          rw [List.take_add_one, hp] at he
          rcases List.mem_append.1 he with h1 | h1
          · exact HFEW.out e h1
          · simp at h1; rw [h1]; exact HZ.out (by trivial)
    · obtain rfl : k = l.length := by omega
      rw [List.take_length] at hfew
      have hfit : ∀ e ∈ l, e.Fit := fun e he => (hfew e he).2
      have hF := fit_list hfit (by omega)
      have hrb : ∀ (X : World), Below wr.heap.size wr X → Calls Tryz.prog 18 #[.slice o2 l.length q2] X fun x w' => BdPost X l x w' := fun X hX =>
        rbuild_any (.mk 0 [] l) _ _ X (HRE.out.moved (bel_then hbx hX)) hF (fun e he => by have := (hfew e he).1; omega) (by show l.length ≤ 1000; omega)
      have HBX := Lib.hid hbx
      have HRB := Lib.hid hrb
      have HFIT := Lib.hid hfit
      cases ht : Nf.takes l with
      | false =>
        have hbu : Calls Tryz.prog 8 #[.slice o2 l.length q2] wr fun x w' => x = .returned (.tuple #[.pointer none, .int .i64 1]) ∧ Below wr.heap.size wr w' := build_bad (.mk 0 [] l) _ _ wr (HRE.out.moved hbx) hF ht
        have HBU := Lib.hid hbu
        have HTK := Lib.hid ht
        clear hbu ht hfew hbx hrb hfit hF
        go_wp2_with fail
        refine HBU.out.mono ?_
        rintro x w2 ⟨rfl, hb2⟩
        have HB2 := Lib.hid hb2
        clear hb2
        go_wp2_with fail
        refine (HRB.out _ HB2.out).mono ?_
        rintro x w3 hpost
        obtain rfl := hpost.no HTK.out
        have HB3 := Lib.hid hpost.bel
        clear hpost
        go_wp2_with (go_at_call 10; refine (HT.out _).mono ?_; rintro x w9 ⟨rfl, hb9⟩)
        go_ret
        exact ⟨rfl, bel_then HBX.out (bel_then HB2.out (bel_then HB3.out hb9))⟩
      | true =>
        have hbu := build_any (.mk 0 [] l) _ _ wr (HRE.out.moved hbx) hF ht
        rw [show (RE.mk 0 [] l).parts = l from rfl] at hbu
        have hmay : ∀ e ∈ l, e.may = true := by
          unfold Nf.takes at ht
          simp only [Bool.and_eq_true] at ht
          exact List.all_eq_true.1 ht.2
        have hl16 : l.length ≤ 16 := by
          unfold Nf.takes at ht
          simp only [Bool.and_eq_true, decide_eq_true_eq] at ht
          exact ht.1.2
        have HBU := Lib.hid hbu
        have HTK := Lib.hid ht
        have HM := Lib.hid hmay
        clear hbu ht hfew hbx hrb hfit hF hmay
        go_wp2_with fail
        refine HBU.out.mono ?_
        rintro x w2 ⟨pb, so, fo, eo, co, sc, fc, ec, cc, ss, fs, es, rfl, hn, hb2, hpb⟩
        have HN := Lib.hid hn
        have HB2 := Lib.hid hb2
        clear hn hb2 hpb HBU
        go_wp2_with fail
        refine (HRB.out _ HB2.out).mono ?_
        rintro x w3 hpost
        obtain ⟨pm, g, c, T, vS, vO, v2, vL, v5, ss', fs', rfl, hrbs⟩ := hpost.yes HTK.out
        obtain ⟨so', oo', lo', fo', eo', sc', oc', lc', fc', ec', hri⟩ := ris_of HM.out HFIT.out hl16 hrbs
        have hb3 := hpost.bel
        have hc0 := hri.c0
        have hpmlt := hri.lt
        have HRI := Lib.hid hri
        have HB3 := Lib.hid hb3
        have HN3 := Lib.hid (HN.out.moved hb3)
        have hA3 := ((HA.out.below HBX.out).below HB2.out).below hb3
        have HA3 := Lib.hid hA3
        have hfew := HN.out.few
        obtain ⟨S, hS⟩ : ∃ S, S = Nf.mS l := ⟨_, rfl⟩
        obtain ⟨C, hCe⟩ : ∃ C, C = cutsF (Nf.mS l) := ⟨_, rfl⟩
        have hC := Nf.mS_cells l HM.out hl16
        have hP := mS_pcs l HM.out hl16
        have hz : ∀ q ∈ Nf.mS l, i32s q := fun q hq => by
          unfold Nf.mS at hq
          rcases List.mem_cons.1 hq with rfl | hq
          · exact fun p hp => by simp at hp
          · exact (Nf.stsL_fit l (fun e he => ⟨(Nf.all_prt HM.out e he).1, HFIT.out e he⟩) q hq).1
        obtain ⟨X, hX⟩ : ∃ X, X = nextL (Nf.mS l) (Nf.mF l) a r := ⟨_, rfl⟩
        obtain ⟨R, hR⟩ : ∃ R, R = Nf.gat (Nf.mE l) a := ⟨_, rfl⟩
        have hXl : X.length ≤ 1000 := by
          have h1 := Nf.next_len _ _ HN.out.fit a r
          rw [← hX] at h1; omega
        have hrR : rlOut (Nf.mS l).length (Nf.dm l).O (Nf.dm l).L (Nf.dm l).Em a = R := by rw [hR]; exact rrules_eq l HM.out a
        have hRl : R.length ≤ 100 := by
          have h1 := (rlOut_ok (Nf.mS l).length (Nf.dm l).O (Nf.dm l).L (Nf.dm l).Em HRI.out.fitO a a.length (Nat.le_refl _)).len
          rw [List.take_length, hrR] at h1
          exact Nat.le_trans h1 HRI.out.lenE
        have hal : a.length ≤ 4000 := by omega
        have hk1 := fun Y (hY : Below w3.heap.size w3 Y) => len_any (HN3.out.moved hY)
        have hk2 := fun Y (hY : Below w3.heap.size w3 Y) => cells_any (HN3.out.moved hY) (by omega)
        have hk3 := fun Y (hY : Below w3.heap.size w3 Y) => rcells_any (HRI.out.moved hY) hz hP
        have hk4 := fun Y (hY : Below w3.heap.size w3 Y) => next_any (HN3.out.moved hY) a oa ca (HA3.out.below hY) hal r
        have hk5 := fun Y (hY : Below w3.heap.size w3 Y) => rnext_any (HRI.out.moved hY) a _ (HA3.out.below hY) hal r
        have hk6 := fun Y (hY : Below w3.heap.size w3 Y) => rules_any (HN3.out.moved hY) a oa ca (HA3.out.below hY) hal
        have hk7 := fun Y (hY : Below w3.heap.size w3 Y) => rrules_any (HRI.out.moved hY) a _ (HA3.out.below hY) hal
        rw [rnext_eq l HM.out a r] at hk5
        rw [hrR] at hk7
        rw [← hR] at hk6
        rw [← hX] at hk4 hk5
        rw [← hCe] at hk2 hk3 hC
        rw [← hS] at hk1 hc0
        have K1 := Lib.hid hk1
        have K2 := Lib.hid hk2
        have K3 := Lib.hid hk3
        have K4 := Lib.hid hk4
        have K5 := Lib.hid hk5
        have K6 := Lib.hid hk6
        have K7 := Lib.hid hk7
        clear hpost hrbs hri hb3 hA3 HRB hk1 hk2 hk3 hk4 hk5 hk6 hk7 hrR hR hX hz hP hCe hS hfew HN HA HALL HRP HRE
        go_upto_region 12 with (fail)
        refine wp_region_held_drew (S := (fun w' : World => w'.cell? ⟨pm, 0, none⟩ = some (.slice so' S.length sc'))) (by kernel_rfl) hc0 (fun hS => ?_)
        refine wpAnyH_ready (rs := [0]) (by kernel_rfl) (by simp) ?_
        refine AllReadyH.cons rfl (fun K hK => ?_) AllReadyH.nil
        replace hK := Lib.hid hK
        go_simp
        go_at_call 10
        refine (HT.out _).mono ?_
        rintro x w4 ⟨rfl, hb4⟩
        have HB4 := Lib.hid (bel_then (Below.refl w3.heap.size w3).drew hb4)
        clear hb4 hS
        refine hK.out _ _ (((HB4.out).cell (p := ⟨pm, 0, none⟩) hpmlt).trans hc0) (fun hS => ?_)
        clear hK K
        try simp only [Act.put, List.setIfInBounds_toArray, List.set_cons_zero, List.set_cons_succ, List.getElem_toArray, List.getElem_cons_succ, List.getElem_cons_zero]
        refine wpAnyH_take (i := 1) (v := ?_) rfl (by kernel_rfl) (by kernel_rfl) (by kernel_rfl) (fun _ _ _ h => h) (Or.inl ⟨by rfl, ?_⟩) hS ?_
        rotate_left
        · intro w' hSw
          try dsimp only at hSw
          go_simp
          try with_reducible rfl
        try simp only [Act.put, List.setIfInBounds_toArray, List.set_cons_zero, List.set_cons_succ, List.getElem_toArray, List.getElem_cons_succ, List.getElem_cons_zero]
        refine wpAnyH_take (i := 2) (v := ?_) rfl (by kernel_rfl) (by kernel_rfl) (by kernel_rfl) (fun _ _ _ h => h) (Or.inl ⟨by rfl, ?_⟩) hS ?_
        rotate_left
        · intro w' hSw
          try dsimp only at hSw
          go_simp
          try with_reducible rfl
        try simp only [Act.put, List.setIfInBounds_toArray, List.set_cons_zero, List.set_cons_succ, List.getElem_toArray, List.getElem_cons_succ, List.getElem_cons_zero]
        refine wpAnyH_take (i := 3) (v := ?_) rfl (by kernel_rfl) (by kernel_rfl) (by kernel_rfl) (fun _ _ _ h => h) (Or.inl ⟨by rfl, ?_⟩) hS ?_
        rotate_left
        · intro w' hSw
          try dsimp only at hSw
          go_simp
          try with_reducible rfl
        try simp only [Act.put, List.setIfInBounds_toArray, List.set_cons_zero, List.set_cons_succ, List.getElem_toArray, List.getElem_cons_succ, List.getElem_cons_zero]
        refine wpAnyH_take (i := 4) (v := ?_) rfl (by kernel_rfl) (by kernel_rfl) (by kernel_rfl) (fun _ _ _ h => h) (Or.inl ⟨by rfl, ?_⟩) hS ?_
        rotate_left
        · intro w' hSw
          try dsimp only at hSw
          go_simp
          try with_reducible rfl
        try simp only [Act.put, List.setIfInBounds_toArray, List.set_cons_zero, List.set_cons_succ, List.getElem_toArray, List.getElem_cons_succ, List.getElem_cons_zero]
        refine wpAnyH_take (i := 5) (v := ?_) rfl (by kernel_rfl) (by kernel_rfl) (by kernel_rfl) (fun _ _ _ h => h) (Or.inl ⟨by rfl, ?_⟩) hS ?_
        rotate_left
        · intro w' hSw
          try dsimp only at hSw
          go_simp
          try with_reducible rfl
        try simp only [Act.put, List.setIfInBounds_toArray, List.set_cons_zero, List.set_cons_succ, List.getElem_toArray, List.getElem_cons_succ, List.getElem_cons_zero]
        refine wpAnyH_take (i := 6) (v := ?_) rfl (by kernel_rfl) (by kernel_rfl) (by kernel_rfl) (fun _ _ _ h => h) (Or.inl ⟨by rfl, ?_⟩) hS ?_
        rotate_left
        · intro w' hSw
          try dsimp only at hSw
          go_simp
          try with_reducible rfl
        try simp only [Act.put, List.setIfInBounds_toArray, List.set_cons_zero, List.set_cons_succ, List.getElem_toArray, List.getElem_cons_succ, List.getElem_cons_zero]
        refine wpAnyH_take (i := 7) (v := ?_) rfl (by kernel_rfl) (by kernel_rfl) (by kernel_rfl) (fun _ _ _ h => h) (Or.inl ⟨by rfl, ?_⟩) hS ?_
        rotate_left
        · intro w' hSw
          try dsimp only at hSw
          go_simp
          try with_reducible rfl
        try simp only [Act.put, List.setIfInBounds_toArray, List.set_cons_zero, List.set_cons_succ, List.getElem_toArray, List.getElem_cons_succ, List.getElem_cons_zero]
        refine wpAnyH_take (i := 8) (v := ?_) rfl (by kernel_rfl) (by kernel_rfl) (by kernel_rfl) (fun _ _ _ h => h) (Or.inl ⟨by rfl, ?_⟩) hS ?_
        rotate_left
        · intro w' hSw
          try dsimp only at hSw
          go_simp
          try with_reducible rfl
        try simp only [Act.put, List.setIfInBounds_toArray, List.set_cons_zero, List.set_cons_succ, List.getElem_toArray, List.getElem_cons_succ, List.getElem_cons_zero]
        refine wpAnyH_take (i := 9) (v := ?_) rfl (by kernel_rfl) (by kernel_rfl) (by kernel_rfl) (fun _ _ _ h => h) (Or.inl ⟨by rfl, ?_⟩) hS ?_
        rotate_left
        · intro w' hSw
          try dsimp only at hSw
          go_simp
          try with_reducible rfl
        try simp only [Act.put, List.setIfInBounds_toArray, List.set_cons_zero, List.set_cons_succ, List.getElem_toArray, List.getElem_cons_succ, List.getElem_cons_zero]
        refine wpAnyH_take (i := 10) (v := ?_) rfl (by kernel_rfl) (by kernel_rfl) (by kernel_rfl) (fun _ _ _ h => h) (Or.inl ⟨by rfl, ?_⟩) hS ?_
        rotate_left
        · intro w' hSw
          try dsimp only at hSw
          go_simp
          try with_reducible rfl
        try simp only [Act.put, List.setIfInBounds_toArray, List.set_cons_zero, List.set_cons_succ, List.getElem_toArray, List.getElem_cons_succ, List.getElem_cons_zero]
        refine wpAnyH_take (i := 12) (v := ?_) rfl (by kernel_rfl) (by kernel_rfl) (by kernel_rfl) (fun _ _ _ h => h) (Or.inl ⟨by rfl, ?_⟩) hS ?_
        rotate_left
        · intro w' hSw
          try dsimp only at hSw
          go_simp
          try with_reducible rfl
        try simp only [Act.put, List.setIfInBounds_toArray, List.set_cons_zero, List.set_cons_succ, List.getElem_toArray, List.getElem_cons_succ, List.getElem_cons_zero]
        refine wpAnyH_take (i := 13) (v := ?_) rfl (by kernel_rfl) (by kernel_rfl) (by kernel_rfl) (fun _ _ _ h => h) (Or.inl ⟨by rfl, ?_⟩) hS ?_
        rotate_left
        · intro w' hSw
          try dsimp only at hSw
          go_simp
          try with_reducible rfl
        try simp only [Act.put, List.setIfInBounds_toArray, List.set_cons_zero, List.set_cons_succ, List.getElem_toArray, List.getElem_cons_succ, List.getElem_cons_zero]
        refine wpAnyH_take (i := 14) (v := ?_) rfl (by kernel_rfl) (by kernel_rfl) (by kernel_rfl) (fun _ _ _ h => h) (Or.inl ⟨by rfl, ?_⟩) hS ?_
        rotate_left
        · intro w' hSw
          try dsimp only at hSw
          go_simp
          try with_reducible rfl
        try simp only [Act.put, List.setIfInBounds_toArray, List.set_cons_zero, List.set_cons_succ, List.getElem_toArray, List.getElem_cons_succ, List.getElem_cons_zero]
        refine wpAnyH_take (i := 15) (v := ?_) rfl (by kernel_rfl) (by kernel_rfl) (by kernel_rfl) (fun _ _ _ h => h) (Or.inl ⟨by rfl, ?_⟩) hS ?_
        rotate_left
        · intro w' hSw
          try dsimp only at hSw
          go_simp
          try with_reducible rfl
        try simp only [Act.put, List.setIfInBounds_toArray, List.set_cons_zero, List.set_cons_succ, List.getElem_toArray, List.getElem_cons_succ, List.getElem_cons_zero]
        refine wpAnyH_take (i := 16) (v := ?_) rfl (by kernel_rfl) (by kernel_rfl) (by kernel_rfl) (fun _ _ _ h => h) (Or.inl ⟨by rfl, ?_⟩) hS ?_
        rotate_left
        · intro w' hSw
          try dsimp only at hSw
          go_simp
          try with_reducible rfl
        try simp only [Act.put, List.setIfInBounds_toArray, List.set_cons_zero, List.set_cons_succ, List.getElem_toArray, List.getElem_cons_succ, List.getElem_cons_zero]
        refine wpAnyH_ready (rs := [11]) (by kernel_rfl) (by simp) ?_
        refine AllReadyH.cons rfl (fun K hK => ?_) AllReadyH.nil
        replace hK := Lib.hid hK
        go_simp
        go_at_call 12
        refine (K1.out _ HB4.out).mono ?_
        rintro x w5 ⟨rfl, rfl⟩
        clear hS
        refine hK.out _ _ (((HB4.out).cell (p := ⟨pm, 0, none⟩) hpmlt).trans hc0) (fun hS => ?_)
        clear hK K
        try simp only [Act.put, List.setIfInBounds_toArray, List.set_cons_zero, List.set_cons_succ, List.getElem_toArray, List.getElem_cons_succ, List.getElem_cons_zero]
        refine wpAnyH_take (i := 17) (v := ?_) rfl (by kernel_rfl) (by kernel_rfl) (by kernel_rfl) (fun _ _ _ h => h) (Or.inl ⟨by rfl, ?_⟩) hS ?_
        rotate_left
        · intro w' hSw
          try dsimp only at hSw
          go_simp
          try with_reducible rfl
        try simp only [Act.put, List.setIfInBounds_toArray, List.set_cons_zero, List.set_cons_succ, List.getElem_toArray, List.getElem_cons_succ, List.getElem_cons_zero]
        refine wpAnyH_take (i := 18) (v := ?_) rfl (by kernel_rfl) (by kernel_rfl) (by kernel_rfl) (fun _ _ _ h => h) (Or.inl ⟨by rfl, ?_⟩) hS ?_
        rotate_left
        · intro w' hSw
          try dsimp only at hSw
          go_simp
          try with_reducible rfl
        try simp only [Act.put, List.setIfInBounds_toArray, List.set_cons_zero, List.set_cons_succ, List.getElem_toArray, List.getElem_cons_succ, List.getElem_cons_zero]
        refine wpAnyH_take (i := 19) (v := ?_) rfl (by kernel_rfl) (by kernel_rfl) (by kernel_rfl) (fun _ _ _ h => h) (Or.inl ⟨by rfl, ?_⟩) hS ?_
        rotate_left
        · intro w' hSw
          try dsimp only at hSw
          go_simp
          try with_reducible rfl
        try simp only [Act.put, List.setIfInBounds_toArray, List.set_cons_zero, List.set_cons_succ, List.getElem_toArray, List.getElem_cons_succ, List.getElem_cons_zero]
        refine wpAnyH_take (i := 20) (v := ?_) rfl (by kernel_rfl) (by kernel_rfl) (by kernel_rfl) (fun _ _ _ h => h) (Or.inl ⟨by rfl, ?_⟩) hS ?_
        rotate_left
        · intro w' hSw
          try dsimp only at hSw
          go_simp
          try with_reducible rfl
        try simp only [Act.put, List.setIfInBounds_toArray, List.set_cons_zero, List.set_cons_succ, List.getElem_toArray, List.getElem_cons_succ, List.getElem_cons_zero]
        refine wpAnyH_take (i := 22) (v := ?_) rfl (by kernel_rfl) (by kernel_rfl) (by kernel_rfl) (fun _ _ _ h => h) (Or.inl ⟨by rfl, ?_⟩) hS ?_
        rotate_left
        · intro w' hSw
          try dsimp only at hSw
          go_simp
          try with_reducible rfl
        try simp only [Act.put, List.setIfInBounds_toArray, List.set_cons_zero, List.set_cons_succ, List.getElem_toArray, List.getElem_cons_succ, List.getElem_cons_zero]
        refine wpAnyH_ready (rs := [21]) (by kernel_rfl) (by simp) ?_
        refine AllReadyH.cons rfl (fun K hK => ?_) AllReadyH.nil
        replace hK := Lib.hid hK
        go_simp
        go_at_call 20
        refine (K2.out _ HB4.out).mono ?_
        rintro x w6 ⟨u6, rfl, hu6, hb6⟩
        have HB6 := Lib.hid (bel_then HB4.out hb6)
        have HR6 := Lib.hid (Row.owned hu6)
        clear hu6 hb6 hS
        refine hK.out _ _ (((HB6.out).cell (p := ⟨pm, 0, none⟩) hpmlt).trans hc0) (fun hS => ?_)
        clear hK K
        try simp only [Act.put, List.setIfInBounds_toArray, List.set_cons_zero, List.set_cons_succ, List.getElem_toArray, List.getElem_cons_succ, List.getElem_cons_zero]
        refine wpAnyH_ready (rs := [23]) (by kernel_rfl) (by simp) ?_
        refine AllReadyH.cons rfl (fun K hK => ?_) AllReadyH.nil
        replace hK := Lib.hid hK
        go_simp
        go_at_call 21
        refine (K3.out _ HB6.out).mono ?_
        rintro x w7 ⟨u7, rfl, hu7, hb7⟩
        have HB7 := Lib.hid (bel_then HB6.out hb7)
        have HR7 := Lib.hid (And.intro (HR6.out.below hb7) (Row.owned hu7))
        clear hu7 hb7 hS
        refine hK.out _ _ (((HB7.out).cell (p := ⟨pm, 0, none⟩) hpmlt).trans hc0) (fun hS => ?_)
        clear hK K
        try simp only [Act.put, List.setIfInBounds_toArray, List.set_cons_zero, List.set_cons_succ, List.getElem_toArray, List.getElem_cons_succ, List.getElem_cons_zero]
        refine wpAnyH_ready (rs := [24]) (by kernel_rfl) (by simp) ?_
        refine AllReadyH.cons rfl (fun K hK => ?_) AllReadyH.nil
        replace hK := Lib.hid hK
        go_simp
        go_at_call 19
        refine (refSame_any C C _ _ _ HR7.out.1 HR7.out.2 (by omega) (by omega)).mono ?_
        rintro x w8 ⟨rfl, hb8⟩
        rw [decide_eq_true (rfl : C = C)]
        have HB8 := Lib.hid (bel_then HB7.out hb8)
        clear hb8 hS
        refine hK.out _ _ (((HB8.out).cell (p := ⟨pm, 0, none⟩) hpmlt).trans hc0) (fun hS => ?_)
        clear hK K
        try simp only [Act.put, List.setIfInBounds_toArray, List.set_cons_zero, List.set_cons_succ, List.getElem_toArray, List.getElem_cons_succ, List.getElem_cons_zero]
        refine wpAnyH_take (i := 25) (v := ?_) rfl (by kernel_rfl) (by kernel_rfl) (by kernel_rfl) (fun _ _ _ h => h) (Or.inl ⟨by rfl, ?_⟩) hS ?_
        rotate_left
        · intro w' hSw
          try dsimp only at hSw
          go_simp
          try with_reducible rfl
        try simp only [Act.put, List.setIfInBounds_toArray, List.set_cons_zero, List.set_cons_succ, List.getElem_toArray, List.getElem_cons_succ, List.getElem_cons_zero]
        refine wpAnyH_take (i := 26) (v := ?_) rfl (by kernel_rfl) (by kernel_rfl) (by kernel_rfl) (fun _ _ _ h => h) (Or.inl ⟨by rfl, ?_⟩) hS ?_
        rotate_left
        · intro w' hSw
          try dsimp only at hSw
          go_simp
          try with_reducible rfl
        try simp only [Act.put, List.setIfInBounds_toArray, List.set_cons_zero, List.set_cons_succ, List.getElem_toArray, List.getElem_cons_succ, List.getElem_cons_zero]
        refine wpAnyH_take (i := 27) (v := ?_) rfl (by kernel_rfl) (by kernel_rfl) (by kernel_rfl) (fun _ _ _ h => h) (Or.inl ⟨by rfl, ?_⟩) hS ?_
        rotate_left
        · intro w' hSw
          try dsimp only at hSw
          go_simp
          try with_reducible rfl
        try simp only [Act.put, List.setIfInBounds_toArray, List.set_cons_zero, List.set_cons_succ, List.getElem_toArray, List.getElem_cons_succ, List.getElem_cons_zero]
        refine wpAnyH_take (i := 28) (v := ?_) rfl (by kernel_rfl) (by kernel_rfl) (by kernel_rfl) (fun _ _ _ h => h) (Or.inl ⟨by rfl, ?_⟩) hS ?_
        rotate_left
        · intro w' hSw
          try dsimp only at hSw
          go_simp
          try with_reducible rfl
        try simp only [Act.put, List.setIfInBounds_toArray, List.set_cons_zero, List.set_cons_succ, List.getElem_toArray, List.getElem_cons_succ, List.getElem_cons_zero]
        refine wpAnyH_take (i := 29) (v := ?_) rfl (by kernel_rfl) (by kernel_rfl) (by kernel_rfl) (fun _ _ _ h => h) (Or.inl ⟨by rfl, ?_⟩) hS ?_
        rotate_left
        · intro w' hSw
          try dsimp only at hSw
          go_simp
          try with_reducible rfl
        try simp only [Act.put, List.setIfInBounds_toArray, List.set_cons_zero, List.set_cons_succ, List.getElem_toArray, List.getElem_cons_succ, List.getElem_cons_zero]
        refine wpAnyH_take (i := 31) (v := ?_) rfl (by kernel_rfl) (by kernel_rfl) (by kernel_rfl) (fun _ _ _ h => h) (Or.inl ⟨by rfl, ?_⟩) hS ?_
        rotate_left
        · intro w' hSw
          try dsimp only at hSw
          go_simp
          try with_reducible rfl
        try simp only [Act.put, List.setIfInBounds_toArray, List.set_cons_zero, List.set_cons_succ, List.getElem_toArray, List.getElem_cons_succ, List.getElem_cons_zero]
        refine wpAnyH_take (i := 32) (v := ?_) rfl (by kernel_rfl) (by kernel_rfl) (by kernel_rfl) (fun _ _ _ h => h) (Or.inl ⟨by rfl, ?_⟩) hS ?_
        rotate_left
        · intro w' hSw
          try dsimp only at hSw
          go_simp
          try with_reducible rfl
        try simp only [Act.put, List.setIfInBounds_toArray, List.set_cons_zero, List.set_cons_succ, List.getElem_toArray, List.getElem_cons_succ, List.getElem_cons_zero]
        refine wpAnyH_take (i := 33) (v := ?_) rfl (by kernel_rfl) (by kernel_rfl) (by kernel_rfl) (fun _ _ _ h => h) (Or.inl ⟨by rfl, ?_⟩) hS ?_
        rotate_left
        · intro w' hSw
          try dsimp only at hSw
          go_simp
          try with_reducible rfl
        try simp only [Act.put, List.setIfInBounds_toArray, List.set_cons_zero, List.set_cons_succ, List.getElem_toArray, List.getElem_cons_succ, List.getElem_cons_zero]
        refine wpAnyH_ready (rs := [30]) (by kernel_rfl) (by simp) ?_
        refine AllReadyH.cons rfl (fun K hK => ?_) AllReadyH.nil
        replace hK := Lib.hid hK
        go_simp
        go_at_call 11
        refine (K4.out _ HB8.out).mono ?_
        rintro x w9 ⟨u9, rfl, hu9, hb9⟩
        have HB9 := Lib.hid (bel_then HB8.out hb9)
        have HR9 := Lib.hid (Row.owned hu9)
        clear hu9 hb9 hS
        refine hK.out _ _ (((HB9.out).cell (p := ⟨pm, 0, none⟩) hpmlt).trans hc0) (fun hS => ?_)
        clear hK K
        try simp only [Act.put, List.setIfInBounds_toArray, List.set_cons_zero, List.set_cons_succ, List.getElem_toArray, List.getElem_cons_succ, List.getElem_cons_zero]
        refine wpAnyH_ready (rs := [34]) (by kernel_rfl) (by simp) ?_
        refine AllReadyH.cons rfl (fun K hK => ?_) AllReadyH.nil
        replace hK := Lib.hid hK
        go_simp
        go_at_call 22
        refine (K5.out _ HB9.out).mono ?_
        rintro x w10 ⟨u10, rfl, hu10, hb10⟩
        have HB10 := Lib.hid (bel_then HB9.out hb10)
        have HR10 := Lib.hid (And.intro (HR9.out.below hb10) (Row.owned hu10))
        clear hu10 hb10 hS
        refine hK.out _ _ (((HB10.out).cell (p := ⟨pm, 0, none⟩) hpmlt).trans hc0) (fun hS => ?_)
        clear hK K
        try simp only [Act.put, List.setIfInBounds_toArray, List.set_cons_zero, List.set_cons_succ, List.getElem_toArray, List.getElem_cons_succ, List.getElem_cons_zero]
        refine wpAnyH_ready (rs := [35]) (by kernel_rfl) (by simp) ?_
        refine AllReadyH.cons rfl (fun K hK => ?_) AllReadyH.nil
        replace hK := Lib.hid hK
        go_simp
        go_at_call 13
        refine (ints7_same X _ _ _ HR10.out.1 HR10.out.2 (by omega)).mono ?_
        rintro x w11 ⟨rfl, hb11⟩
        have HB11 := Lib.hid (bel_then HB10.out hb11)
        clear hb11 hS
        refine hK.out _ _ (((HB11.out).cell (p := ⟨pm, 0, none⟩) hpmlt).trans hc0) (fun hS => ?_)
        clear hK K
        try simp only [Act.put, List.setIfInBounds_toArray, List.set_cons_zero, List.set_cons_succ, List.getElem_toArray, List.getElem_cons_succ, List.getElem_cons_zero]
        refine wpAnyH_take (i := 36) (v := ?_) rfl (by kernel_rfl) (by kernel_rfl) (by kernel_rfl) (fun _ _ _ h => h) (Or.inl ⟨by rfl, ?_⟩) hS ?_
        rotate_left
        · intro w' hSw
          try dsimp only at hSw
          go_simp
          try with_reducible rfl
        try simp only [Act.put, List.setIfInBounds_toArray, List.set_cons_zero, List.set_cons_succ, List.getElem_toArray, List.getElem_cons_succ, List.getElem_cons_zero]
        refine wpAnyH_take (i := 37) (v := ?_) rfl (by kernel_rfl) (by kernel_rfl) (by kernel_rfl) (fun _ _ _ h => h) (Or.inl ⟨by rfl, ?_⟩) hS ?_
        rotate_left
        · intro w' hSw
          try dsimp only at hSw
          go_simp
          try with_reducible rfl
        try simp only [Act.put, List.setIfInBounds_toArray, List.set_cons_zero, List.set_cons_succ, List.getElem_toArray, List.getElem_cons_succ, List.getElem_cons_zero]
        refine wpAnyH_take (i := 38) (v := ?_) rfl (by kernel_rfl) (by kernel_rfl) (by kernel_rfl) (fun _ _ _ h => h) (Or.inl ⟨by rfl, ?_⟩) hS ?_
        rotate_left
        · intro w' hSw
          try dsimp only at hSw
          go_simp
          try with_reducible rfl
        try simp only [Act.put, List.setIfInBounds_toArray, List.set_cons_zero, List.set_cons_succ, List.getElem_toArray, List.getElem_cons_succ, List.getElem_cons_zero]
        refine wpAnyH_take (i := 39) (v := ?_) rfl (by kernel_rfl) (by kernel_rfl) (by kernel_rfl) (fun _ _ _ h => h) (Or.inl ⟨by rfl, ?_⟩) hS ?_
        rotate_left
        · intro w' hSw
          try dsimp only at hSw
          go_simp
          try with_reducible rfl
        try simp only [Act.put, List.setIfInBounds_toArray, List.set_cons_zero, List.set_cons_succ, List.getElem_toArray, List.getElem_cons_succ, List.getElem_cons_zero]
        refine wpAnyH_take (i := 41) (v := ?_) rfl (by kernel_rfl) (by kernel_rfl) (by kernel_rfl) (fun _ _ _ h => h) (Or.inl ⟨by rfl, ?_⟩) hS ?_
        rotate_left
        · intro w' hSw
          try dsimp only at hSw
          go_simp
          try with_reducible rfl
        try simp only [Act.put, List.setIfInBounds_toArray, List.set_cons_zero, List.set_cons_succ, List.getElem_toArray, List.getElem_cons_succ, List.getElem_cons_zero]
        refine wpAnyH_take (i := 42) (v := ?_) rfl (by kernel_rfl) (by kernel_rfl) (by kernel_rfl) (fun _ _ _ h => h) (Or.inl ⟨by rfl, ?_⟩) hS ?_
        rotate_left
        · intro w' hSw
          try dsimp only at hSw
          go_simp
          try with_reducible rfl
        try simp only [Act.put, List.setIfInBounds_toArray, List.set_cons_zero, List.set_cons_succ, List.getElem_toArray, List.getElem_cons_succ, List.getElem_cons_zero]
        refine wpAnyH_ready (rs := [40]) (by kernel_rfl) (by simp) ?_
        refine AllReadyH.cons rfl (fun K hK => ?_) AllReadyH.nil
        replace hK := Lib.hid hK
        go_simp
        go_at_call 15
        refine (K6.out _ HB11.out).mono ?_
        rintro x w12 ⟨u12, rfl, hu12, hb12⟩
        have HB12 := Lib.hid (bel_then HB11.out hb12)
        have HR12 := Lib.hid (Row.owned hu12)
        clear hu12 hb12 hS
        refine hK.out _ _ (((HB12.out).cell (p := ⟨pm, 0, none⟩) hpmlt).trans hc0) (fun hS => ?_)
        clear hK K
        try simp only [Act.put, List.setIfInBounds_toArray, List.set_cons_zero, List.set_cons_succ, List.getElem_toArray, List.getElem_cons_succ, List.getElem_cons_zero]
        refine wpAnyH_ready (rs := [43]) (by kernel_rfl) (by simp) ?_
        refine AllReadyH.cons rfl (fun K hK => ?_) AllReadyH.nil
        replace hK := Lib.hid hK
        go_simp
        go_at_call 23
        refine (K7.out _ HB12.out).mono ?_
        rintro x w13 ⟨u13, rfl, hu13, hb13⟩
        have HB13 := Lib.hid (bel_then HB12.out hb13)
        have HR13 := Lib.hid (And.intro (HR12.out.below hb13) (Row.owned hu13))
        clear hu13 hb13 hS
        refine hK.out _ _ (((HB13.out).cell (p := ⟨pm, 0, none⟩) hpmlt).trans hc0) (fun hS => ?_)
        clear hK K
        try simp only [Act.put, List.setIfInBounds_toArray, List.set_cons_zero, List.set_cons_succ, List.getElem_toArray, List.getElem_cons_succ, List.getElem_cons_zero]
        refine wpAnyH_ready (rs := [44]) (by kernel_rfl) (by simp) ?_
        refine AllReadyH.cons rfl (fun K hK => ?_) AllReadyH.nil
        replace hK := Lib.hid hK
        go_simp
        go_at_call 13
        refine (ints7_same R _ _ _ HR13.out.1 HR13.out.2 (by omega)).mono ?_
        rintro x w14 ⟨rfl, hb14⟩
        have HB14 := Lib.hid (bel_then HB13.out hb14)
        clear hb14 hS
        refine hK.out _ _ (((HB14.out).cell (p := ⟨pm, 0, none⟩) hpmlt).trans hc0) (fun hS => ?_)
        clear hK K
        try simp only [Act.put, List.setIfInBounds_toArray, List.set_cons_zero, List.set_cons_succ, List.getElem_toArray, List.getElem_cons_succ, List.getElem_cons_zero]
        refine wpAnyH_take (i := 45) (v := ?_) rfl (by kernel_rfl) (by kernel_rfl) (by kernel_rfl) (fun _ _ _ h => h) (Or.inl ⟨by rfl, ?_⟩) hS ?_
        rotate_left
        · intro w' hSw
          try dsimp only at hSw
          go_simp
          try with_reducible rfl
        try simp only [Act.put, List.setIfInBounds_toArray, List.set_cons_zero, List.set_cons_succ, List.getElem_toArray, List.getElem_cons_succ, List.getElem_cons_zero]
        refine wpAnyH_ready (rs := [46]) (by kernel_rfl) (by simp) ?_
        refine AllReadyH.cons rfl (fun K hK => ?_) AllReadyH.nil
        replace hK := Lib.hid hK
        go_simp
        refine hK.out _ _ hS (fun _ => ?_)
        clear hK K
        try simp only [Act.put, List.setIfInBounds_toArray, List.set_cons_zero, List.set_cons_succ, List.getElem_toArray, List.getElem_cons_succ, List.getElem_cons_zero]
        refine wpAnyH_done (by kernel_rfl) ?_ _
        go_wp2_with fail
        go_ret
        exact ⟨rfl, bel_then HBX.out (bel_then HB2.out (bel_then HB3.out HB14.out))⟩
end Go.Proofs.YtmgfpcblbbpahaaGreat
