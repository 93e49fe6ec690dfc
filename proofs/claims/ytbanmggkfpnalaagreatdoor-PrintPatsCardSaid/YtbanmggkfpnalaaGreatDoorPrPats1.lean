/- gobolaw14.PrintPats. -/
import Derived.Test.YtbanmggkfpnalaaGreatDoorPrPats
set_option linter.unusedVariables false
set_option linter.unusedSimpArgs false
namespace Go.Proofs.YtbanmggkfpnalaaGreatDoor
open Go.RowKit Ru

set_option maxHeartbeats 8000000 in
set_option maxRecDepth 100000 in
theorem pats_10r (a b : Int) (w : World) (hT : TZ w) (ha : (IntKind.u64.wrap a).tmod 3 = 1) (hb : (IntKind.u64.wrap b).tmod 3 = 0) :
    Calls Tryz.prog 5 #[.int .i64 a, .int .i64 b, .bool true] w fun e w' => e = .returned (.bool true) ∧ Below w.heap.size w w' := by
  have HT := Lib.hid (fun w' (hb : Below w.heap.size w w') => told14_any w' (hT.moved hb))
  clear hT
  go_enter Tryz.func5, Tryz.ntmps5
  go_upto_region 4 with (fail)
  obtain ⟨hbW, h0, h1, h2⟩ := three_world w w (.cells #[.int .i64 5, .int .i64 6, .int .i64 7] 3) (.cells #[.string ⟨#[97]⟩] 9) (.cells #[.int .i64 2, .slice (some ⟨w.heap.size + 1, 0, none⟩) 1 1, .slice none 0 0, .slice none 0 0] 47) (Below.refl _ _)
  obtain ⟨W, hW⟩ : ∃ W, W = ((w.alloc (.cells #[.int .i64 5, .int .i64 6, .int .i64 7] 3)).alloc (.cells #[.string ⟨#[97]⟩] 9)).alloc (.cells #[.int .i64 2, .slice (some ⟨w.heap.size + 1, 0, none⟩) 1 1, .slice none 0 0, .slice none 0 0] 47) := ⟨_, rfl⟩
  rw [← hW] at hbW h0 h1 h2 ⊢
  clear hW
  obtain ⟨p1, hp1⟩ : ∃ p, p = w.heap.size + 1 := ⟨_, rfl⟩
  rw [← hp1] at h1 h2 ⊢
  obtain ⟨p2, hp2⟩ : ∃ p, p = p1 + 1 := ⟨_, rfl⟩
  rw [← hp2] at h2 ⊢
  obtain ⟨p0, hp0⟩ : ∃ p, p = w.heap.size := ⟨_, rfl⟩
  simp only [← hp0] at h0 ⊢
  have c0 : W.cell? ⟨p0, 0, none⟩ = some (.int .i64 5) := by simp [World.cell?, h0]
  obtain ⟨d0, d1, d2, d3⟩ := cell4_of h2
  have HBW := Lib.hid hbW
  have HH := Lib.hid (And.intro h0 (And.intro h1 h2))
  clear hbW h0 h1 h2 hp1 hp2 hp0
  go_cut [11] (fun s11 wx => ∃ p11 pb : Nat, s11 = .pointer (some ⟨p11, 0, none⟩) ∧ wx.heap[p11]? = some (.cells #[.int .i64 5, .slice none 0 0, .slice none 0 0, .slice (some ⟨pb, 0, none⟩) 2 2] 47 (0, 0)) ∧ wx.heap[pb]? = some (.cells #[.int .i64 2, .slice (some ⟨p1, 0, none⟩) 1 1, .slice none 0 0, .slice none 0 0, .int .i64 2, .slice (some ⟨p1, 0, none⟩) 1 1, .slice none 0 0, .slice none 0 0] 47 (0, 0)) ∧ W.heap.size ≤ p11 ∧ Below W.heap.size W wx)
  case first =>
    go_region_held3 (fun w' => w'.cell? ⟨p0, 0, none⟩ = some (.int .i64 5) ∧ w'.cell? ⟨p2, 0, none⟩ = some (.int .i64 2) ∧ w'.cell? ⟨p2, 1, none⟩ = some (.slice (some ⟨p1, 0, none⟩) 1 1) ∧ w'.cell? ⟨p2, 2, none⟩ = some (.slice none 0 0) ∧ w'.cell? ⟨p2, 3, none⟩ = some (.slice none 0 0))
      (first | trivial | (refine ⟨?_, ?_, ?_, ?_, ?_⟩ <;> refine cell_later (w := W) ?_ (by assumption) <;> repeat (first | exact Below.refl _ _ | refine Below.drew ?_ | refine bel_new ?_ _ | refine Below.setCell ?_ (by simp <;> omega) _)))
      (fail)
    all_goals (go_wp2_with fail)
    all_goals go_meet
    all_goals (exact ⟨_, _, rfl, by first | exact al_snd _ _ _ | exact al_fst _ _ _, by first | exact al_fst _ _ _ | exact al_snd _ _ _, by simp, by repeat (first | exact Below.refl _ _ | refine Below.drew ?_ | refine bel_new ?_ _)⟩)
  case rest =>
    obtain ⟨p11, pb, rfl, hE, hP, hle, hbx⟩ := hcut
    clear c0 d0 d1 d2 d3
    have h1x := bel_get hbx HH.out.2.1
    have h2x := bel_get hbx HH.out.2.2
    have h0x := bel_get hbx HH.out.1
    have HBX := Lib.hid (bel_then HBW.out hbx)
    have HX := Lib.hid (And.intro hE (And.intro hP (And.intro h0x (And.intro h1x h2x))))
    clear hE hP hbx h0x h1x h2x HH
    go_upto_region 16 with (fail)
    obtain ⟨W2, hW2⟩ : ∃ W2, W2 = ((wc.alloc (.cells #[.string ⟨#[123, 97, 125, 32, 123, 97, 125]⟩, .string ⟨#[123, 97, 125, 124, 123, 97, 125]⟩, .string ⟨#[123, 97, 125, 42]⟩] 9)).alloc (.cells #[.string ⟨#[32]⟩, .string ⟨#[124]⟩] 9)) := ⟨_, rfl⟩
    have hb2 : Below wc.heap.size wc W2 := by rw [hW2]; exact bel_new (bel_new (Below.refl _ _) _) _
    rw [← hW2]
    clear hW2
    have hE := bel_get hb2 HX.out.1
    have hP := bel_get hb2 HX.out.2.1
    have h0 := bel_get hb2 HX.out.2.2.1
    have h1 := bel_get hb2 HX.out.2.2.2.1
    have h2 := bel_get hb2 HX.out.2.2.2.2
    have HBY := Lib.hid (bel_then HBX.out hb2)
    have HP := Lib.hid (fun (k : World) (q : Nat) (hq : q = k.heap.size) (hk : Below W2.heap.size W2 k) => show Calls Tryz.prog 17 #[.agg #[.int .i64 6, .slice none 0 0, .slice none 0 0, .slice (some ⟨q, 0, none⟩) 2 2]] (k.alloc (.cells #[.int .i64 2, .slice (some ⟨p1, 0, none⟩) 1 1, .slice none 0 0, .slice none 0 0, .int .i64 5, .slice none 0 0, .slice none 0 0, .slice (some ⟨pb, 0, none⟩) 2 2] 47)) fun e w' => e = .returned (.string (patP (.mk 6 [] [] [tA, .mk 5 [] [] [tA, tA]]))) ∧ Below W2.heap.size W2 w' from by
      subst hq
      have hk2 := hk.alloc hk.size (.cells #[.int .i64 2, .slice (some ⟨p1, 0, none⟩) 1 1, .slice none 0 0, .slice none 0 0, .int .i64 5, .slice none 0 0, .slice none 0 0, .slice (some ⟨pb, 0, none⟩) 2 2] 47)
      have a := pt_tA (bel_get hk2 h1)
      have b := pt_two 5 (x := tA) (y := tA) (bel_get hk2 hP) a a
      have c := pt_two 6 (x := tA) (y := .mk 5 [] [] [tA, tA]) (heap_alloc_new k _) a b
      refine (prPat_any _ _ _ _ _ c (two_fit _ tA_fit (two_fit _ tA_fit tA_fit)) (two_shn _ tA_shn (two_shn _ tA_shn tA_shn))).mono ?_
      rintro e w' ⟨rfl, hb⟩
      exact ⟨rfl, bel_then hk2 hb⟩)
    rw [show patP (.mk 6 [] [] [tA, .mk 5 [] [] [tA, tA]]) = ⟨#[123, 97, 125, 124, 123, 97, 125, 32, 123, 97, 125]⟩ by decide +kernel] at HP
    have c0 : W2.cell? ⟨p0, 1, none⟩ = some (.int .i64 6) := by simp [World.cell?, h0]
    obtain ⟨d0, d1, d2, d3⟩ := cell4_of h2
    obtain ⟨f0, f1, f2, f3⟩ := cell4_of hE
    clear hE hP h0 h1 h2 HX hb2
    go_region_held3 (fun w' => w'.cell? ⟨p0, 1, none⟩ = some (.int .i64 6) ∧ w'.cell? ⟨p2, 0, none⟩ = some (.int .i64 2) ∧ w'.cell? ⟨p2, 1, none⟩ = some (.slice (some ⟨p1, 0, none⟩) 1 1) ∧ w'.cell? ⟨p2, 2, none⟩ = some (.slice none 0 0) ∧ w'.cell? ⟨p2, 3, none⟩ = some (.slice none 0 0) ∧
        w'.cell? ⟨p11, 0, none⟩ = some (.int .i64 5) ∧ w'.cell? ⟨p11, 1, none⟩ = some (.slice none 0 0) ∧ w'.cell? ⟨p11, 2, none⟩ = some (.slice none 0 0) ∧ w'.cell? ⟨p11, 3, none⟩ = some (.slice (some ⟨pb, 0, none⟩) 2 2))
      (first | trivial | (refine ⟨?_, ?_, ?_, ?_, ?_, ?_, ?_, ?_, ?_⟩ <;> refine cell_later (w := W2) ?_ (by assumption) <;> repeat (first | exact Below.refl _ _ | exact hv | exact hzz | refine Below.drew ?_ | refine bel_new ?_ _)))
      (first
        | (go_at_call 7; refine (HT.out _ (by repeat (first | exact HBY.out | refine Below.drew ?_))).mono ?_; rintro e wz ⟨rfl, hz⟩; have hzz := Below.trans (show Below W2.heap.size W2 W2.drew from (Below.refl _ _).drew) hz)
        | (go_at_call 17; refine (HP.out _ _ (by first | rfl | simp) (by repeat (first | exact hzz | refine Below.drew ?_))).mono ?_; rintro e wv ⟨rfl, hv⟩))
    all_goals (go_wp2_with fail)
    all_goals go_ret
    all_goals (exact ⟨by first | kernel_rfl | (show Ending.returned (Value.bool (_ == _)) = _; rw [show (_ == _) = true from by decide +kernel]), bel_then HBY.out hv⟩)
set_option maxHeartbeats 8000000 in
set_option maxRecDepth 100000 in
theorem pats_10l (a b : Int) (w : World) (hT : TZ w) (ha : (IntKind.u64.wrap a).tmod 3 = 1) (hb : (IntKind.u64.wrap b).tmod 3 = 0) :
    Calls Tryz.prog 5 #[.int .i64 a, .int .i64 b, .bool false] w fun e w' => e = .returned (.bool true) ∧ Below w.heap.size w w' := by
  have HT := Lib.hid (fun w' (hb : Below w.heap.size w w') => told14_any w' (hT.moved hb))
  clear hT
  go_enter Tryz.func5, Tryz.ntmps5
  go_upto_region 4 with (fail)
  obtain ⟨hbW, h0, h1, h2⟩ := three_world w w (.cells #[.int .i64 5, .int .i64 6, .int .i64 7] 3) (.cells #[.string ⟨#[97]⟩] 9) (.cells #[.int .i64 2, .slice (some ⟨w.heap.size + 1, 0, none⟩) 1 1, .slice none 0 0, .slice none 0 0] 47) (Below.refl _ _)
  obtain ⟨W, hW⟩ : ∃ W, W = ((w.alloc (.cells #[.int .i64 5, .int .i64 6, .int .i64 7] 3)).alloc (.cells #[.string ⟨#[97]⟩] 9)).alloc (.cells #[.int .i64 2, .slice (some ⟨w.heap.size + 1, 0, none⟩) 1 1, .slice none 0 0, .slice none 0 0] 47) := ⟨_, rfl⟩
  rw [← hW] at hbW h0 h1 h2 ⊢
  clear hW
  obtain ⟨p1, hp1⟩ : ∃ p, p = w.heap.size + 1 := ⟨_, rfl⟩
  rw [← hp1] at h1 h2 ⊢
  obtain ⟨p2, hp2⟩ : ∃ p, p = p1 + 1 := ⟨_, rfl⟩
  rw [← hp2] at h2 ⊢
  obtain ⟨p0, hp0⟩ : ∃ p, p = w.heap.size := ⟨_, rfl⟩
  simp only [← hp0] at h0 ⊢
  have c0 : W.cell? ⟨p0, 0, none⟩ = some (.int .i64 5) := by simp [World.cell?, h0]
  obtain ⟨d0, d1, d2, d3⟩ := cell4_of h2
  have HBW := Lib.hid hbW
  have HH := Lib.hid (And.intro h0 (And.intro h1 h2))
  clear hbW h0 h1 h2 hp1 hp2 hp0
  go_cut [11] (fun s11 wx => ∃ p11 pb : Nat, s11 = .pointer (some ⟨p11, 0, none⟩) ∧ wx.heap[p11]? = some (.cells #[.int .i64 5, .slice none 0 0, .slice none 0 0, .slice (some ⟨pb, 0, none⟩) 2 2] 47 (0, 0)) ∧ wx.heap[pb]? = some (.cells #[.int .i64 2, .slice (some ⟨p1, 0, none⟩) 1 1, .slice none 0 0, .slice none 0 0, .int .i64 2, .slice (some ⟨p1, 0, none⟩) 1 1, .slice none 0 0, .slice none 0 0] 47 (0, 0)) ∧ W.heap.size ≤ p11 ∧ Below W.heap.size W wx)
  case first =>
    go_region_held3 (fun w' => w'.cell? ⟨p0, 0, none⟩ = some (.int .i64 5) ∧ w'.cell? ⟨p2, 0, none⟩ = some (.int .i64 2) ∧ w'.cell? ⟨p2, 1, none⟩ = some (.slice (some ⟨p1, 0, none⟩) 1 1) ∧ w'.cell? ⟨p2, 2, none⟩ = some (.slice none 0 0) ∧ w'.cell? ⟨p2, 3, none⟩ = some (.slice none 0 0))
      (first | trivial | (refine ⟨?_, ?_, ?_, ?_, ?_⟩ <;> refine cell_later (w := W) ?_ (by assumption) <;> repeat (first | exact Below.refl _ _ | refine Below.drew ?_ | refine bel_new ?_ _ | refine Below.setCell ?_ (by simp <;> omega) _)))
      (fail)
    all_goals (go_wp2_with fail)
    all_goals go_meet
    all_goals (exact ⟨_, _, rfl, by first | exact al_snd _ _ _ | exact al_fst _ _ _, by first | exact al_fst _ _ _ | exact al_snd _ _ _, by simp, by repeat (first | exact Below.refl _ _ | refine Below.drew ?_ | refine bel_new ?_ _)⟩)
  case rest =>
    obtain ⟨p11, pb, rfl, hE, hP, hle, hbx⟩ := hcut
    clear c0 d0 d1 d2 d3
    have h1x := bel_get hbx HH.out.2.1
    have h2x := bel_get hbx HH.out.2.2
    have h0x := bel_get hbx HH.out.1
    have HBX := Lib.hid (bel_then HBW.out hbx)
    have HX := Lib.hid (And.intro hE (And.intro hP (And.intro h0x (And.intro h1x h2x))))
    clear hE hP hbx h0x h1x h2x HH
    go_upto_region 17 with (fail)
    obtain ⟨W2, hW2⟩ : ∃ W2, W2 = ((wc.alloc (.cells #[.string ⟨#[123, 97, 125, 32, 123, 97, 125]⟩, .string ⟨#[123, 97, 125, 124, 123, 97, 125]⟩, .string ⟨#[123, 97, 125, 42]⟩] 9)).alloc (.cells #[.string ⟨#[32]⟩, .string ⟨#[124]⟩] 9)) := ⟨_, rfl⟩
    have hb2 : Below wc.heap.size wc W2 := by rw [hW2]; exact bel_new (bel_new (Below.refl _ _) _) _
    rw [← hW2]
    clear hW2
    have hE := bel_get hb2 HX.out.1
    have hP := bel_get hb2 HX.out.2.1
    have h0 := bel_get hb2 HX.out.2.2.1
    have h1 := bel_get hb2 HX.out.2.2.2.1
    have h2 := bel_get hb2 HX.out.2.2.2.2
    have HBY := Lib.hid (bel_then HBX.out hb2)
    have HP := Lib.hid (fun (k : World) (q : Nat) (hq : q = k.heap.size) (hk : Below W2.heap.size W2 k) => show Calls Tryz.prog 17 #[.agg #[.int .i64 6, .slice none 0 0, .slice none 0 0, .slice (some ⟨q, 0, none⟩) 2 2]] (k.alloc (.cells #[.int .i64 5, .slice none 0 0, .slice none 0 0, .slice (some ⟨pb, 0, none⟩) 2 2, .int .i64 2, .slice (some ⟨p1, 0, none⟩) 1 1, .slice none 0 0, .slice none 0 0] 47)) fun e w' => e = .returned (.string (patP (.mk 6 [] [] [.mk 5 [] [] [tA, tA], tA]))) ∧ Below W2.heap.size W2 w' from by
      subst hq
      have hk2 := hk.alloc hk.size (.cells #[.int .i64 5, .slice none 0 0, .slice none 0 0, .slice (some ⟨pb, 0, none⟩) 2 2, .int .i64 2, .slice (some ⟨p1, 0, none⟩) 1 1, .slice none 0 0, .slice none 0 0] 47)
      have a := pt_tA (bel_get hk2 h1)
      have b := pt_two 5 (x := tA) (y := tA) (bel_get hk2 hP) a a
      have c := pt_two 6 (x := .mk 5 [] [] [tA, tA]) (y := tA) (heap_alloc_new k _) b a
      refine (prPat_any _ _ _ _ _ c (two_fit _ (two_fit _ tA_fit tA_fit) tA_fit) (two_shn _ (two_shn _ tA_shn tA_shn) tA_shn)).mono ?_
      rintro e w' ⟨rfl, hb⟩
      exact ⟨rfl, bel_then hk2 hb⟩)
    rw [show patP (.mk 6 [] [] [.mk 5 [] [] [tA, tA], tA]) = ⟨#[123, 97, 125, 32, 123, 97, 125, 124, 123, 97, 125]⟩ by decide +kernel] at HP
    have c0 : W2.cell? ⟨p0, 1, none⟩ = some (.int .i64 6) := by simp [World.cell?, h0]
    obtain ⟨d0, d1, d2, d3⟩ := cell4_of h2
    obtain ⟨f0, f1, f2, f3⟩ := cell4_of hE
    clear hE hP h0 h1 h2 HX hb2
    go_region_held3 (fun w' => w'.cell? ⟨p0, 1, none⟩ = some (.int .i64 6) ∧ w'.cell? ⟨p2, 0, none⟩ = some (.int .i64 2) ∧ w'.cell? ⟨p2, 1, none⟩ = some (.slice (some ⟨p1, 0, none⟩) 1 1) ∧ w'.cell? ⟨p2, 2, none⟩ = some (.slice none 0 0) ∧ w'.cell? ⟨p2, 3, none⟩ = some (.slice none 0 0) ∧
        w'.cell? ⟨p11, 0, none⟩ = some (.int .i64 5) ∧ w'.cell? ⟨p11, 1, none⟩ = some (.slice none 0 0) ∧ w'.cell? ⟨p11, 2, none⟩ = some (.slice none 0 0) ∧ w'.cell? ⟨p11, 3, none⟩ = some (.slice (some ⟨pb, 0, none⟩) 2 2))
      (first | trivial | (refine ⟨?_, ?_, ?_, ?_, ?_, ?_, ?_, ?_, ?_⟩ <;> refine cell_later (w := W2) ?_ (by assumption) <;> repeat (first | exact Below.refl _ _ | exact hv | exact hzz | refine Below.drew ?_ | refine bel_new ?_ _)))
      (first
        | (go_at_call 7; refine (HT.out _ (by repeat (first | exact HBY.out | refine Below.drew ?_))).mono ?_; rintro e wz ⟨rfl, hz⟩; have hzz := Below.trans (show Below W2.heap.size W2 W2.drew from (Below.refl _ _).drew) hz)
        | (go_at_call 17; refine (HP.out _ _ (by first | rfl | simp) (by repeat (first | exact hzz | refine Below.drew ?_))).mono ?_; rintro e wv ⟨rfl, hv⟩))
    all_goals (go_wp2_with fail)
    all_goals go_ret
    all_goals (exact ⟨by first | kernel_rfl | (show Ending.returned (Value.bool (_ == _)) = _; rw [show (_ == _) = true from by decide +kernel]), bel_then HBY.out hv⟩)
set_option maxHeartbeats 8000000 in
set_option maxRecDepth 100000 in
theorem pats_11r (a b : Int) (w : World) (hT : TZ w) (ha : (IntKind.u64.wrap a).tmod 3 = 1) (hb : (IntKind.u64.wrap b).tmod 3 = 1) :
    Calls Tryz.prog 5 #[.int .i64 a, .int .i64 b, .bool true] w fun e w' => e = .returned (.bool true) ∧ Below w.heap.size w w' := by
  have HT := Lib.hid (fun w' (hb : Below w.heap.size w w') => told14_any w' (hT.moved hb))
  clear hT
  go_enter Tryz.func5, Tryz.ntmps5
  go_upto_region 4 with (fail)
  obtain ⟨hbW, h0, h1, h2⟩ := three_world w w (.cells #[.int .i64 5, .int .i64 6, .int .i64 7] 3) (.cells #[.string ⟨#[97]⟩] 9) (.cells #[.int .i64 2, .slice (some ⟨w.heap.size + 1, 0, none⟩) 1 1, .slice none 0 0, .slice none 0 0] 47) (Below.refl _ _)
  obtain ⟨W, hW⟩ : ∃ W, W = ((w.alloc (.cells #[.int .i64 5, .int .i64 6, .int .i64 7] 3)).alloc (.cells #[.string ⟨#[97]⟩] 9)).alloc (.cells #[.int .i64 2, .slice (some ⟨w.heap.size + 1, 0, none⟩) 1 1, .slice none 0 0, .slice none 0 0] 47) := ⟨_, rfl⟩
  rw [← hW] at hbW h0 h1 h2 ⊢
  clear hW
  obtain ⟨p1, hp1⟩ : ∃ p, p = w.heap.size + 1 := ⟨_, rfl⟩
  rw [← hp1] at h1 h2 ⊢
  obtain ⟨p2, hp2⟩ : ∃ p, p = p1 + 1 := ⟨_, rfl⟩
  rw [← hp2] at h2 ⊢
  obtain ⟨p0, hp0⟩ : ∃ p, p = w.heap.size := ⟨_, rfl⟩
  simp only [← hp0] at h0 ⊢
  have c0 : W.cell? ⟨p0, 1, none⟩ = some (.int .i64 6) := by simp [World.cell?, h0]
  obtain ⟨d0, d1, d2, d3⟩ := cell4_of h2
  have HBW := Lib.hid hbW
  have HH := Lib.hid (And.intro h0 (And.intro h1 h2))
  clear hbW h0 h1 h2 hp1 hp2 hp0
  go_cut [11] (fun s11 wx => ∃ p11 pb : Nat, s11 = .pointer (some ⟨p11, 0, none⟩) ∧ wx.heap[p11]? = some (.cells #[.int .i64 6, .slice none 0 0, .slice none 0 0, .slice (some ⟨pb, 0, none⟩) 2 2] 47 (0, 0)) ∧ wx.heap[pb]? = some (.cells #[.int .i64 2, .slice (some ⟨p1, 0, none⟩) 1 1, .slice none 0 0, .slice none 0 0, .int .i64 2, .slice (some ⟨p1, 0, none⟩) 1 1, .slice none 0 0, .slice none 0 0] 47 (0, 0)) ∧ W.heap.size ≤ p11 ∧ Below W.heap.size W wx)
  case first =>
    go_region_held3 (fun w' => w'.cell? ⟨p0, 1, none⟩ = some (.int .i64 6) ∧ w'.cell? ⟨p2, 0, none⟩ = some (.int .i64 2) ∧ w'.cell? ⟨p2, 1, none⟩ = some (.slice (some ⟨p1, 0, none⟩) 1 1) ∧ w'.cell? ⟨p2, 2, none⟩ = some (.slice none 0 0) ∧ w'.cell? ⟨p2, 3, none⟩ = some (.slice none 0 0))
      (first | trivial | (refine ⟨?_, ?_, ?_, ?_, ?_⟩ <;> refine cell_later (w := W) ?_ (by assumption) <;> repeat (first | exact Below.refl _ _ | refine Below.drew ?_ | refine bel_new ?_ _ | refine Below.setCell ?_ (by simp <;> omega) _)))
      (fail)
    all_goals (go_wp2_with fail)
    all_goals go_meet
    all_goals (exact ⟨_, _, rfl, by first | exact al_snd _ _ _ | exact al_fst _ _ _, by first | exact al_fst _ _ _ | exact al_snd _ _ _, by simp, by repeat (first | exact Below.refl _ _ | refine Below.drew ?_ | refine bel_new ?_ _)⟩)
  case rest =>
    obtain ⟨p11, pb, rfl, hE, hP, hle, hbx⟩ := hcut
    clear c0 d0 d1 d2 d3
    have h1x := bel_get hbx HH.out.2.1
    have h2x := bel_get hbx HH.out.2.2
    have h0x := bel_get hbx HH.out.1
    have HBX := Lib.hid (bel_then HBW.out hbx)
    have HX := Lib.hid (And.intro hE (And.intro hP (And.intro h0x (And.intro h1x h2x))))
    clear hE hP hbx h0x h1x h2x HH
    go_upto_region 16 with (fail)
    obtain ⟨W2, hW2⟩ : ∃ W2, W2 = ((wc.alloc (.cells #[.string ⟨#[123, 97, 125, 32, 123, 97, 125]⟩, .string ⟨#[123, 97, 125, 124, 123, 97, 125]⟩, .string ⟨#[123, 97, 125, 42]⟩] 9)).alloc (.cells #[.string ⟨#[32]⟩, .string ⟨#[124]⟩] 9)) := ⟨_, rfl⟩
    have hb2 : Below wc.heap.size wc W2 := by rw [hW2]; exact bel_new (bel_new (Below.refl _ _) _) _
    rw [← hW2]
    clear hW2
    have hE := bel_get hb2 HX.out.1
    have hP := bel_get hb2 HX.out.2.1
    have h0 := bel_get hb2 HX.out.2.2.1
    have h1 := bel_get hb2 HX.out.2.2.2.1
    have h2 := bel_get hb2 HX.out.2.2.2.2
    have HBY := Lib.hid (bel_then HBX.out hb2)
    have HP := Lib.hid (fun (k : World) (q : Nat) (hq : q = k.heap.size) (hk : Below W2.heap.size W2 k) => show Calls Tryz.prog 17 #[.agg #[.int .i64 6, .slice none 0 0, .slice none 0 0, .slice (some ⟨q, 0, none⟩) 2 2]] (k.alloc (.cells #[.int .i64 2, .slice (some ⟨p1, 0, none⟩) 1 1, .slice none 0 0, .slice none 0 0, .int .i64 6, .slice none 0 0, .slice none 0 0, .slice (some ⟨pb, 0, none⟩) 2 2] 47)) fun e w' => e = .returned (.string (patP (.mk 6 [] [] [tA, .mk 6 [] [] [tA, tA]]))) ∧ Below W2.heap.size W2 w' from by
      subst hq
      have hk2 := hk.alloc hk.size (.cells #[.int .i64 2, .slice (some ⟨p1, 0, none⟩) 1 1, .slice none 0 0, .slice none 0 0, .int .i64 6, .slice none 0 0, .slice none 0 0, .slice (some ⟨pb, 0, none⟩) 2 2] 47)
      have a := pt_tA (bel_get hk2 h1)
      have b := pt_two 6 (x := tA) (y := tA) (bel_get hk2 hP) a a
      have c := pt_two 6 (x := tA) (y := .mk 6 [] [] [tA, tA]) (heap_alloc_new k _) a b
      refine (prPat_any _ _ _ _ _ c (two_fit _ tA_fit (two_fit _ tA_fit tA_fit)) (two_shn _ tA_shn (two_shn _ tA_shn tA_shn))).mono ?_
      rintro e w' ⟨rfl, hb⟩
      exact ⟨rfl, bel_then hk2 hb⟩)
    rw [show patP (.mk 6 [] [] [tA, .mk 6 [] [] [tA, tA]]) = ⟨#[123, 97, 125, 124, 40, 123, 97, 125, 124, 123, 97, 125, 41]⟩ by decide +kernel] at HP
    have c0 : W2.cell? ⟨p0, 1, none⟩ = some (.int .i64 6) := by simp [World.cell?, h0]
    obtain ⟨d0, d1, d2, d3⟩ := cell4_of h2
    obtain ⟨f0, f1, f2, f3⟩ := cell4_of hE
    clear hE hP h0 h1 h2 HX hb2
    go_region_held3 (fun w' => w'.cell? ⟨p0, 1, none⟩ = some (.int .i64 6) ∧ w'.cell? ⟨p2, 0, none⟩ = some (.int .i64 2) ∧ w'.cell? ⟨p2, 1, none⟩ = some (.slice (some ⟨p1, 0, none⟩) 1 1) ∧ w'.cell? ⟨p2, 2, none⟩ = some (.slice none 0 0) ∧ w'.cell? ⟨p2, 3, none⟩ = some (.slice none 0 0) ∧
        w'.cell? ⟨p11, 0, none⟩ = some (.int .i64 6) ∧ w'.cell? ⟨p11, 1, none⟩ = some (.slice none 0 0) ∧ w'.cell? ⟨p11, 2, none⟩ = some (.slice none 0 0) ∧ w'.cell? ⟨p11, 3, none⟩ = some (.slice (some ⟨pb, 0, none⟩) 2 2))
      (first | trivial | (refine ⟨?_, ?_, ?_, ?_, ?_, ?_, ?_, ?_, ?_⟩ <;> refine cell_later (w := W2) ?_ (by assumption) <;> repeat (first | exact Below.refl _ _ | exact hv | exact hzz | refine Below.drew ?_ | refine bel_new ?_ _)))
      (first
        | (go_at_call 7; refine (HT.out _ (by repeat (first | exact HBY.out | refine Below.drew ?_))).mono ?_; rintro e wz ⟨rfl, hz⟩; have hzz := Below.trans (show Below W2.heap.size W2 W2.drew from (Below.refl _ _).drew) hz)
        | (go_at_call 17; refine (HP.out _ _ (by first | rfl | simp) (by repeat (first | exact hzz | refine Below.drew ?_))).mono ?_; rintro e wv ⟨rfl, hv⟩))
    all_goals (go_wp2_with fail)
    all_goals go_ret
    all_goals (exact ⟨by first | kernel_rfl | (show Ending.returned (Value.bool (_ == _)) = _; rw [show (_ == _) = true from by decide +kernel]), bel_then HBY.out hv⟩)
set_option maxHeartbeats 8000000 in
set_option maxRecDepth 100000 in
theorem pats_11l (a b : Int) (w : World) (hT : TZ w) (ha : (IntKind.u64.wrap a).tmod 3 = 1) (hb : (IntKind.u64.wrap b).tmod 3 = 1) :
    Calls Tryz.prog 5 #[.int .i64 a, .int .i64 b, .bool false] w fun e w' => e = .returned (.bool true) ∧ Below w.heap.size w w' := by
  have HT := Lib.hid (fun w' (hb : Below w.heap.size w w') => told14_any w' (hT.moved hb))
  clear hT
  go_enter Tryz.func5, Tryz.ntmps5
  go_upto_region 4 with (fail)
  obtain ⟨hbW, h0, h1, h2⟩ := three_world w w (.cells #[.int .i64 5, .int .i64 6, .int .i64 7] 3) (.cells #[.string ⟨#[97]⟩] 9) (.cells #[.int .i64 2, .slice (some ⟨w.heap.size + 1, 0, none⟩) 1 1, .slice none 0 0, .slice none 0 0] 47) (Below.refl _ _)
  obtain ⟨W, hW⟩ : ∃ W, W = ((w.alloc (.cells #[.int .i64 5, .int .i64 6, .int .i64 7] 3)).alloc (.cells #[.string ⟨#[97]⟩] 9)).alloc (.cells #[.int .i64 2, .slice (some ⟨w.heap.size + 1, 0, none⟩) 1 1, .slice none 0 0, .slice none 0 0] 47) := ⟨_, rfl⟩
  rw [← hW] at hbW h0 h1 h2 ⊢
  clear hW
  obtain ⟨p1, hp1⟩ : ∃ p, p = w.heap.size + 1 := ⟨_, rfl⟩
  rw [← hp1] at h1 h2 ⊢
  obtain ⟨p2, hp2⟩ : ∃ p, p = p1 + 1 := ⟨_, rfl⟩
  rw [← hp2] at h2 ⊢
  obtain ⟨p0, hp0⟩ : ∃ p, p = w.heap.size := ⟨_, rfl⟩
  simp only [← hp0] at h0 ⊢
  have c0 : W.cell? ⟨p0, 1, none⟩ = some (.int .i64 6) := by simp [World.cell?, h0]
  obtain ⟨d0, d1, d2, d3⟩ := cell4_of h2
  have HBW := Lib.hid hbW
  have HH := Lib.hid (And.intro h0 (And.intro h1 h2))
  clear hbW h0 h1 h2 hp1 hp2 hp0
  go_cut [11] (fun s11 wx => ∃ p11 pb : Nat, s11 = .pointer (some ⟨p11, 0, none⟩) ∧ wx.heap[p11]? = some (.cells #[.int .i64 6, .slice none 0 0, .slice none 0 0, .slice (some ⟨pb, 0, none⟩) 2 2] 47 (0, 0)) ∧ wx.heap[pb]? = some (.cells #[.int .i64 2, .slice (some ⟨p1, 0, none⟩) 1 1, .slice none 0 0, .slice none 0 0, .int .i64 2, .slice (some ⟨p1, 0, none⟩) 1 1, .slice none 0 0, .slice none 0 0] 47 (0, 0)) ∧ W.heap.size ≤ p11 ∧ Below W.heap.size W wx)
  case first =>
    go_region_held3 (fun w' => w'.cell? ⟨p0, 1, none⟩ = some (.int .i64 6) ∧ w'.cell? ⟨p2, 0, none⟩ = some (.int .i64 2) ∧ w'.cell? ⟨p2, 1, none⟩ = some (.slice (some ⟨p1, 0, none⟩) 1 1) ∧ w'.cell? ⟨p2, 2, none⟩ = some (.slice none 0 0) ∧ w'.cell? ⟨p2, 3, none⟩ = some (.slice none 0 0))
      (first | trivial | (refine ⟨?_, ?_, ?_, ?_, ?_⟩ <;> refine cell_later (w := W) ?_ (by assumption) <;> repeat (first | exact Below.refl _ _ | refine Below.drew ?_ | refine bel_new ?_ _ | refine Below.setCell ?_ (by simp <;> omega) _)))
      (fail)
    all_goals (go_wp2_with fail)
    all_goals go_meet
    all_goals (exact ⟨_, _, rfl, by first | exact al_snd _ _ _ | exact al_fst _ _ _, by first | exact al_fst _ _ _ | exact al_snd _ _ _, by simp, by repeat (first | exact Below.refl _ _ | refine Below.drew ?_ | refine bel_new ?_ _)⟩)
  case rest =>
    obtain ⟨p11, pb, rfl, hE, hP, hle, hbx⟩ := hcut
    clear c0 d0 d1 d2 d3
    have h1x := bel_get hbx HH.out.2.1
    have h2x := bel_get hbx HH.out.2.2
    have h0x := bel_get hbx HH.out.1
    have HBX := Lib.hid (bel_then HBW.out hbx)
    have HX := Lib.hid (And.intro hE (And.intro hP (And.intro h0x (And.intro h1x h2x))))
    clear hE hP hbx h0x h1x h2x HH
    go_upto_region 17 with (fail)
    obtain ⟨W2, hW2⟩ : ∃ W2, W2 = ((wc.alloc (.cells #[.string ⟨#[123, 97, 125, 32, 123, 97, 125]⟩, .string ⟨#[123, 97, 125, 124, 123, 97, 125]⟩, .string ⟨#[123, 97, 125, 42]⟩] 9)).alloc (.cells #[.string ⟨#[32]⟩, .string ⟨#[124]⟩] 9)) := ⟨_, rfl⟩
    have hb2 : Below wc.heap.size wc W2 := by rw [hW2]; exact bel_new (bel_new (Below.refl _ _) _) _
    rw [← hW2]
    clear hW2
    have hE := bel_get hb2 HX.out.1
    have hP := bel_get hb2 HX.out.2.1
    have h0 := bel_get hb2 HX.out.2.2.1
    have h1 := bel_get hb2 HX.out.2.2.2.1
    have h2 := bel_get hb2 HX.out.2.2.2.2
    have HBY := Lib.hid (bel_then HBX.out hb2)
    have HP := Lib.hid (fun (k : World) (q : Nat) (hq : q = k.heap.size) (hk : Below W2.heap.size W2 k) => show Calls Tryz.prog 17 #[.agg #[.int .i64 6, .slice none 0 0, .slice none 0 0, .slice (some ⟨q, 0, none⟩) 2 2]] (k.alloc (.cells #[.int .i64 6, .slice none 0 0, .slice none 0 0, .slice (some ⟨pb, 0, none⟩) 2 2, .int .i64 2, .slice (some ⟨p1, 0, none⟩) 1 1, .slice none 0 0, .slice none 0 0] 47)) fun e w' => e = .returned (.string (patP (.mk 6 [] [] [.mk 6 [] [] [tA, tA], tA]))) ∧ Below W2.heap.size W2 w' from by
      subst hq
      have hk2 := hk.alloc hk.size (.cells #[.int .i64 6, .slice none 0 0, .slice none 0 0, .slice (some ⟨pb, 0, none⟩) 2 2, .int .i64 2, .slice (some ⟨p1, 0, none⟩) 1 1, .slice none 0 0, .slice none 0 0] 47)
      have a := pt_tA (bel_get hk2 h1)
      have b := pt_two 6 (x := tA) (y := tA) (bel_get hk2 hP) a a
      have c := pt_two 6 (x := .mk 6 [] [] [tA, tA]) (y := tA) (heap_alloc_new k _) b a
      refine (prPat_any _ _ _ _ _ c (two_fit _ (two_fit _ tA_fit tA_fit) tA_fit) (two_shn _ (two_shn _ tA_shn tA_shn) tA_shn)).mono ?_
      rintro e w' ⟨rfl, hb⟩
      exact ⟨rfl, bel_then hk2 hb⟩)
    rw [show patP (.mk 6 [] [] [.mk 6 [] [] [tA, tA], tA]) = ⟨#[123, 97, 125, 124, 123, 97, 125, 124, 123, 97, 125]⟩ by decide +kernel] at HP
    have c0 : W2.cell? ⟨p0, 1, none⟩ = some (.int .i64 6) := by simp [World.cell?, h0]
    obtain ⟨d0, d1, d2, d3⟩ := cell4_of h2
    obtain ⟨f0, f1, f2, f3⟩ := cell4_of hE
    clear hE hP h0 h1 h2 HX hb2
    go_region_held3 (fun w' => w'.cell? ⟨p0, 1, none⟩ = some (.int .i64 6) ∧ w'.cell? ⟨p2, 0, none⟩ = some (.int .i64 2) ∧ w'.cell? ⟨p2, 1, none⟩ = some (.slice (some ⟨p1, 0, none⟩) 1 1) ∧ w'.cell? ⟨p2, 2, none⟩ = some (.slice none 0 0) ∧ w'.cell? ⟨p2, 3, none⟩ = some (.slice none 0 0) ∧
        w'.cell? ⟨p11, 0, none⟩ = some (.int .i64 6) ∧ w'.cell? ⟨p11, 1, none⟩ = some (.slice none 0 0) ∧ w'.cell? ⟨p11, 2, none⟩ = some (.slice none 0 0) ∧ w'.cell? ⟨p11, 3, none⟩ = some (.slice (some ⟨pb, 0, none⟩) 2 2))
      (first | trivial | (refine ⟨?_, ?_, ?_, ?_, ?_, ?_, ?_, ?_, ?_⟩ <;> refine cell_later (w := W2) ?_ (by assumption) <;> repeat (first | exact Below.refl _ _ | exact hv | exact hzz | refine Below.drew ?_ | refine bel_new ?_ _)))
      (first
        | (go_at_call 7; refine (HT.out _ (by repeat (first | exact HBY.out | refine Below.drew ?_))).mono ?_; rintro e wz ⟨rfl, hz⟩; have hzz := Below.trans (show Below W2.heap.size W2 W2.drew from (Below.refl _ _).drew) hz)
        | (go_at_call 17; refine (HP.out _ _ (by first | rfl | simp) (by repeat (first | exact hzz | refine Below.drew ?_))).mono ?_; rintro e wv ⟨rfl, hv⟩))
    all_goals (go_wp2_with fail)
    all_goals go_ret
    all_goals (exact ⟨by first | kernel_rfl | (show Ending.returned (Value.bool (_ == _)) = _; rw [show (_ == _) = true from by decide +kernel]), bel_then HBY.out hv⟩)
end Go.Proofs.YtbanmggkfpnalaaGreatDoor
