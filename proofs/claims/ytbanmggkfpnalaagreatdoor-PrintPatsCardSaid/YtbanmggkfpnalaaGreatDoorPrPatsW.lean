/- gobolaw14.PrintPats: all ways. -/
import Derived.Test.YtbanmggkfpnalaaGreatDoorPrPats2
import Derived.Test.YtbanmggkfpnalaaGreatDoorPrPats1
import Derived.Test.YtbanmggkfpnalaaGreatDoorMkPQ
set_option linter.unusedVariables false
set_option linter.unusedSimpArgs false
namespace Go.Proofs.YtbanmggkfpnalaaGreatDoor
open Go.RowKit Ru

set_option maxHeartbeats 8000000 in
set_option maxRecDepth 100000 in
theorem pats_20 (a b : Int) (rt : Bool) (w : World) (hT : TZ w) (ha : (IntKind.u64.wrap a).tmod 3 = 2) (hb : (IntKind.u64.wrap b).tmod 3 = 0) :
    Calls Tryz.prog 5 #[.int .i64 a, .int .i64 b, .bool rt] w fun e w' => e = .returned (.bool true) ∧ Below w.heap.size w w' := by
  have HT := Lib.hid (fun w' (hb : Below w.heap.size w w') => told14_any w' (hT.moved hb))
  clear hT
  go_enter Tryz.func5, Tryz.ntmps5
  go_upto_region 4 with (fail)
  obtain ⟨hbW, h0, h1, h2⟩ := three_world w w (.cells #[.int .i64 5, .int .i64 6, .int .i64 7] 3) (.cells #[.string ⟨#[97]⟩] 9) (.cells #[.int .i64 2, .slice (some ⟨w.heap.size + 1, 0, none⟩) 1 1, .slice none 0 0, .slice none 0 0] 47) (Below.refl _ _)
  obtain ⟨W, hW⟩ : ∃ W, W = ((w.alloc (.cells #[.int .i64 5, .int .i64 6, .int .i64 7] 3)).alloc (.cells #[.string ⟨#[97]⟩] 9)).alloc (.cells #[.int .i64 2, .slice (some ⟨w.heap.size + 1, 0, none⟩) 1 1, .slice none 0 0, .slice none 0 0] 47) := ⟨_, rfl⟩
  rw [← hW] at hbW h0 h1 h2 ⊢
  clear hW
  obtain ⟨p1, hp1⟩ : ∃ p, p = w.heap.size + 1 := ⟨_, rfl⟩
  rw [← hp1] at h1 h2 ⊢
  obtain ⟨p2, hp2⟩ : ∃ p, p = p1 + 1 := ⟨_, rfl⟩
  rw [← hp2] at h2 ⊢
  obtain ⟨p0, hp0⟩ : ∃ p, p = w.heap.size := ⟨_, rfl⟩
  simp only [← hp0] at h0 ⊢
  have c0 : W.cell? ⟨p0, 0, none⟩ = some (.int .i64 5) := by simp [World.cell?, h0]
  obtain ⟨d0, d1, d2, d3⟩ := cell4_of h2
  have HBW := Lib.hid hbW
  have HH := Lib.hid (And.intro h0 (And.intro h1 h2))
  clear hbW h0 h1 h2 hp1 hp2 hp0
  go_cut [11] (fun s11 wx => ∃ p11 pb : Nat, s11 = .pointer (some ⟨p11, 0, none⟩) ∧ wx.heap[p11]? = some (.cells #[.int .i64 5, .slice none 0 0, .slice none 0 0, .slice (some ⟨pb, 0, none⟩) 2 2] 47 (0, 0)) ∧ wx.heap[pb]? = some (.cells #[.int .i64 2, .slice (some ⟨p1, 0, none⟩) 1 1, .slice none 0 0, .slice none 0 0, .int .i64 2, .slice (some ⟨p1, 0, none⟩) 1 1, .slice none 0 0, .slice none 0 0] 47 (0, 0)) ∧ W.heap.size ≤ p11 ∧ Below W.heap.size W wx)
  case first =>
    go_region_held3 (fun w' => w'.cell? ⟨p0, 0, none⟩ = some (.int .i64 5) ∧ w'.cell? ⟨p2, 0, none⟩ = some (.int .i64 2) ∧ w'.cell? ⟨p2, 1, none⟩ = some (.slice (some ⟨p1, 0, none⟩) 1 1) ∧ w'.cell? ⟨p2, 2, none⟩ = some (.slice none 0 0) ∧ w'.cell? ⟨p2, 3, none⟩ = some (.slice none 0 0))
      (first | trivial | (refine ⟨?_, ?_, ?_, ?_, ?_⟩ <;> refine cell_later (w := W) ?_ (by assumption) <;> repeat (first | exact Below.refl _ _ | refine Below.drew ?_ | refine bel_new ?_ _ | refine Below.setCell ?_ (by simp <;> omega) _)))
      (fail)
    all_goals (go_wp2_with fail)
    all_goals go_meet
    all_goals (exact ⟨_, _, rfl, by first | exact al_snd _ _ _ | exact al_fst _ _ _, by first | exact al_fst _ _ _ | exact al_snd _ _ _, by simp, by repeat (first | exact Below.refl _ _ | refine Below.drew ?_ | refine bel_new ?_ _)⟩)
  case rest =>
    obtain ⟨p11, pb, rfl, hE, hP, hle, hbx⟩ := hcut
    clear c0 d0 d1 d2 d3
    have h1x := bel_get hbx HH.out.2.1
    have h2x := bel_get hbx HH.out.2.2
    have h0x := bel_get hbx HH.out.1
    have HBX := Lib.hid (bel_then HBW.out hbx)
    have HX := Lib.hid (And.intro hE (And.intro hP (And.intro h0x (And.intro h1x h2x))))
    obtain ⟨wd, hwd⟩ : ∃ wd, wd = wc := ⟨_, rfl⟩
    have hdE := hE
    have hdP := hP
    have hbd := hbx
    rw [← hwd] at hdE hdP hbd
    have fz : True := trivial
    have k0 := fz
    have k1 := fz
    have k2 := fz
    have k3 := fz
    have hlt := fz
    have hne := fz
    have hmx := fz
    have h1d := bel_get hbd HH.out.2.1
    have HBD := Lib.hid (bel_then HBW.out hbd)
    have HWD := Lib.hid hwd
    have HXD := Lib.hid (And.intro hdE (And.intro hdP h1d))
    clear hE hP hbx h0x h1x h2x HH hwd hdE hdP hbd h1d HBX HX
    go_upto_region 11 with (fail)
    rw [← HWD.out]
    clear fz k0 k1 k2 k3 hlt hne hmx
    obtain ⟨W2, hW2⟩ : ∃ W2, W2 = (wd.alloc (.cells #[.string ⟨#[123, 97, 125, 32, 123, 97, 125]⟩, .string ⟨#[123, 97, 125, 124, 123, 97, 125]⟩, .string ⟨#[123, 97, 125, 42]⟩] 9)) := ⟨_, rfl⟩
    have hb2 : Below wd.heap.size wd W2 := by rw [hW2]; exact bel_new (Below.refl _ _) _
    rw [← hW2]
    clear hW2
    have HBY := Lib.hid (bel_then HBD.out hb2)
    have HXE := Lib.hid (And.intro (bel_get hb2 HXD.out.1) (And.intro (bel_get hb2 HXD.out.2.1) (bel_get hb2 HXD.out.2.2)))
    clear hb2 HXD
    go_wp2_with fail
    refine (HT.out _ HBY.out).mono ?_
    rintro e wz ⟨rfl, hz⟩
    have hE := bel_get hz HXE.out.1
    have hP := bel_get hz HXE.out.2.1
    have h1 := bel_get hz HXE.out.2.2
    have HBZ := Lib.hid (bel_then HBY.out hz)
    have hk2 : Below wz.heap.size wz (wz.alloc (.cells #[.int .i64 5, .slice none 0 0, .slice none 0 0, .slice (some ⟨pb, 0, none⟩) 2 2] 47)) := bel_new (Below.refl _ _) _
    have hp : Calls Tryz.prog 17 #[.agg #[.int .i64 7, .slice none 0 0, .slice none 0 0, .slice (some ⟨wz.heap.size, 0, none⟩) 1 1]] (wz.alloc (.cells #[.int .i64 5, .slice none 0 0, .slice none 0 0, .slice (some ⟨pb, 0, none⟩) 2 2] 47)) fun e w' => e = .returned (.string (patP (.mk 7 [] [] [.mk 5 [] [] [tA, tA]]))) ∧ Below w.heap.size w w' := by
      have a := pt_tA (bel_get hk2 h1)
      have b := pt_two 5 (x := tA) (y := tA) (bel_get hk2 hP) a a
      have c := pt_first 7 (x := .mk 5 [] [] [tA, tA]) _ 1 (by decide) (by decide) (heap_alloc_new wz _) rfl rfl rfl rfl b
      refine (prPat_any _ _ _ _ _ c (one_fit _ (two_fit _ tA_fit tA_fit)) (one_shn _ (two_shn _ tA_shn tA_shn))).mono ?_
      rintro e w' ⟨rfl, hb⟩
      exact ⟨rfl, bel_then (bel_then HBZ.out hk2) hb⟩
    rw [show patP (.mk 7 [] [] [.mk 5 [] [] [tA, tA]]) = ⟨#[40, 123, 97, 125, 32, 123, 97, 125, 41, 42]⟩ by decide +kernel] at hp
    have HP := Lib.hid hp
    obtain ⟨f0, f1, f2, f3⟩ := cell4_of hE
    clear hE hP h1 hk2 hp hz HXE
    go_wp2_with fail
    refine HP.out.mono ?_
    rintro e wv ⟨rfl, hv⟩
    go_wp2_with fail
    all_goals go_ret
    all_goals (exact ⟨by first | kernel_rfl | (show Ending.returned (Value.bool (_ == _)) = _; rw [show (_ == _) = true from by decide +kernel]), hv⟩)
set_option maxHeartbeats 8000000 in
set_option maxRecDepth 100000 in
theorem pats_21 (a b : Int) (rt : Bool) (w : World) (hT : TZ w) (ha : (IntKind.u64.wrap a).tmod 3 = 2) (hb : (IntKind.u64.wrap b).tmod 3 = 1) :
    Calls Tryz.prog 5 #[.int .i64 a, .int .i64 b, .bool rt] w fun e w' => e = .returned (.bool true) ∧ Below w.heap.size w w' := by
  have HT := Lib.hid (fun w' (hb : Below w.heap.size w w') => told14_any w' (hT.moved hb))
  clear hT
  go_enter Tryz.func5, Tryz.ntmps5
  go_upto_region 4 with (fail)
  obtain ⟨hbW, h0, h1, h2⟩ := three_world w w (.cells #[.int .i64 5, .int .i64 6, .int .i64 7] 3) (.cells #[.string ⟨#[97]⟩] 9) (.cells #[.int .i64 2, .slice (some ⟨w.heap.size + 1, 0, none⟩) 1 1, .slice none 0 0, .slice none 0 0] 47) (Below.refl _ _)
  obtain ⟨W, hW⟩ : ∃ W, W = ((w.alloc (.cells #[.int .i64 5, .int .i64 6, .int .i64 7] 3)).alloc (.cells #[.string ⟨#[97]⟩] 9)).alloc (.cells #[.int .i64 2, .slice (some ⟨w.heap.size + 1, 0, none⟩) 1 1, .slice none 0 0, .slice none 0 0] 47) := ⟨_, rfl⟩
  rw [← hW] at hbW h0 h1 h2 ⊢
  clear hW
  obtain ⟨p1, hp1⟩ : ∃ p, p = w.heap.size + 1 := ⟨_, rfl⟩
  rw [← hp1] at h1 h2 ⊢
  obtain ⟨p2, hp2⟩ : ∃ p, p = p1 + 1 := ⟨_, rfl⟩
  rw [← hp2] at h2 ⊢
  obtain ⟨p0, hp0⟩ : ∃ p, p = w.heap.size := ⟨_, rfl⟩
  simp only [← hp0] at h0 ⊢
  have c0 : W.cell? ⟨p0, 1, none⟩ = some (.int .i64 6) := by simp [World.cell?, h0]
  obtain ⟨d0, d1, d2, d3⟩ := cell4_of h2
  have HBW := Lib.hid hbW
  have HH := Lib.hid (And.intro h0 (And.intro h1 h2))
  clear hbW h0 h1 h2 hp1 hp2 hp0
  go_cut [11] (fun s11 wx => ∃ p11 pb : Nat, s11 = .pointer (some ⟨p11, 0, none⟩) ∧ wx.heap[p11]? = some (.cells #[.int .i64 6, .slice none 0 0, .slice none 0 0, .slice (some ⟨pb, 0, none⟩) 2 2] 47 (0, 0)) ∧ wx.heap[pb]? = some (.cells #[.int .i64 2, .slice (some ⟨p1, 0, none⟩) 1 1, .slice none 0 0, .slice none 0 0, .int .i64 2, .slice (some ⟨p1, 0, none⟩) 1 1, .slice none 0 0, .slice none 0 0] 47 (0, 0)) ∧ W.heap.size ≤ p11 ∧ Below W.heap.size W wx)
  case first =>
    go_region_held3 (fun w' => w'.cell? ⟨p0, 1, none⟩ = some (.int .i64 6) ∧ w'.cell? ⟨p2, 0, none⟩ = some (.int .i64 2) ∧ w'.cell? ⟨p2, 1, none⟩ = some (.slice (some ⟨p1, 0, none⟩) 1 1) ∧ w'.cell? ⟨p2, 2, none⟩ = some (.slice none 0 0) ∧ w'.cell? ⟨p2, 3, none⟩ = some (.slice none 0 0))
      (first | trivial | (refine ⟨?_, ?_, ?_, ?_, ?_⟩ <;> refine cell_later (w := W) ?_ (by assumption) <;> repeat (first | exact Below.refl _ _ | refine Below.drew ?_ | refine bel_new ?_ _ | refine Below.setCell ?_ (by simp <;> omega) _)))
      (fail)
    all_goals (go_wp2_with fail)
    all_goals go_meet
    all_goals (exact ⟨_, _, rfl, by first | exact al_snd _ _ _ | exact al_fst _ _ _, by first | exact al_fst _ _ _ | exact al_snd _ _ _, by simp, by repeat (first | exact Below.refl _ _ | refine Below.drew ?_ | refine bel_new ?_ _)⟩)
  case rest =>
    obtain ⟨p11, pb, rfl, hE, hP, hle, hbx⟩ := hcut
    clear c0 d0 d1 d2 d3
    have h1x := bel_get hbx HH.out.2.1
    have h2x := bel_get hbx HH.out.2.2
    have h0x := bel_get hbx HH.out.1
    have HBX := Lib.hid (bel_then HBW.out hbx)
    have HX := Lib.hid (And.intro hE (And.intro hP (And.intro h0x (And.intro h1x h2x))))
    obtain ⟨wd, hwd⟩ : ∃ wd, wd = wc := ⟨_, rfl⟩
    have hdE := hE
    have hdP := hP
    have hbd := hbx
    rw [← hwd] at hdE hdP hbd
    have fz : True := trivial
    have k0 := fz
    have k1 := fz
    have k2 := fz
    have k3 := fz
    have hlt := fz
    have hne := fz
    have hmx := fz
    have h1d := bel_get hbd HH.out.2.1
    have HBD := Lib.hid (bel_then HBW.out hbd)
    have HWD := Lib.hid hwd
    have HXD := Lib.hid (And.intro hdE (And.intro hdP h1d))
    clear hE hP hbx h0x h1x h2x HH hwd hdE hdP hbd h1d HBX HX
    go_upto_region 11 with (fail)
    rw [← HWD.out]
    clear fz k0 k1 k2 k3 hlt hne hmx
    obtain ⟨W2, hW2⟩ : ∃ W2, W2 = (wd.alloc (.cells #[.string ⟨#[123, 97, 125, 32, 123, 97, 125]⟩, .string ⟨#[123, 97, 125, 124, 123, 97, 125]⟩, .string ⟨#[123, 97, 125, 42]⟩] 9)) := ⟨_, rfl⟩
    have hb2 : Below wd.heap.size wd W2 := by rw [hW2]; exact bel_new (Below.refl _ _) _
    rw [← hW2]
    clear hW2
    have HBY := Lib.hid (bel_then HBD.out hb2)
    have HXE := Lib.hid (And.intro (bel_get hb2 HXD.out.1) (And.intro (bel_get hb2 HXD.out.2.1) (bel_get hb2 HXD.out.2.2)))
    clear hb2 HXD
    go_wp2_with fail
    refine (HT.out _ HBY.out).mono ?_
    rintro e wz ⟨rfl, hz⟩
    have hE := bel_get hz HXE.out.1
    have hP := bel_get hz HXE.out.2.1
    have h1 := bel_get hz HXE.out.2.2
    have HBZ := Lib.hid (bel_then HBY.out hz)
    have hk2 : Below wz.heap.size wz (wz.alloc (.cells #[.int .i64 6, .slice none 0 0, .slice none 0 0, .slice (some ⟨pb, 0, none⟩) 2 2] 47)) := bel_new (Below.refl _ _) _
    have hp : Calls Tryz.prog 17 #[.agg #[.int .i64 7, .slice none 0 0, .slice none 0 0, .slice (some ⟨wz.heap.size, 0, none⟩) 1 1]] (wz.alloc (.cells #[.int .i64 6, .slice none 0 0, .slice none 0 0, .slice (some ⟨pb, 0, none⟩) 2 2] 47)) fun e w' => e = .returned (.string (patP (.mk 7 [] [] [.mk 6 [] [] [tA, tA]]))) ∧ Below w.heap.size w w' := by
      have a := pt_tA (bel_get hk2 h1)
      have b := pt_two 6 (x := tA) (y := tA) (bel_get hk2 hP) a a
      have c := pt_first 7 (x := .mk 6 [] [] [tA, tA]) _ 1 (by decide) (by decide) (heap_alloc_new wz _) rfl rfl rfl rfl b
      refine (prPat_any _ _ _ _ _ c (one_fit _ (two_fit _ tA_fit tA_fit)) (one_shn _ (two_shn _ tA_shn tA_shn))).mono ?_
      rintro e w' ⟨rfl, hb⟩
      exact ⟨rfl, bel_then (bel_then HBZ.out hk2) hb⟩
    rw [show patP (.mk 7 [] [] [.mk 6 [] [] [tA, tA]]) = ⟨#[40, 123, 97, 125, 124, 123, 97, 125, 41, 42]⟩ by decide +kernel] at hp
    have HP := Lib.hid hp
    obtain ⟨f0, f1, f2, f3⟩ := cell4_of hE
    clear hE hP h1 hk2 hp hz HXE
    go_wp2_with fail
    refine HP.out.mono ?_
    rintro e wv ⟨rfl, hv⟩
    go_wp2_with fail
    all_goals go_ret
    all_goals (exact ⟨by first | kernel_rfl | (show Ending.returned (Value.bool (_ == _)) = _; rw [show (_ == _) = true from by decide +kernel]), hv⟩)
set_option maxHeartbeats 8000000 in
set_option maxRecDepth 100000 in
theorem pats_22 (a b : Int) (rt : Bool) (w : World) (hT : TZ w) (ha : (IntKind.u64.wrap a).tmod 3 = 2) (hb : (IntKind.u64.wrap b).tmod 3 = 2) :
    Calls Tryz.prog 5 #[.int .i64 a, .int .i64 b, .bool rt] w fun e w' => e = .returned (.bool true) ∧ Below w.heap.size w w' := by
  have HT := Lib.hid (fun w' (hb : Below w.heap.size w w') => told14_any w' (hT.moved hb))
  clear hT
  go_enter Tryz.func5, Tryz.ntmps5
  go_upto_region 4 with (fail)
  obtain ⟨hbW, h0, h1, h2⟩ := three_world w w (.cells #[.int .i64 5, .int .i64 6, .int .i64 7] 3) (.cells #[.string ⟨#[97]⟩] 9) (.cells #[.int .i64 2, .slice (some ⟨w.heap.size + 1, 0, none⟩) 1 1, .slice none 0 0, .slice none 0 0] 47) (Below.refl _ _)
  obtain ⟨W, hW⟩ : ∃ W, W = ((w.alloc (.cells #[.int .i64 5, .int .i64 6, .int .i64 7] 3)).alloc (.cells #[.string ⟨#[97]⟩] 9)).alloc (.cells #[.int .i64 2, .slice (some ⟨w.heap.size + 1, 0, none⟩) 1 1, .slice none 0 0, .slice none 0 0] 47) := ⟨_, rfl⟩
  rw [← hW] at hbW h0 h1 h2 ⊢
  clear hW
  obtain ⟨p1, hp1⟩ : ∃ p, p = w.heap.size + 1 := ⟨_, rfl⟩
  rw [← hp1] at h1 h2 ⊢
  obtain ⟨p2, hp2⟩ : ∃ p, p = p1 + 1 := ⟨_, rfl⟩
  rw [← hp2] at h2 ⊢
  obtain ⟨p0, hp0⟩ : ∃ p, p = w.heap.size := ⟨_, rfl⟩
  simp only [← hp0] at h0 ⊢
  have c0 : W.cell? ⟨p0, 2, none⟩ = some (.int .i64 7) := by simp [World.cell?, h0]
  obtain ⟨d0, d1, d2, d3⟩ := cell4_of h2
  have HBW := Lib.hid hbW
  have HH := Lib.hid (And.intro h0 (And.intro h1 h2))
  clear hbW h0 h1 h2 hp1 hp2 hp0
  go_cut [11] (fun s11 wx => ∃ p11 pb : Nat, s11 = .pointer (some ⟨p11, 0, none⟩) ∧ wx.heap[p11]? = some (.cells #[.int .i64 7, .slice none 0 0, .slice none 0 0, .slice (some ⟨pb, 0, none⟩) 2 2] 47 (0, 0)) ∧ wx.heap[pb]? = some (.cells #[.int .i64 2, .slice (some ⟨p1, 0, none⟩) 1 1, .slice none 0 0, .slice none 0 0, .int .i64 2, .slice (some ⟨p1, 0, none⟩) 1 1, .slice none 0 0, .slice none 0 0] 47 (0, 0)) ∧ W.heap.size ≤ p11 ∧ Below W.heap.size W wx)
  case first =>
    go_region_held3 (fun w' => w'.cell? ⟨p0, 2, none⟩ = some (.int .i64 7) ∧ w'.cell? ⟨p2, 0, none⟩ = some (.int .i64 2) ∧ w'.cell? ⟨p2, 1, none⟩ = some (.slice (some ⟨p1, 0, none⟩) 1 1) ∧ w'.cell? ⟨p2, 2, none⟩ = some (.slice none 0 0) ∧ w'.cell? ⟨p2, 3, none⟩ = some (.slice none 0 0))
      (first | trivial | (refine ⟨?_, ?_, ?_, ?_, ?_⟩ <;> refine cell_later (w := W) ?_ (by assumption) <;> repeat (first | exact Below.refl _ _ | refine Below.drew ?_ | refine bel_new ?_ _ | refine Below.setCell ?_ (by simp <;> omega) _)))
      (fail)
    all_goals (go_wp2_with fail)
    all_goals go_meet
    all_goals (exact ⟨_, _, rfl, by first | exact al_snd _ _ _ | exact al_fst _ _ _, by first | exact al_fst _ _ _ | exact al_snd _ _ _, by simp, by repeat (first | exact Below.refl _ _ | refine Below.drew ?_ | refine bel_new ?_ _)⟩)
  case rest =>
    obtain ⟨p11, pb, rfl, hE, hP, hle, hbx⟩ := hcut
    clear c0 d0 d1 d2 d3
    have h1x := bel_get hbx HH.out.2.1
    have h2x := bel_get hbx HH.out.2.2
    have h0x := bel_get hbx HH.out.1
    have HBX := Lib.hid (bel_then HBW.out hbx)
    have HX := Lib.hid (And.intro hE (And.intro hP (And.intro h0x (And.intro h1x h2x))))
    obtain ⟨wd, hwd⟩ : ∃ wd, wd = wc.setCell ⟨p11, 3, none⟩ (.slice (some ⟨pb, 0, none⟩) 1 2) := ⟨_, rfl⟩
    have hdE : wd.heap[p11]? = some (.cells #[.int .i64 7, .slice none 0 0, .slice none 0 0, .slice (some ⟨pb, 0, none⟩) 1 2] 47 (0, 0)) := by rw [hwd]; exact set4_at hE _
    have hdP : wd.heap[pb]? = some (.cells #[.int .i64 2, .slice (some ⟨p1, 0, none⟩) 1 1, .slice none 0 0, .slice none 0 0, .int .i64 2, .slice (some ⟨p1, 0, none⟩) 1 1, .slice none 0 0, .slice none 0 0] 47 (0, 0)) := by
      rw [hwd, Below.heap_setCell _ _ _ _ (fun e => by simp only at e; rw [← e, hP] at hE; simp at hE)]; exact hP
    have hbd : Below W.heap.size W wd := by rw [hwd]; exact hbx.setCell hle _
    have fz : wc.frozen? ⟨p11, 3, none⟩ = false := by simp [World.frozen?, hE]
    obtain ⟨k0, k1, k2, k3⟩ := cell4_of hE
    have hlt := get_lt hE
    have hne : ¬ p11 = wc.heap.size := by omega
    have hmx : 2 ≤ maxLen := by decide
    have h1d := bel_get hbd HH.out.2.1
    have HBD := Lib.hid (bel_then HBW.out hbd)
    have HWD := Lib.hid hwd
    have HXD := Lib.hid (And.intro hdE (And.intro hdP h1d))
    clear hE hP hbx h0x h1x h2x HH hwd hdE hdP hbd h1d HBX HX
    go_upto_region 11 with (fail)
    rw [← HWD.out]
    clear fz k0 k1 k2 k3 hlt hne hmx
    obtain ⟨W2, hW2⟩ : ∃ W2, W2 = (wd.alloc (.cells #[.string ⟨#[123, 97, 125, 32, 123, 97, 125]⟩, .string ⟨#[123, 97, 125, 124, 123, 97, 125]⟩, .string ⟨#[123, 97, 125, 42]⟩] 9)) := ⟨_, rfl⟩
    have hb2 : Below wd.heap.size wd W2 := by rw [hW2]; exact bel_new (Below.refl _ _) _
    rw [← hW2]
    clear hW2
    have HBY := Lib.hid (bel_then HBD.out hb2)
    have HXE := Lib.hid (And.intro (bel_get hb2 HXD.out.1) (And.intro (bel_get hb2 HXD.out.2.1) (bel_get hb2 HXD.out.2.2)))
    clear hb2 HXD
    go_wp2_with fail
    refine (HT.out _ HBY.out).mono ?_
    rintro e wz ⟨rfl, hz⟩
    have hE := bel_get hz HXE.out.1
    have hP := bel_get hz HXE.out.2.1
    have h1 := bel_get hz HXE.out.2.2
    have HBZ := Lib.hid (bel_then HBY.out hz)
    have hk2 : Below wz.heap.size wz (wz.alloc (.cells #[.int .i64 7, .slice none 0 0, .slice none 0 0, .slice (some ⟨pb, 0, none⟩) 1 2] 47)) := bel_new (Below.refl _ _) _
    have hp : Calls Tryz.prog 17 #[.agg #[.int .i64 7, .slice none 0 0, .slice none 0 0, .slice (some ⟨wz.heap.size, 0, none⟩) 1 1]] (wz.alloc (.cells #[.int .i64 7, .slice none 0 0, .slice none 0 0, .slice (some ⟨pb, 0, none⟩) 1 2] 47)) fun e w' => e = .returned (.string (patP (.mk 7 [] [] [.mk 7 [] [] [tA]]))) ∧ Below w.heap.size w w' := by
      have a := pt_tA (bel_get hk2 h1)
      have b := pt_first 7 (x := tA) _ 2 (by decide) (by decide) (bel_get hk2 hP) rfl rfl rfl rfl a
      have c := pt_first 7 (x := .mk 7 [] [] [tA]) _ 1 (by decide) (by decide) (heap_alloc_new wz _) rfl rfl rfl rfl b
      refine (prPat_any _ _ _ _ _ c (one_fit _ (one_fit _ tA_fit)) (one_shn _ (one_shn _ tA_shn))).mono ?_
      rintro e w' ⟨rfl, hb⟩
      exact ⟨rfl, bel_then (bel_then HBZ.out hk2) hb⟩
    rw [show patP (.mk 7 [] [] [.mk 7 [] [] [tA]]) = ⟨#[123, 97, 125, 42, 42]⟩ by decide +kernel] at hp
    have HP := Lib.hid hp
    obtain ⟨f0, f1, f2, f3⟩ := cell4_of hE
    clear hE hP h1 hk2 hp hz HXE
    go_wp2_with fail
    refine HP.out.mono ?_
    rintro e wv ⟨rfl, hv⟩
    go_wp2_with fail
    all_goals go_ret
    all_goals (exact ⟨by first | kernel_rfl | (show Ending.returned (Value.bool (_ == _)) = _; rw [show (_ == _) = true from by decide +kernel]), hv⟩)
end Go.Proofs.YtbanmggkfpnalaaGreatDoor

set_option linter.unusedVariables false
set_option linter.unusedSimpArgs false
namespace Go.Proofs.YtbanmggkfpnalaaGreatDoor
open Go.RowKit Ru

theorem printPats_walk (a b : Int) (rt : Bool) (w : World) (hT : TZ w) :
    Calls Tryz.prog 5 #[.int .i64 a, .int .i64 b, .bool rt] w fun e w' => e = .returned (.bool true) ∧ Below w.heap.size w w' := by
  obtain ⟨i, hi, ha⟩ := pick_idx a 3 (by decide)
  obtain ⟨k, hk, hb⟩ := pick_idx b 3 (by decide)
  have ha := ha (by decide)
  have hb := hb (by decide)
  match i, hi, k, hk, rt with
  | 0, _, 0, _, true => exact pats_00r a b w hT ha hb
  | 0, _, 0, _, false => exact pats_00l a b w hT ha hb
  | 0, _, 1, _, true => exact pats_01r a b w hT ha hb
  | 0, _, 1, _, false => exact pats_01l a b w hT ha hb
  | 0, _, 2, _, true => exact pats_02r a b w hT ha hb
  | 0, _, 2, _, false => exact pats_02l a b w hT ha hb
  | 1, _, 0, _, true => exact pats_10r a b w hT ha hb
  | 1, _, 0, _, false => exact pats_10l a b w hT ha hb
  | 1, _, 1, _, true => exact pats_11r a b w hT ha hb
  | 1, _, 1, _, false => exact pats_11l a b w hT ha hb
  | 1, _, 2, _, true => exact pats_12r a b w hT ha hb
  | 1, _, 2, _, false => exact pats_12l a b w hT ha hb
  | 2, _, 0, _, r => exact pats_20 a b r w hT ha hb
  | 2, _, 1, _, r => exact pats_21 a b r w hT ha hb
  | 2, _, 2, _, r => exact pats_22 a b r w hT ha hb
end Go.Proofs.YtbanmggkfpnalaaGreatDoor
