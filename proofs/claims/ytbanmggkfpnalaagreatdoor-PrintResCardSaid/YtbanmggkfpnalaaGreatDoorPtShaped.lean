/- gram.shaped. -/
import Derived.Test.YtbanmggkfpnalaaGreatDoorPtEmpty
set_option linter.unusedVariables false
set_option linter.unusedSimpArgs false
namespace Go.Proofs.YtbanmggkfpnalaaGreatDoor
open Go.RowKit Ru
/-- has a node just what its kind has -/
def PT.shp (e : PT) : Bool := if e.kind = 2 then (decide (0 < e.names.length) && decide (e.ends.length = 0) && decide (e.parts.length = 0)) else if e.kind = 3 then (decide (0 < e.names.length) && decide (0 < e.ends.length) && decide (e.parts.length = 1)) else if e.kind = 1 ∨ e.kind = 4 then (decide (e.names.length = 0) && decide (e.ends.length = 0) && decide (e.parts.length = 0)) else if e.kind = 5 ∨ e.kind = 6 then (decide (e.names.length = 0) && decide (e.ends.length = 0) && decide (e.parts.length = 2)) else if e.kind = 7 then (decide (e.names.length = 0) && decide (e.ends.length = 0) && decide (e.parts.length = 1)) else false
set_option maxHeartbeats 8000000 in
set_option maxRecDepth 100000 in
/-- gram.shaped -/
theorem gramShaped_any (e : PT) (nv ev lv : Value) (w : World) (h : PtIs w e nv ev lv) (hf : e.Fit) :
    Calls Tryz.prog 132 #[.agg #[.int .i64 e.kind, nv, ev, lv]] w fun x w' => x = .returned (.bool e.shp) ∧ Below w.heap.size w w' := by
  obtain ⟨⟨o1, q1, rfl⟩, ⟨o3, q3, rfl⟩, ⟨o2, q2, rfl⟩⟩ := h.form
  have hm := hf.lens
  have hshp : e.shp = if e.kind = 2 then (decide (0 < e.names.length) && decide (e.ends.length = 0) && decide (e.parts.length = 0)) else if e.kind = 3 then (decide (0 < e.names.length) && decide (0 < e.ends.length) && decide (e.parts.length = 1)) else if e.kind = 1 ∨ e.kind = 4 then (decide (e.names.length = 0) && decide (e.ends.length = 0) && decide (e.parts.length = 0)) else if e.kind = 5 ∨ e.kind = 6 then (decide (e.names.length = 0) && decide (e.ends.length = 0) && decide (e.parts.length = 2)) else if e.kind = 7 then (decide (e.names.length = 0) && decide (e.ends.length = 0) && decide (e.parts.length = 1)) else false := rfl
  obtain ⟨k, hk⟩ : ∃ k, k = e.kind := ⟨_, rfl⟩
  obtain ⟨n, hn⟩ : ∃ n, n = e.names.length := ⟨_, rfl⟩
  obtain ⟨m, hm'⟩ : ∃ m, m = e.ends.length := ⟨_, rfl⟩
  obtain ⟨l, hl⟩ : ∃ l, l = e.parts.length := ⟨_, rfl⟩
  obtain ⟨r, hr⟩ : ∃ r, r = e.shp := ⟨_, rfl⟩
  rw [← hk, ← hn, ← hm', ← hl, ← hr] at hshp
  rw [← hn, ← hm', ← hl] at hm
  rw [← hk, ← hn, ← hm', ← hl, ← hr]
  obtain ⟨hm1, hm2, hm3⟩ := hm
  clear hk hn hm' hl hr hf h
  have HS := Lib.hid hshp
  clear hshp
  by_cases k2 : k = 2
  · subst k2
    by_cases c0 : 0 < n
    case neg =>
      have g0 : decide ((0 : Int) < (n : Int)) = false := by simp; omega
      have HX := Lib.hid (show r = false by rw [HS.out]; simp [c0])
      go_enter Tryz.func132, Tryz.ntmps132
      go_wp2_with fail
      go_quiet (fail)
      go_wp2_with fail
      go_ret
      exact ⟨by rw [HX.out]; rfl, by repeat (first | exact Below.refl _ _ | (refine Below.drew ?_) | (refine below_drewN ?_ _) | (refine bel_new ?_ _))⟩
    have g0 : decide ((0 : Int) < (n : Int)) = true := by simp; omega
    by_cases c1 : m = 0
    case neg =>
      have g1 : ((m : Int) == 0) = false := by simp; omega
      have HX := Lib.hid (show r = false by rw [HS.out]; simp [c0, c1])
      go_enter Tryz.func132, Tryz.ntmps132
      go_wp2_with fail
      go_quiet (fail)
      go_wp2_with fail
      go_ret
      exact ⟨by rw [HX.out]; rfl, by repeat (first | exact Below.refl _ _ | (refine Below.drew ?_) | (refine below_drewN ?_ _) | (refine bel_new ?_ _))⟩
    have g1 : ((m : Int) == 0) = true := by simp; omega
    by_cases c2 : l = 0
    case neg =>
      have g2 : ((l : Int) == 0) = false := by simp; omega
      have HX := Lib.hid (show r = false by rw [HS.out]; simp [c0, c1, c2])
      go_enter Tryz.func132, Tryz.ntmps132
      go_wp2_with fail
      go_quiet (fail)
      go_wp2_with fail
      go_ret
      exact ⟨by rw [HX.out]; rfl, by repeat (first | exact Below.refl _ _ | (refine Below.drew ?_) | (refine below_drewN ?_ _) | (refine bel_new ?_ _))⟩
    have g2 : ((l : Int) == 0) = true := by simp; omega
    have HX := Lib.hid (show r = true by rw [HS.out]; simp [c0, c1, c2])
    go_enter Tryz.func132, Tryz.ntmps132
    go_wp2_with fail
    go_quiet (fail)
    go_wp2_with fail
    go_ret
    exact ⟨by rw [HX.out]; rfl, by repeat (first | exact Below.refl _ _ | (refine Below.drew ?_) | (refine below_drewN ?_ _) | (refine bel_new ?_ _))⟩
  by_cases k3 : k = 3
  · subst k3
    by_cases c0 : 0 < n
    case neg =>
      have g0 : decide ((0 : Int) < (n : Int)) = false := by simp; omega
      have HX := Lib.hid (show r = false by rw [HS.out]; simp [c0])
      go_enter Tryz.func132, Tryz.ntmps132
      go_wp2_with fail
      go_quiet (fail)
      go_wp2_with fail
      go_ret
      exact ⟨by rw [HX.out]; rfl, by repeat (first | exact Below.refl _ _ | (refine Below.drew ?_) | (refine below_drewN ?_ _) | (refine bel_new ?_ _))⟩
    have g0 : decide ((0 : Int) < (n : Int)) = true := by simp; omega
    by_cases c1 : 0 < m
    case neg =>
      have g1 : decide ((0 : Int) < (m : Int)) = false := by simp; omega
      have HX := Lib.hid (show r = false by rw [HS.out]; simp [c0, c1])
      go_enter Tryz.func132, Tryz.ntmps132
      go_wp2_with fail
      go_quiet (fail)
      go_wp2_with fail
      go_ret
      exact ⟨by rw [HX.out]; rfl, by repeat (first | exact Below.refl _ _ | (refine Below.drew ?_) | (refine below_drewN ?_ _) | (refine bel_new ?_ _))⟩
    have g1 : decide ((0 : Int) < (m : Int)) = true := by simp; omega
    by_cases c2 : l = 1
    case neg =>
      have g2 : ((l : Int) == 1) = false := by simp; omega
      have HX := Lib.hid (show r = false by rw [HS.out]; simp [c0, c1, c2])
      go_enter Tryz.func132, Tryz.ntmps132
      go_wp2_with fail
      go_quiet (fail)
      go_wp2_with fail
      go_ret
      exact ⟨by rw [HX.out]; rfl, by repeat (first | exact Below.refl _ _ | (refine Below.drew ?_) | (refine below_drewN ?_ _) | (refine bel_new ?_ _))⟩
    have g2 : ((l : Int) == 1) = true := by simp; omega
    have HX := Lib.hid (show r = true by rw [HS.out]; simp [c0, c1, c2])
    go_enter Tryz.func132, Tryz.ntmps132
    go_wp2_with fail
    go_quiet (fail)
    go_wp2_with fail
    go_ret
    exact ⟨by rw [HX.out]; rfl, by repeat (first | exact Below.refl _ _ | (refine Below.drew ?_) | (refine below_drewN ?_ _) | (refine bel_new ?_ _))⟩
  by_cases k1 : k = 1
  · subst k1
    by_cases c0 : n = 0
    case neg =>
      have g0 : ((n : Int) == 0) = false := by simp; omega
      have HX := Lib.hid (show r = false by rw [HS.out]; simp [c0])
      go_enter Tryz.func132, Tryz.ntmps132
      go_wp2_with fail
      go_quiet (fail)
      go_wp2_with fail
      go_ret
      exact ⟨by rw [HX.out]; rfl, by repeat (first | exact Below.refl _ _ | (refine Below.drew ?_) | (refine below_drewN ?_ _) | (refine bel_new ?_ _))⟩
    have g0 : ((n : Int) == 0) = true := by simp; omega
    by_cases c1 : m = 0
    case neg =>
      have g1 : ((m : Int) == 0) = false := by simp; omega
      have HX := Lib.hid (show r = false by rw [HS.out]; simp [c0, c1])
      go_enter Tryz.func132, Tryz.ntmps132
      go_wp2_with fail
      go_quiet (fail)
      go_wp2_with fail
      go_ret
      exact ⟨by rw [HX.out]; rfl, by repeat (first | exact Below.refl _ _ | (refine Below.drew ?_) | (refine below_drewN ?_ _) | (refine bel_new ?_ _))⟩
    have g1 : ((m : Int) == 0) = true := by simp; omega
    by_cases c2 : l = 0
    case neg =>
      have g2 : ((l : Int) == 0) = false := by simp; omega
      have HX := Lib.hid (show r = false by rw [HS.out]; simp [c0, c1, c2])
      go_enter Tryz.func132, Tryz.ntmps132
      go_wp2_with fail
      go_quiet (fail)
      go_wp2_with fail
      go_ret
      exact ⟨by rw [HX.out]; rfl, by repeat (first | exact Below.refl _ _ | (refine Below.drew ?_) | (refine below_drewN ?_ _) | (refine bel_new ?_ _))⟩
    have g2 : ((l : Int) == 0) = true := by simp; omega
    have HX := Lib.hid (show r = true by rw [HS.out]; simp [c0, c1, c2])
    go_enter Tryz.func132, Tryz.ntmps132
    go_wp2_with fail
    go_quiet (fail)
    go_wp2_with fail
    go_ret
    exact ⟨by rw [HX.out]; rfl, by repeat (first | exact Below.refl _ _ | (refine Below.drew ?_) | (refine below_drewN ?_ _) | (refine bel_new ?_ _))⟩
  by_cases k4 : k = 4
  · subst k4
    by_cases c0 : n = 0
    case neg =>
      have g0 : ((n : Int) == 0) = false := by simp; omega
      have HX := Lib.hid (show r = false by rw [HS.out]; simp [c0])
      go_enter Tryz.func132, Tryz.ntmps132
      go_wp2_with fail
      go_quiet (fail)
      go_wp2_with fail
      go_ret
      exact ⟨by rw [HX.out]; rfl, by repeat (first | exact Below.refl _ _ | (refine Below.drew ?_) | (refine below_drewN ?_ _) | (refine bel_new ?_ _))⟩
    have g0 : ((n : Int) == 0) = true := by simp; omega
    by_cases c1 : m = 0
    case neg =>
      have g1 : ((m : Int) == 0) = false := by simp; omega
      have HX := Lib.hid (show r = false by rw [HS.out]; simp [c0, c1])
      go_enter Tryz.func132, Tryz.ntmps132
      go_wp2_with fail
      go_quiet (fail)
      go_wp2_with fail
      go_ret
      exact ⟨by rw [HX.out]; rfl, by repeat (first | exact Below.refl _ _ | (refine Below.drew ?_) | (refine below_drewN ?_ _) | (refine bel_new ?_ _))⟩
    have g1 : ((m : Int) == 0) = true := by simp; omega
    by_cases c2 : l = 0
    case neg =>
      have g2 : ((l : Int) == 0) = false := by simp; omega
      have HX := Lib.hid (show r = false by rw [HS.out]; simp [c0, c1, c2])
      go_enter Tryz.func132, Tryz.ntmps132
      go_wp2_with fail
      go_quiet (fail)
      go_wp2_with fail
      go_ret
      exact ⟨by rw [HX.out]; rfl, by repeat (first | exact Below.refl _ _ | (refine Below.drew ?_) | (refine below_drewN ?_ _) | (refine bel_new ?_ _))⟩
    have g2 : ((l : Int) == 0) = true := by simp; omega
    have HX := Lib.hid (show r = true by rw [HS.out]; simp [c0, c1, c2])
    go_enter Tryz.func132, Tryz.ntmps132
    go_wp2_with fail
    go_quiet (fail)
    go_wp2_with fail
    go_ret
    exact ⟨by rw [HX.out]; rfl, by repeat (first | exact Below.refl _ _ | (refine Below.drew ?_) | (refine below_drewN ?_ _) | (refine bel_new ?_ _))⟩
  by_cases k5 : k = 5
  · subst k5
    by_cases c0 : n = 0
    case neg =>
      have g0 : ((n : Int) == 0) = false := by simp; omega
      have HX := Lib.hid (show r = false by rw [HS.out]; simp [c0])
      go_enter Tryz.func132, Tryz.ntmps132
      go_wp2_with fail
      go_quiet (fail)
      go_wp2_with fail
      go_ret
      exact ⟨by rw [HX.out]; rfl, by repeat (first | exact Below.refl _ _ | (refine Below.drew ?_) | (refine below_drewN ?_ _) | (refine bel_new ?_ _))⟩
    have g0 : ((n : Int) == 0) = true := by simp; omega
    by_cases c1 : m = 0
    case neg =>
      have g1 : ((m : Int) == 0) = false := by simp; omega
      have HX := Lib.hid (show r = false by rw [HS.out]; simp [c0, c1])
      go_enter Tryz.func132, Tryz.ntmps132
      go_wp2_with fail
      go_quiet (fail)
      go_wp2_with fail
      go_ret
      exact ⟨by rw [HX.out]; rfl, by repeat (first | exact Below.refl _ _ | (refine Below.drew ?_) | (refine below_drewN ?_ _) | (refine bel_new ?_ _))⟩
    have g1 : ((m : Int) == 0) = true := by simp; omega
    by_cases c2 : l = 2
    case neg =>
      have g2 : ((l : Int) == 2) = false := by simp; omega
      have HX := Lib.hid (show r = false by rw [HS.out]; simp [c0, c1, c2])
      go_enter Tryz.func132, Tryz.ntmps132
      go_wp2_with fail
      go_quiet (fail)
      go_wp2_with fail
      go_ret
      exact ⟨by rw [HX.out]; rfl, by repeat (first | exact Below.refl _ _ | (refine Below.drew ?_) | (refine below_drewN ?_ _) | (refine bel_new ?_ _))⟩
    have g2 : ((l : Int) == 2) = true := by simp; omega
    have HX := Lib.hid (show r = true by rw [HS.out]; simp [c0, c1, c2])
    go_enter Tryz.func132, Tryz.ntmps132
    go_wp2_with fail
    go_quiet (fail)
    go_wp2_with fail
    go_ret
    exact ⟨by rw [HX.out]; rfl, by repeat (first | exact Below.refl _ _ | (refine Below.drew ?_) | (refine below_drewN ?_ _) | (refine bel_new ?_ _))⟩
  by_cases k6 : k = 6
  · subst k6
    by_cases c0 : n = 0
    case neg =>
      have g0 : ((n : Int) == 0) = false := by simp; omega
      have HX := Lib.hid (show r = false by rw [HS.out]; simp [c0])
      go_enter Tryz.func132, Tryz.ntmps132
      go_wp2_with fail
      go_quiet (fail)
      go_wp2_with fail
      go_ret
      exact ⟨by rw [HX.out]; rfl, by repeat (first | exact Below.refl _ _ | (refine Below.drew ?_) | (refine below_drewN ?_ _) | (refine bel_new ?_ _))⟩
    have g0 : ((n : Int) == 0) = true := by simp; omega
    by_cases c1 : m = 0
    case neg =>
      have g1 : ((m : Int) == 0) = false := by simp; omega
      have HX := Lib.hid (show r = false by rw [HS.out]; simp [c0, c1])
      go_enter Tryz.func132, Tryz.ntmps132
      go_wp2_with fail
      go_quiet (fail)
      go_wp2_with fail
      go_ret
      exact ⟨by rw [HX.out]; rfl, by repeat (first | exact Below.refl _ _ | (refine Below.drew ?_) | (refine below_drewN ?_ _) | (refine bel_new ?_ _))⟩
    have g1 : ((m : Int) == 0) = true := by simp; omega
    by_cases c2 : l = 2
    case neg =>
      have g2 : ((l : Int) == 2) = false := by simp; omega
      have HX := Lib.hid (show r = false by rw [HS.out]; simp [c0, c1, c2])
      go_enter Tryz.func132, Tryz.ntmps132
      go_wp2_with fail
      go_quiet (fail)
      go_wp2_with fail
      go_ret
      exact ⟨by rw [HX.out]; rfl, by repeat (first | exact Below.refl _ _ | (refine Below.drew ?_) | (refine below_drewN ?_ _) | (refine bel_new ?_ _))⟩
    have g2 : ((l : Int) == 2) = true := by simp; omega
    have HX := Lib.hid (show r = true by rw [HS.out]; simp [c0, c1, c2])
    go_enter Tryz.func132, Tryz.ntmps132
    go_wp2_with fail
    go_quiet (fail)
    go_wp2_with fail
    go_ret
    exact ⟨by rw [HX.out]; rfl, by repeat (first | exact Below.refl _ _ | (refine Below.drew ?_) | (refine below_drewN ?_ _) | (refine bel_new ?_ _))⟩
  by_cases k7 : k = 7
  · subst k7
    by_cases c0 : n = 0
    case neg =>
      have g0 : ((n : Int) == 0) = false := by simp; omega
      have HX := Lib.hid (show r = false by rw [HS.out]; simp [c0])
      go_enter Tryz.func132, Tryz.ntmps132
      go_wp2_with fail
      go_quiet (fail)
      go_wp2_with fail
      go_ret
      exact ⟨by rw [HX.out]; rfl, by repeat (first | exact Below.refl _ _ | (refine Below.drew ?_) | (refine below_drewN ?_ _) | (refine bel_new ?_ _))⟩
    have g0 : ((n : Int) == 0) = true := by simp; omega
    by_cases c1 : m = 0
    case neg =>
      have g1 : ((m : Int) == 0) = false := by simp; omega
      have HX := Lib.hid (show r = false by rw [HS.out]; simp [c0, c1])
      go_enter Tryz.func132, Tryz.ntmps132
      go_wp2_with fail
      go_quiet (fail)
      go_wp2_with fail
      go_ret
      exact ⟨by rw [HX.out]; rfl, by repeat (first | exact Below.refl _ _ | (refine Below.drew ?_) | (refine below_drewN ?_ _) | (refine bel_new ?_ _))⟩
    have g1 : ((m : Int) == 0) = true := by simp; omega
    by_cases c2 : l = 1
    case neg =>
      have g2 : ((l : Int) == 1) = false := by simp; omega
      have HX := Lib.hid (show r = false by rw [HS.out]; simp [c0, c1, c2])
      go_enter Tryz.func132, Tryz.ntmps132
      go_wp2_with fail
      go_quiet (fail)
      go_wp2_with fail
      go_ret
      exact ⟨by rw [HX.out]; rfl, by repeat (first | exact Below.refl _ _ | (refine Below.drew ?_) | (refine below_drewN ?_ _) | (refine bel_new ?_ _))⟩
    have g2 : ((l : Int) == 1) = true := by simp; omega
    have HX := Lib.hid (show r = true by rw [HS.out]; simp [c0, c1, c2])
    go_enter Tryz.func132, Tryz.ntmps132
    go_wp2_with fail
    go_quiet (fail)
    go_wp2_with fail
    go_ret
    exact ⟨by rw [HX.out]; rfl, by repeat (first | exact Below.refl _ _ | (refine Below.drew ?_) | (refine below_drewN ?_ _) | (refine bel_new ?_ _))⟩
  have HX := Lib.hid (show r = false by rw [HS.out]; simp [k1, k2, k3, k4, k5, k6, k7])
  have b1 : (k == 1) = false := by simpa using k1
  have b2 : (k == 2) = false := by simpa using k2
  have b3 : (k == 3) = false := by simpa using k3
  have b4 : (k == 4) = false := by simpa using k4
  have b5 : (k == 5) = false := by simpa using k5
  have b6 : (k == 6) = false := by simpa using k6
  have b7 : (k == 7) = false := by simpa using k7
  go_enter Tryz.func132, Tryz.ntmps132
  go_wp2_with fail
  go_quiet (fail)
  go_wp2_with fail
  go_ret
  exact ⟨by rw [HX.out]; rfl, by repeat (first | exact Below.refl _ _ | (refine Below.drew ?_) | (refine below_drewN ?_ _) | (refine bel_new ?_ _))⟩
end Go.Proofs.YtbanmggkfpnalaaGreatDoor
