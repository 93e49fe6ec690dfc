/- print.pattern: the walks. -/
import Derived.Test.YtahckikemljlnaaGreatDoorPrEx
set_option linter.unusedVariables false
set_option linter.unusedSimpArgs false
namespace Go.Proofs.YtahckikemljlnaaGreatDoor
open Go.RowKit Ru

theorem may_prt {e : RE} (h : e.may = true) : e.size ≤ 60 ∧ e.prt = true := by
  have := ((RE.vis_both e.size e (Nat.le_refl _) 0 1).1).1 h
  exact ⟨by omega, this.2.2⟩
def reP (e : RE) : ByteArray := if e.may = true then e.text else ⟨#[]⟩
set_option maxHeartbeats 4000000 in
set_option maxRecDepth 100000 in
theorem prRe_any (e : RE) (sv lv : Value) (w : World) (h : ReIs w e sv lv) (hf : e.Fit) (hT : TZ w) :
    Calls Tryz.prog 25 #[.agg #[.int .i64 e.kind, sv, lv]] w fun x w' => x = .returned (.string (reP e)) ∧ Below w.heap.size w w' := by
  have hm := fun w' (hb : Below w.heap.size w w') => reMay_any e sv lv w' (h.moved hb) hf
  have hx := fun (hm : e.may = true) w' (hb : Below w.heap.size w w') => expr_any e sv lv w' (by have := may_prt hm; omega) (may_prt hm).2 (h.moved hb) (hT.moved hb)
  have hp : reP e = if e.may = true then e.text else ⟨#[]⟩ := rfl
  obtain ⟨⟨o1, q1, rfl⟩, ⟨o2, q2, rfl⟩⟩ := h.form
  obtain ⟨m, hmm⟩ : ∃ m, m = e.may := ⟨_, rfl⟩
  rw [← hmm] at hm hx hp
  obtain ⟨k, hk⟩ : ∃ k, k = e.kind := ⟨_, rfl⟩
  obtain ⟨a, ha⟩ : ∃ a, a = e.set.length := ⟨_, rfl⟩
  obtain ⟨b, hb⟩ : ∃ b, b = e.parts.length := ⟨_, rfl⟩
  rw [← hk, ← ha, ← hb] at hm hx ⊢
  have HM := Lib.hid hm
  have HX := Lib.hid hx
  have HP := Lib.hid hp
  clear hm hx hp hmm hk ha hb h hT hf
  cases m with
  | false =>
    go_enter Tryz.func25, Tryz.ntmps25
    go_wp2_with fail
    refine (HM.out _ (bel_new (Below.refl _ _) _)).mono ?_
    rintro x w2 ⟨rfl, hb2⟩
    have HB2 := Lib.hid (bel_then (bel_new (Below.refl w.heap.size w) _) hb2)
    clear hb2
    go_wp2_with fail
    go_ret
    exact ⟨by rw [HP.out]; rfl, HB2.out⟩
  | true =>
    go_enter Tryz.func25, Tryz.ntmps25
    go_wp2_with fail
    refine (HM.out _ (bel_new (Below.refl _ _) _)).mono ?_
    rintro x w2 ⟨rfl, hb2⟩
    have HB2 := Lib.hid (bel_then (bel_new (Below.refl w.heap.size w) _) hb2)
    obtain ⟨c0, c1, c2⟩ := cell3_of (box_kept hb2)
    clear hb2
    go_wp2_with fail
    refine (HX.out trivial _ HB2.out).mono ?_
    rintro x w3 ⟨rfl, hb3⟩
    have HB3 := Lib.hid (bel_then HB2.out hb3)
    clear hb3
    go_wp2_with fail
    go_ret
    exact ⟨by rw [HP.out]; rfl, HB3.out⟩
end Go.Proofs.YtahckikemljlnaaGreatDoor

namespace Go.Proofs.YtahckikemljlnaaGreatDoor
open Go.RowKit Ru
theorem gramShp (e : PT) : e.shp = decide (((e.kind = 1 ∨ e.kind = 4) ∧ e.names.length = 0 ∧ e.ends.length = 0 ∧ e.parts.length = 0) ∨ (e.kind = 2 ∧ 0 < e.names.length ∧ e.ends.length = 0 ∧ e.parts.length = 0) ∨ (e.kind = 3 ∧ 0 < e.names.length ∧ 0 < e.ends.length ∧ e.parts.length = 1) ∨ ((e.kind = 5 ∨ e.kind = 6) ∧ e.names.length = 0 ∧ e.ends.length = 0 ∧ e.parts.length = 2) ∨ (e.kind = 7 ∧ e.names.length = 0 ∧ e.ends.length = 0 ∧ e.parts.length = 1)) := by
  rw [Bool.eq_iff_iff, decide_eq_true_iff]
  unfold PT.shp
  generalize e.kind = k
  generalize e.names.length = n
  generalize e.ends.length = m
  generalize e.parts.length = l
  (repeat' split) <;> simp only [Bool.and_eq_true, decide_eq_true_eq, Bool.false_eq_true, false_iff] <;> omega
set_option maxHeartbeats 8000000 in
set_option maxRecDepth 100000 in
theorem prShaped_any (e : PT) (nv ev lv : Value) (w : World) (h : PtIs w e nv ev lv) (hf : e.Fit) :
    Calls Tryz.prog 172 #[.agg #[.int .i64 e.kind, nv, ev, lv]] w fun x w' => x = .returned (.bool e.shp) ∧ Below w.heap.size w w' := by
  obtain ⟨⟨o1, q1, rfl⟩, ⟨o3, q3, rfl⟩, ⟨o2, q2, rfl⟩⟩ := h.form
  have hm := hf.lens
  have hshp := gramShp e
  obtain ⟨k, hk⟩ : ∃ k, k = e.kind := ⟨_, rfl⟩
  obtain ⟨n, hn⟩ : ∃ n, n = e.names.length := ⟨_, rfl⟩
  obtain ⟨m, hm'⟩ : ∃ m, m = e.ends.length := ⟨_, rfl⟩
  obtain ⟨l, hl⟩ : ∃ l, l = e.parts.length := ⟨_, rfl⟩
  obtain ⟨r, hr⟩ : ∃ r, r = e.shp := ⟨_, rfl⟩
  rw [← hk, ← hn, ← hm', ← hl, ← hr] at hshp
  rw [← hn, ← hm', ← hl] at hm
  rw [← hk, ← hn, ← hm', ← hl, ← hr]
  obtain ⟨hm1, hm2, hm3⟩ := hm
  clear hk hn hm' hl hr hf h
  by_cases k1 : k = 1
  · subst k1
    by_cases c0 : n = 0
    · have d0 : decide ((0 : Int) < (n : Int)) = false := by simp; omega
      by_cases c1 : m = 0
      · have d1 : decide ((0 : Int) < (m : Int)) = false := by simp; omega
        by_cases c2 : l = 0
        · have d2 : ((l : Int) == 0) = true := by simp; omega
          have HX := Lib.hid (show r = true by rw [hshp]; simp; omega)
          clear hshp
          go_enter Tryz.func172, Tryz.ntmps172
          go_wp2_with fail
          go_ret
          exact ⟨by rw [HX.out]; rfl, bel_new (Below.refl _ _) _⟩
        · have d2 : ((l : Int) == 0) = false := by simp; omega
          have HX := Lib.hid (show r = false by rw [hshp]; simp; omega)
          clear hshp
          go_enter Tryz.func172, Tryz.ntmps172
          go_wp2_with fail
          go_ret
          exact ⟨by rw [HX.out]; rfl, bel_new (Below.refl _ _) _⟩
      · have d1 : decide ((0 : Int) < (m : Int)) = true := by simp; omega
        have HX := Lib.hid (show r = false by rw [hshp]; simp; omega)
        clear hshp
        go_enter Tryz.func172, Tryz.ntmps172
        go_wp2_with fail
        go_ret
        exact ⟨by rw [HX.out]; rfl, bel_new (Below.refl _ _) _⟩
    · have d0 : decide ((0 : Int) < (n : Int)) = true := by simp; omega
      have HX := Lib.hid (show r = false by rw [hshp]; simp; omega)
      clear hshp
      go_enter Tryz.func172, Tryz.ntmps172
      go_wp2_with fail
      go_ret
      exact ⟨by rw [HX.out]; rfl, bel_new (Below.refl _ _) _⟩
  by_cases k4 : k = 4
  · subst k4
    by_cases c0 : n = 0
    · have d0 : decide ((0 : Int) < (n : Int)) = false := by simp; omega
      by_cases c1 : m = 0
      · have d1 : decide ((0 : Int) < (m : Int)) = false := by simp; omega
        by_cases c2 : l = 0
        · have d2 : ((l : Int) == 0) = true := by simp; omega
          have HX := Lib.hid (show r = true by rw [hshp]; simp; omega)
          clear hshp
          go_enter Tryz.func172, Tryz.ntmps172
          go_wp2_with fail
          go_ret
          exact ⟨by rw [HX.out]; rfl, bel_new (Below.refl _ _) _⟩
        · have d2 : ((l : Int) == 0) = false := by simp; omega
          have HX := Lib.hid (show r = false by rw [hshp]; simp; omega)
          clear hshp
          go_enter Tryz.func172, Tryz.ntmps172
          go_wp2_with fail
          go_ret
          exact ⟨by rw [HX.out]; rfl, bel_new (Below.refl _ _) _⟩
      · have d1 : decide ((0 : Int) < (m : Int)) = true := by simp; omega
        have HX := Lib.hid (show r = false by rw [hshp]; simp; omega)
        clear hshp
        go_enter Tryz.func172, Tryz.ntmps172
        go_wp2_with fail
        go_ret
        exact ⟨by rw [HX.out]; rfl, bel_new (Below.refl _ _) _⟩
    · have d0 : decide ((0 : Int) < (n : Int)) = true := by simp; omega
      have HX := Lib.hid (show r = false by rw [hshp]; simp; omega)
      clear hshp
      go_enter Tryz.func172, Tryz.ntmps172
      go_wp2_with fail
      go_ret
      exact ⟨by rw [HX.out]; rfl, bel_new (Below.refl _ _) _⟩
  by_cases k2 : k = 2
  · subst k2
    by_cases c0 : 0 < n
    · have d0 : decide ((0 : Int) < (n : Int)) = true := by simp; omega
      by_cases c1 : m = 0
      · have d1 : decide ((0 : Int) < (m : Int)) = false := by simp; omega
        by_cases c2 : l = 0
        · have d2 : ((l : Int) == 0) = true := by simp; omega
          have HX := Lib.hid (show r = true by rw [hshp]; simp; omega)
          clear hshp
          go_enter Tryz.func172, Tryz.ntmps172
          go_wp2_with fail
          go_ret
          exact ⟨by rw [HX.out]; rfl, bel_new (Below.refl _ _) _⟩
        · have d2 : ((l : Int) == 0) = false := by simp; omega
          have HX := Lib.hid (show r = false by rw [hshp]; simp; omega)
          clear hshp
          go_enter Tryz.func172, Tryz.ntmps172
          go_wp2_with fail
          go_ret
          exact ⟨by rw [HX.out]; rfl, bel_new (Below.refl _ _) _⟩
      · have d1 : decide ((0 : Int) < (m : Int)) = true := by simp; omega
        have HX := Lib.hid (show r = false by rw [hshp]; simp; omega)
        clear hshp
        go_enter Tryz.func172, Tryz.ntmps172
        go_wp2_with fail
        go_ret
        exact ⟨by rw [HX.out]; rfl, bel_new (Below.refl _ _) _⟩
    · have d0 : decide ((0 : Int) < (n : Int)) = false := by simp; omega
      have HX := Lib.hid (show r = false by rw [hshp]; simp; omega)
      clear hshp
      go_enter Tryz.func172, Tryz.ntmps172
      go_wp2_with fail
      go_ret
      exact ⟨by rw [HX.out]; rfl, bel_new (Below.refl _ _) _⟩
  by_cases k3 : k = 3
  · subst k3
    by_cases c0 : 0 < n
    · have d0 : decide ((0 : Int) < (n : Int)) = true := by simp; omega
      by_cases c1 : 0 < m
      · have d1 : decide ((0 : Int) < (m : Int)) = true := by simp; omega
        by_cases c2 : l = 1
        · have d2 : ((l : Int) == 1) = true := by simp; omega
          have HX := Lib.hid (show r = true by rw [hshp]; simp; omega)
          clear hshp
          go_enter Tryz.func172, Tryz.ntmps172
          go_wp2_with fail
          go_ret
          exact ⟨by rw [HX.out]; rfl, bel_new (Below.refl _ _) _⟩
        · have d2 : ((l : Int) == 1) = false := by simp; omega
          have HX := Lib.hid (show r = false by rw [hshp]; simp; omega)
          clear hshp
          go_enter Tryz.func172, Tryz.ntmps172
          go_wp2_with fail
          go_ret
          exact ⟨by rw [HX.out]; rfl, bel_new (Below.refl _ _) _⟩
      · have d1 : decide ((0 : Int) < (m : Int)) = false := by simp; omega
        have HX := Lib.hid (show r = false by rw [hshp]; simp; omega)
        clear hshp
        go_enter Tryz.func172, Tryz.ntmps172
        go_wp2_with fail
        go_ret
        exact ⟨by rw [HX.out]; rfl, bel_new (Below.refl _ _) _⟩
    · have d0 : decide ((0 : Int) < (n : Int)) = false := by simp; omega
      have HX := Lib.hid (show r = false by rw [hshp]; simp; omega)
      clear hshp
      go_enter Tryz.func172, Tryz.ntmps172
      go_wp2_with fail
      go_ret
      exact ⟨by rw [HX.out]; rfl, bel_new (Below.refl _ _) _⟩
  by_cases k5 : k = 5
  · subst k5
    by_cases c0 : n = 0
    · have d0 : decide ((0 : Int) < (n : Int)) = false := by simp; omega
      by_cases c1 : m = 0
      · have d1 : decide ((0 : Int) < (m : Int)) = false := by simp; omega
        by_cases c2 : l = 2
        · have d2 : ((l : Int) == 2) = true := by simp; omega
          have HX := Lib.hid (show r = true by rw [hshp]; simp; omega)
          clear hshp
          go_enter Tryz.func172, Tryz.ntmps172
          go_wp2_with fail
          go_ret
          exact ⟨by rw [HX.out]; rfl, bel_new (Below.refl _ _) _⟩
        · have d2 : ((l : Int) == 2) = false := by simp; omega
          have HX := Lib.hid (show r = false by rw [hshp]; simp; omega)
          clear hshp
          go_enter Tryz.func172, Tryz.ntmps172
          go_wp2_with fail
          go_ret
          exact ⟨by rw [HX.out]; rfl, bel_new (Below.refl _ _) _⟩
      · have d1 : decide ((0 : Int) < (m : Int)) = true := by simp; omega
        have HX := Lib.hid (show r = false by rw [hshp]; simp; omega)
        clear hshp
        go_enter Tryz.func172, Tryz.ntmps172
        go_wp2_with fail
        go_ret
        exact ⟨by rw [HX.out]; rfl, bel_new (Below.refl _ _) _⟩
    · have d0 : decide ((0 : Int) < (n : Int)) = true := by simp; omega
      have HX := Lib.hid (show r = false by rw [hshp]; simp; omega)
      clear hshp
      go_enter Tryz.func172, Tryz.ntmps172
      go_wp2_with fail
      go_ret
      exact ⟨by rw [HX.out]; rfl, bel_new (Below.refl _ _) _⟩
  by_cases k6 : k = 6
  · subst k6
    by_cases c0 : n = 0
    · have d0 : decide ((0 : Int) < (n : Int)) = false := by simp; omega
      by_cases c1 : m = 0
      · have d1 : decide ((0 : Int) < (m : Int)) = false := by simp; omega
        by_cases c2 : l = 2
        · have d2 : ((l : Int) == 2) = true := by simp; omega
          have HX := Lib.hid (show r = true by rw [hshp]; simp; omega)
          clear hshp
          go_enter Tryz.func172, Tryz.ntmps172
          go_wp2_with fail
          go_ret
          exact ⟨by rw [HX.out]; rfl, bel_new (Below.refl _ _) _⟩
        · have d2 : ((l : Int) == 2) = false := by simp; omega
          have HX := Lib.hid (show r = false by rw [hshp]; simp; omega)
          clear hshp
          go_enter Tryz.func172, Tryz.ntmps172
          go_wp2_with fail
          go_ret
          exact ⟨by rw [HX.out]; rfl, bel_new (Below.refl _ _) _⟩
      · have d1 : decide ((0 : Int) < (m : Int)) = true := by simp; omega
        have HX := Lib.hid (show r = false by rw [hshp]; simp; omega)
        clear hshp
        go_enter Tryz.func172, Tryz.ntmps172
        go_wp2_with fail
        go_ret
        exact ⟨by rw [HX.out]; rfl, bel_new (Below.refl _ _) _⟩
    · have d0 : decide ((0 : Int) < (n : Int)) = true := by simp; omega
      have HX := Lib.hid (show r = false by rw [hshp]; simp; omega)
      clear hshp
      go_enter Tryz.func172, Tryz.ntmps172
      go_wp2_with fail
      go_ret
      exact ⟨by rw [HX.out]; rfl, bel_new (Below.refl _ _) _⟩
  by_cases k7 : k = 7
  · subst k7
    by_cases c0 : n = 0
    · have d0 : decide ((0 : Int) < (n : Int)) = false := by simp; omega
      by_cases c1 : m = 0
      · have d1 : decide ((0 : Int) < (m : Int)) = false := by simp; omega
        by_cases c2 : l = 1
        · have d2 : ((l : Int) == 1) = true := by simp; omega
          have HX := Lib.hid (show r = true by rw [hshp]; simp; omega)
          clear hshp
          go_enter Tryz.func172, Tryz.ntmps172
          go_wp2_with fail
          go_ret
          exact ⟨by rw [HX.out]; rfl, bel_new (Below.refl _ _) _⟩
        · have d2 : ((l : Int) == 1) = false := by simp; omega
          have HX := Lib.hid (show r = false by rw [hshp]; simp; omega)
          clear hshp
          go_enter Tryz.func172, Tryz.ntmps172
          go_wp2_with fail
          go_ret
          exact ⟨by rw [HX.out]; rfl, bel_new (Below.refl _ _) _⟩
      · have d1 : decide ((0 : Int) < (m : Int)) = true := by simp; omega
        have HX := Lib.hid (show r = false by rw [hshp]; simp; omega)
        clear hshp
        go_enter Tryz.func172, Tryz.ntmps172
        go_wp2_with fail
        go_ret
        exact ⟨by rw [HX.out]; rfl, bel_new (Below.refl _ _) _⟩
    · have d0 : decide ((0 : Int) < (n : Int)) = true := by simp; omega
      have HX := Lib.hid (show r = false by rw [hshp]; simp; omega)
      clear hshp
      go_enter Tryz.func172, Tryz.ntmps172
      go_wp2_with fail
      go_ret
      exact ⟨by rw [HX.out]; rfl, bel_new (Below.refl _ _) _⟩
  have e1 : (k == 1) = false := by simpa using k1
  have e2 : (k == 2) = false := by simpa using k2
  have e3 : (k == 3) = false := by simpa using k3
  have e4 : (k == 4) = false := by simpa using k4
  have e5 : (k == 5) = false := by simpa using k5
  have e6 : (k == 6) = false := by simpa using k6
  have e7 : (k == 7) = false := by simpa using k7
  have HX := Lib.hid (show r = false by rw [hshp]; simp; omega)
  clear hshp k1 k2 k3 k4 k5 k6 k7
  go_enter Tryz.func172, Tryz.ntmps172
  go_wp2_with fail
  go_ret
  exact ⟨by rw [HX.out]; rfl, bel_new (Below.refl _ _) _⟩
end Go.Proofs.YtahckikemljlnaaGreatDoor

namespace Go.Proofs.YtahckikemljlnaaGreatDoor
open Go.RowKit Ru

set_option maxHeartbeats 4000000 in
set_option maxRecDepth 100000 in
theorem prValid_index (n : Nat) (o : Option Addr) (cap : Nat) (cap0 cap1 : Value) (c0 c1 c2 c3 : Nat → Value) (St : Nat → World → Prop) (Fin : Nat → World → Prop) (w : World) (hn : n ≤ 1000000)
    (hel : ∀ i, i < n → ∃ b off, o = some ⟨b, off, none⟩ ∧ ∀ w', St i w' → w'.cell? ⟨b, off + i * 4, none⟩ = some (c0 i) ∧ w'.cell? ⟨b, off + i * 4 + 1, none⟩ = some (c1 i) ∧ w'.cell? ⟨b, off + i * 4 + 2, none⟩ = some (c2 i) ∧ w'.cell? ⟨b, off + i * 4 + 3, none⟩ = some (c3 i))
    (hf : ∀ i w', i < n → St i w' → Calls Tryz.prog 174 #[.agg #[c0 i, c1 i, c2 i, c3 i], cap0, cap1] w' fun e w'' => (e = .returned (.bool true) ∧ Fin i w'') ∨ (e = .returned (.bool false) ∧ St (i + 1) w''))
    (h0 : St 0 w) :
    Calls Tryz.prog 202 #[.slice o n cap, .func (Fn.func 174) #[] #[cap0, cap1]] w fun e w' => (∃ i : Nat, i < n ∧ e = .returned (.int .i64 i) ∧ Fin i w') ∨ (e = .returned (.int .i64 (-1)) ∧ St n w') := by
  have HEL := Lib.hid hel
  have HF := Lib.hid hf
  clear hel hf
  go_enter Tryz.func202, Tryz.ntmps202
  go_wp2_with fail
  go_loopg [8] n (fun g i wx => ∃ k : Nat, k + g = n ∧ i = .int .i64 k ∧ St k wx)
  case atStart => exact ⟨0, by omega, rfl, h0⟩
  case round =>
    obtain ⟨k, hkg, rfl, hSt⟩ := hrel
    obtain ⟨wo, rfl⟩ : ∃ wo : World, wo = wr := ⟨_, rfl⟩
    cases gk with
    | zero =>
      obtain rfl : k = n := by omega
      have hd : decide ((k : Int) < (k : Int)) = false := by simp
      have HS := Lib.hid hSt
      clear hSt
      go_wp2
      go_ret
      exact .inr ⟨rfl, HS.out⟩
    | succ g =>
      have hk : k < n := by omega
      have hd : decide ((k : Int) < (n : Int)) = true := by simp; omega
      have hk1 : (0 : Int) ≤ (k : Int) := by omega
      have hk2 : (k : Int) < (n : Int) := by omega
      have hk9 : (k : Int) ≤ 1000000 := by omega
      obtain ⟨b, off, rfl, hcell⟩ := HEL.out k hk
      obtain ⟨k0, k1, k2, k3⟩ := hcell wo hSt
      have hc := HF.out k wo hk hSt
      obtain ⟨d0, hd0⟩ : ∃ d, d = c0 k := ⟨_, rfl⟩
      rw [← hd0] at k0 hc
      clear hd0
      obtain ⟨d1, hd1⟩ : ∃ d, d = c1 k := ⟨_, rfl⟩
      rw [← hd1] at k1 hc
      clear hd1
      obtain ⟨d2, hd2⟩ : ∃ d, d = c2 k := ⟨_, rfl⟩
      rw [← hd2] at k2 hc
      clear hd2
      obtain ⟨d3, hd3⟩ : ∃ d, d = c3 k := ⟨_, rfl⟩
      rw [← hd3] at k3 hc
      clear hd3
      have HC := Lib.hid hc
      clear hcell hSt hc
      go_wp2_with fail
      refine HC.out.mono ?_
      rintro e w2 (⟨rfl, hfin⟩ | ⟨rfl, hst⟩)
      · have HX := Lib.hid hfin
        clear hfin
        go_wp2
        go_ret
        exact .inl ⟨k, hk, rfl, HX.out⟩
      · have HX := Lib.hid hst
        clear hst
        go_wp2
        go_roundg g
        case measure => omega
        case rel => exact ⟨k + 1, by omega, by go_num, HX.out⟩

set_option maxHeartbeats 4000000 in
set_option maxRecDepth 100000 in
theorem prValid_contains (n : Nat) (o : Option Addr) (cap : Nat) (cap0 cap1 : Value) (c0 c1 c2 c3 : Nat → Value) (St : Nat → World → Prop) (Fin : Nat → World → Prop) (w : World) (hn : n ≤ 1000000)
    (hel : ∀ i, i < n → ∃ b off, o = some ⟨b, off, none⟩ ∧ ∀ w', St i w' → w'.cell? ⟨b, off + i * 4, none⟩ = some (c0 i) ∧ w'.cell? ⟨b, off + i * 4 + 1, none⟩ = some (c1 i) ∧ w'.cell? ⟨b, off + i * 4 + 2, none⟩ = some (c2 i) ∧ w'.cell? ⟨b, off + i * 4 + 3, none⟩ = some (c3 i))
    (hf : ∀ i w', i < n → St i w' → Calls Tryz.prog 174 #[.agg #[c0 i, c1 i, c2 i, c3 i], cap0, cap1] w' fun e w'' => (e = .returned (.bool true) ∧ Fin i w'') ∨ (e = .returned (.bool false) ∧ St (i + 1) w''))
    (h0 : St 0 w) :
    Calls Tryz.prog 173 #[.slice o n cap, .func (Fn.func 174) #[] #[cap0, cap1]] w fun e w' => (∃ i : Nat, i < n ∧ e = .returned (.bool true) ∧ Fin i w') ∨ (e = .returned (.bool false) ∧ St n w') := by
  have hc := prValid_index n o cap cap0 cap1 c0 c1 c2 c3 St Fin w hn hel hf h0
  have HC := Lib.hid hc
  clear hc hf hel
  go_enter Tryz.func173, Tryz.ntmps173
  go_wp2_with fail
  refine HC.out.mono ?_
  rintro e w2 (⟨i, hi, rfl, hfin⟩ | ⟨rfl, hst⟩)
  · have HX := Lib.hid hfin
    have hi0 : decide ((0 : Int) ≤ (i : Int)) = true := by simp
    have hi9 : (i : Int) ≤ 1000000 := by omega
    clear hfin
    go_wp2
    go_ret
    exact .inl ⟨i, hi, rfl, HX.out⟩
  · have HX := Lib.hid hst
    clear hst
    go_wp2
    go_ret
    exact .inr ⟨rfl, HX.out⟩

namespace PT
mutual
def vsp : PT → Nat → Nat → Bool × Nat
  | .mk k ns es l, n, deep => if 60 < n + 1 ∨ 12 < deep ∨ shp (.mk k ns es l) = false then (false, n + 1) else vspL l (n + 1) (deep + 1)
def vspL : List PT → Nat → Nat → Bool × Nat
  | [], n, _ => (true, n)
  | e :: l, n, deep => if (vsp e n deep).1 = true then vspL l (vsp e n deep).2 deep else (false, (vsp e n deep).2)
end
theorem vsp_eq (e : PT) (n deep : Nat) : vsp e n deep = if 60 < n + 1 ∨ 12 < deep ∨ shp e = false then (false, n + 1) else vspL e.parts (n + 1) (deep + 1) := by cases e; rw [vsp]; rfl
theorem vspL_nil (n deep : Nat) : vspL [] n deep = (true, n) := by rw [vspL]
theorem vspL_cons (e : PT) (l : List PT) (n deep : Nat) : vspL (e :: l) n deep = if (vsp e n deep).1 = true then vspL l (vsp e n deep).2 deep else (false, (vsp e n deep).2) := by rw [vspL]
def validB (e : PT) : Bool := (vsp e 0 1).1
end PT
theorem PT.vsp_cnt : ∀ (N : Nat) (e : PT), e.size ≤ N → ∀ n d, (e.vsp n d).1 = true → (e.vsp n d).2 ≤ 60 := by
  intro N
  induction N with
  | zero => intro e h; have := e.size_pos; omega
  | succ N ih =>
    intro e hs n d h
    rw [PT.vsp_eq] at h ⊢
    split at h
    · cases h
    · rename_i hc
      rw [if_neg hc]
      have hn : n + 1 ≤ 60 := by omega
      have hp : ∀ (i : Nat) (p : PT), e.parts[i]? = some p → p.size ≤ N := fun i p hp => by have := PT.size_part hp; omega
      have : ∀ (l : List PT) (m : Nat), (∀ p ∈ l, p.size ≤ N) → m ≤ 60 → (PT.vspL l m (d + 1)).1 = true → (PT.vspL l m (d + 1)).2 ≤ 60 := by
        intro l
        induction l with
        | nil => intro m _ hm _; rw [PT.vspL_nil]; exact hm
        | cons a l ihl =>
          intro m hl hm h
          rw [PT.vspL_cons] at h ⊢
          split at h
          · rename_i ha
            rw [if_pos ha]
            exact ihl _ (fun p hp => hl p (by simp [hp])) (ih a (hl a (by simp)) m (d + 1) ha) h
          · cases h
      exact this e.parts (n + 1) (fun p hpm => by obtain ⟨i, hi, rfl⟩ := List.getElem_of_mem hpm; exact hp i _ (List.getElem?_eq_getElem hi)) hn h
abbrev WVFn (qn qv : Nat) : Value := .func (Fn.func 171) #[] #[.pointer (some ⟨qn, 0, none⟩), .pointer (some ⟨qv, 0, none⟩)]
structure WVAt (w0 w : World) (qn qv n : Nat) : Prop where
  bel : Below w0.heap.size w0 w
  cn : w.heap[qn]? = some (.cells #[.int .i64 n] 3 (0, 0))
  cv : w.heap[qv]? = some (.cells #[WVFn qn qv] 196 (0, 0))
  ln : w0.heap.size ≤ qn
  lv : w0.heap.size ≤ qv
  ne : qn ≠ qv
theorem WVAt.go {w0 w w' : World} {qn qv n m : Nat} (h : WVAt w0 w qn qv n) (hc : Ch w w' qn) (hn : w'.heap[qn]? = some (.cells #[.int .i64 m] 3 (0, 0))) : WVAt w0 w' qn qv m :=
  ⟨hc.after h.bel h.ln, hn, hc.get h.cv (fun e => h.ne e.symm), h.ln, h.lv, h.ne⟩
theorem WVAt.moved {w0 w w' : World} {qn qv n : Nat} (h : WVAt w0 w qn qv n) (hb : Below w.heap.size w w') : WVAt w0 w' qn qv n := h.go (Ch.of hb) (bel_get hb h.cn)
def WVPost (w0 : World) (e : PT) (qn qv n deep : Nat) (w : World) (x : Ending) (w' : World) : Prop :=
  x = .returned (.bool (e.vsp n deep).1) ∧ WVAt w0 w' qn qv (e.vsp n deep).2 ∧ Ch w w' qn
def WVIh (w0 : World) (N qn qv : Nat) : Prop := ∀ (e : PT) (nv ev lv : Value) (n deep : Nat) (w : World), e.size ≤ N → e.Fit → PtIs w0 e nv ev lv → WVAt w0 w qn qv n → n ≤ 1000 → deep ≤ 1000 →
  Calls Tryz.prog 171 #[.agg #[.int .i64 e.kind, nv, ev, lv], .int .i64 deep, .pointer (some ⟨qn, 0, none⟩), .pointer (some ⟨qv, 0, none⟩)] w (WVPost w0 e qn qv n deep w)
set_option maxHeartbeats 4000000 in
set_option maxRecDepth 100000 in
theorem prv_part (w0 : World) (N qn qv qd : Nat) (ih : WVIh w0 N qn qv) (e : PT) (nv ev lv : Value) (n deep : Nat) (w : World) (hs : e.size ≤ N) (hf : e.Fit) (hr : PtIs w0 e nv ev lv) (hv : WVAt w0 w qn qv n) (hn : n ≤ 1000) (hd : deep ≤ 999)
    (hq : w.heap[qd]? = some (.cells #[.int .i64 deep] 3 (0, 0))) :
    Calls Tryz.prog 174 #[.agg #[.int .i64 e.kind, nv, ev, lv], .pointer (some ⟨qv, 0, none⟩), .pointer (some ⟨qd, 0, none⟩)] w fun x w' =>
      x = .returned (.bool (!(e.vsp n (deep + 1)).1)) ∧ WVAt w0 w' qn qv (e.vsp n (deep + 1)).2 ∧ Ch w w' qn := by
  obtain ⟨⟨o1, q1, rfl⟩, ⟨o3, q3, rfl⟩, ⟨o2, q2, rfl⟩⟩ := hr.form
  have hc := fun w' (hv' : WVAt w0 w' qn qv n) => ih e _ _ _ n (deep + 1) w' hs hf hr hv' hn (by omega)
  obtain ⟨rb, hrb⟩ : ∃ rb, rb = (e.vsp n (deep + 1)).1 := ⟨_, rfl⟩
  unfold WVPost at hc
  rw [← hrb] at hc ⊢
  have hw1 : (deep : Int) + 1 = ((deep + 1 : Nat) : Int) := by omega
  have hdz : (deep : Int) ≤ 999 := by omega
  obtain ⟨c0, f0⟩ := cell1_of hv.cv
  unfold WVFn at c0
  have hlv := hp_lt hv.cv
  obtain ⟨c1, f1⟩ := cell1_of hq
  have hld := hp_lt hq
  have HC := Lib.hid hc
  have HV := Lib.hid hv
  have HW := Lib.hid hw1
  clear hc hv hq hr ih hrb hw1
  go_enter Tryz.func174, Tryz.ntmps174
  go_wp2_with fail
  rw [show (Value.int .i64 ((deep : Int) + 1)) = .int .i64 ((deep + 1 : Nat) : Int) by rw [HW.out]]
  refine (HC.out _ (HV.out.moved (bel_new (Below.refl _ _) _))).mono ?_
  rintro x w2 ⟨rfl, hv2, hc2⟩
  have HX := Lib.hid (And.intro hv2 ((Ch.new w _ qn).trans hc2))
  clear hv2 hc2
  go_wp2
  go_ret
  exact ⟨rfl, HX.out.1, HX.out.2⟩
set_option maxHeartbeats 8000000 in
set_option maxRecDepth 100000 in
theorem prv_any (w0 : World) (qn qv : Nat) : ∀ N, WVIh w0 N qn qv := by
  intro N
  induction N with
  | zero => intro e nv ev lv n deep w hs; have := e.size_pos; omega
  | succ N ih =>
    intro e nv ev lv n deep w hs hf hr hv hn hd
    obtain ⟨⟨o1, q1, rfl⟩, ⟨o3, q3, rfl⟩, -⟩ := hr.form
    obtain ⟨o2, q2, c1, c3, c2, rfl, hall⟩ := hr.all
    have hm1 := hf.lens
    have hve := e.vsp_eq n deep
    have hqs := hp_lt hv.cn
    have hqs2 := hp_lt hv.cv
    obtain ⟨cn0, fn0⟩ := cell1_of hv.cn
    obtain ⟨W0', hW0⟩ : ∃ W0', W0' = w.setCell ⟨qn, 0, none⟩ (.int .i64 ((n + 1 : Nat) : Int)) := ⟨_, rfl⟩
    have hsz0 : W0'.heap.size = w.heap.size := by rw [hW0]; simp [World.setCell]
    have hc0 : Ch w W0' qn := by rw [hW0]; exact Ch.set _ _ _ _
    have hv0 : WVAt w0 W0' qn qv (n + 1) := hv.go hc0 (by rw [hW0]; exact cell1_set hv.cn _)
    obtain ⟨W2, hW2⟩ : ∃ W2, W2 = (W0'.alloc (.cells #[.int .i64 e.kind, .slice o1 e.names.length q1, .slice o3 e.ends.length q3, .slice o2 e.parts.length q2] 65)).alloc (.cells #[.int .i64 deep] 3) := ⟨_, rfl⟩
    have hb2 : Below W0'.heap.size W0' W2 := by rw [hW2]; exact bel_new (bel_new (Below.refl _ _) _) _
    have hE2 : W2.heap[w.heap.size]? = some (.cells #[.int .i64 e.kind, .slice o1 e.names.length q1, .slice o3 e.ends.length q3, .slice o2 e.parts.length q2] 65 (0, 0)) := by
      rw [hW2, Below.heap_alloc _ _ _ (by simp [hsz0]), ← hsz0]; exact heap_alloc_new W0' _
    have hD2 : W2.heap[w.heap.size + 1]? = some (.cells #[.int .i64 deep] 3 (0, 0)) := by
      rw [hW2]
      have := heap_alloc_new (W0'.alloc (.cells #[.int .i64 e.kind, .slice o1 e.names.length q1, .slice o3 e.ends.length q3, .slice o2 e.parts.length q2] 65)) (.cells #[.int .i64 deep] 3)
      simpa [hsz0] using this
    have hv2 : WVAt w0 W2 qn qv (n + 1) := hv0.moved hb2
    have hcw : Ch w W2 qn := hc0.bel' hb2
    have hstep : ((w.setCell ⟨qn, 0, none⟩ (.int .i64 ((n : Int) + 1))).alloc (.cells #[.int .i64 e.kind, .slice o1 e.names.length q1, .slice o3 e.ends.length q3, .slice o2 e.parts.length q2] 65)).alloc (.cells #[.int .i64 deep] 3) = W2 := by rw [hW2, hW0]; rfl
    have hsz2 : w.heap.size + 1 < W2.heap.size := hp_lt hD2
    have hnz : (n : Int) ≤ 1000 := by omega
    have hdz : (deep : Int) ≤ 1000 := by omega
    obtain ⟨d0, g0⟩ := cell1_of hv2.cn
    obtain ⟨d1, g1⟩ := cell1_of hD2
    have H2 := Lib.hid (And.intro hv2 (And.intro hcw (And.intro hE2 hD2)))
    have HALL := Lib.hid hall
    have HR := Lib.hid hr
    have hshape := fun w' hb => prShaped_any e _ _ _ w' (hr.moved hb) hf
    have HSH := Lib.hid hshape
    have HST := Lib.hid hstep
    clear hv hc0 hv0 hv2 hcw hE2 hD2 hb2 hW0 hW2 hsz0 hall hr hshape hstep
    by_cases hc60 : 60 < n + 1
    · have hres := Lib.hid (show e.vsp n deep = (false, n + 1) by rw [hve, if_pos (.inl hc60)])
      have t60 : decide ((60 : Int) < (n : Int) + 1) = true := by simp; omega
      clear hve
      go_enter Tryz.func171, Tryz.ntmps171
      go_wp2_with fail
      go_ret
      unfold WVPost
      rw [hres.out]
      refine ⟨rfl, ?_, ?_⟩
      · rw [HST.out]; exact H2.out.1
      · rw [HST.out]; exact H2.out.2.1
    have t60 : decide ((60 : Int) < (n : Int) + 1) = false := by simp; omega
    by_cases hc12 : 12 < deep
    · have hres := Lib.hid (show e.vsp n deep = (false, n + 1) by rw [hve, if_pos (.inr (.inl hc12))])
      have t12 : decide ((12 : Int) < (deep : Int)) = true := by simp; omega
      clear hve
      go_enter Tryz.func171, Tryz.ntmps171
      go_wp2_with fail
      go_ret
      unfold WVPost
      rw [hres.out, HST.out]
      exact ⟨rfl, H2.out.1, H2.out.2.1⟩
    have t12 : decide ((12 : Int) < (deep : Int)) = false := by simp; omega
    have hE2 := H2.out.2.2.1
    have hcell : ∀ w', Below W2.heap.size W2 w' → w'.cell? ⟨w.heap.size, 0, none⟩ = some (.int .i64 e.kind) ∧ w'.cell? ⟨w.heap.size, 1, none⟩ = some (.slice o1 e.names.length q1) ∧ w'.cell? ⟨w.heap.size, 2, none⟩ = some (.slice o3 e.ends.length q3) ∧ w'.cell? ⟨w.heap.size, 3, none⟩ = some (.slice o2 e.parts.length q2) := fun w' hb => by
      have := bel_get hb hE2
      simp [World.cell?, this]
    obtain ⟨x0, x1, x9, x2⟩ := hcell W2 (Below.refl _ _)
    have HCELL := Lib.hid hcell
    clear hcell hE2
    cases hsh : e.shp with
    | false =>
      have hres := Lib.hid (show e.vsp n deep = (false, n + 1) by rw [hve, if_pos (.inr (.inr hsh))])
      have hs9 := Lib.hid (show e.shp = false from hsh)
      clear hve hsh
      go_enter Tryz.func171, Tryz.ntmps171
      go_wp2_with fail
      rw [HST.out]
      refine (HSH.out W2 (by first | exact H2.out.1.bel | exact H2.out.1.bel)).mono ?_
      rintro x w3 ⟨rfl, hb3⟩
      rw [hs9.out]
      have H3 := Lib.hid (And.intro (H2.out.1.moved hb3) (H2.out.2.1.bel' hb3))
      clear hb3
      go_wp2_with fail
      go_ret
      unfold WVPost
      rw [hres.out]
      exact ⟨rfl, H3.out.1, H3.out.2⟩
    | true =>
      have hves := Lib.hid (show e.vsp n deep = PT.vspL e.parts (n + 1) (deep + 1) by rw [hve, if_neg (by rintro (h | h | h) <;> first | omega | (rw [hsh] at h; cases h))])
      have hs9 := Lib.hid (show e.shp = true from hsh)
      have hn60 : n + 1 ≤ 60 := by omega
      have hd12 : deep ≤ 12 := by omega
      clear hve hsh
      go_enter Tryz.func171, Tryz.ntmps171
      go_wp2_with fail
      rw [HST.out]
      refine (HSH.out W2 (by first | exact H2.out.1.bel | exact H2.out.1.bel)).mono ?_
      rintro x w3 ⟨rfl, hb3⟩
      rw [hs9.out]
      have hx := HCELL.out w3 hb3
      have hx2 := hx.2.2.2
      have hD3 := bel_get hb3 H2.out.2.2.2
      have hv3 := H2.out.1.moved hb3
      have hc3 := H2.out.2.1.bel' hb3
      have hz3 : w.heap.size + 1 < w3.heap.size := hp_lt hD3
      have H3 := Lib.hid (And.intro hv3 (And.intro hc3 hD3))
      have hmf : ∀ (fn : Fn) (first cap : Array Value) (w : World), (Instr.makeFunc fn first cap).run Tryz.prog w = .ok (.func fn first cap) w := fun _ _ _ _ => rfl
      clear hx hb3 hD3 hv3 hc3 x0 x1 x9 x2 d0 d1 g0 g1
      go_wp2_with fail
      refine (prValid_contains e.parts.length o2 q2 (.pointer (some ⟨qv, 0, none⟩)) (.pointer (some ⟨w.heap.size + 1, 0, none⟩)) (fun i => .int .i64 (e.parts.getD i e).kind) c1 c3 c2
        (fun i w' => ∃ m, m ≤ 60 ∧ WVAt w0 w' qn qv m ∧ Ch w w' qn ∧ w'.heap[w.heap.size + 1]? = some (.cells #[.int .i64 deep] 3 (0, 0)) ∧ PT.vspL e.parts (n + 1) (deep + 1) = PT.vspL (e.parts.drop i) m (deep + 1))
        (fun i w' => ∃ m, WVAt w0 w' qn qv m ∧ Ch w w' qn ∧ PT.vspL e.parts (n + 1) (deep + 1) = (false, m))
        w3 (by omega) ?hel ?hf ⟨n + 1, hn60, H3.out.1, H3.out.2.1, H3.out.2.2, by rw [List.drop_zero]⟩).mono ?_
      case hel =>
        intro i hi
        obtain ⟨p, hp⟩ : ∃ p, e.parts[i]? = some p := ⟨e.parts[i], List.getElem?_eq_getElem hi⟩
        obtain ⟨hrp, b, off, rfl, hbl, k0, k1, k3, k2⟩ := HALL.out i p hp
        have hg : e.parts.getD i e = p := by rw [List.getD, hp]; rfl
        refine ⟨b, off, rfl, fun w' hSt => ?_⟩
        obtain ⟨m, _, hvm, _⟩ := hSt
        rw [hg]
        exact ⟨(hvm.bel.cell hbl).trans k0, (hvm.bel.cell hbl).trans k1, (hvm.bel.cell hbl).trans k3, (hvm.bel.cell hbl).trans k2⟩
      case hf =>
        intro i w' hi hSt
        obtain ⟨m, hm60, hvm, hcm, hdm, hvis⟩ := hSt
        obtain ⟨p, hp⟩ : ∃ p, e.parts[i]? = some p := ⟨e.parts[i], List.getElem?_eq_getElem hi⟩
        have hg : e.parts.getD i e = p := by rw [List.getD, hp]; rfl
        have hpe : e.parts[i] = p := by rw [List.getElem?_eq_getElem hi] at hp; exact Option.some.inj hp
        have hsz := PT.size_part hp
        rw [hg]
        refine (prv_part w0 N qn qv (w.heap.size + 1) ih p (c1 i) (c3 i) (c2 i) m deep w' (by omega) (hf.part hp) (HALL.out i p hp).1 hvm (by omega) (by omega) hdm).mono ?_
        rintro x w4 ⟨rfl, hv4, hc4⟩
        have hcons : PT.vspL e.parts (n + 1) (deep + 1) = if (p.vsp m (deep + 1)).1 = true then PT.vspL (e.parts.drop (i + 1)) (p.vsp m (deep + 1)).2 (deep + 1) else (false, (p.vsp m (deep + 1)).2) := by
          rw [hvis, List.drop_eq_getElem_cons hi, PT.vspL_cons, hpe]
        cases hb : (p.vsp m (deep + 1)).1 with
        | true =>
          rw [hb, if_pos rfl] at hcons
          exact .inr ⟨rfl, _, PT.vsp_cnt _ p (Nat.le_refl _) m (deep + 1) hb, hv4, hcm.trans hc4, hc4.get hdm (by have := hp_lt hvm.cn; omega), hcons⟩
        | false =>
          rw [hb, if_neg (by decide)] at hcons
          exact .inl ⟨rfl, _, hv4, hcm.trans hc4, hcons⟩
      rintro x w5 (⟨i, hi, rfl, m, hv5, hc5, hvis⟩ | ⟨rfl, m, hm60, hv5, hc5, hd5, hvis⟩)
      · have H5 := Lib.hid (And.intro hv5 (And.intro hc5 hvis))
        clear hv5 hc5 hvis
        go_wp2_with fail
        go_ret
        unfold WVPost
        rw [hves.out, H5.out.2.2]
        exact ⟨rfl, H5.out.1, H5.out.2.1⟩
      · rw [List.drop_length, PT.vspL_nil] at hvis
        have H5 := Lib.hid (And.intro hv5 (And.intro hc5 hvis))
        clear hv5 hc5 hvis hd5
        go_wp2_with fail
        go_ret
        unfold WVPost
        rw [hves.out, H5.out.2.2]
        exact ⟨rfl, H5.out.1, H5.out.2.1⟩
set_option maxHeartbeats 4000000 in
set_option maxRecDepth 100000 in
theorem prvalid_any (e : PT) (nv ev lv : Value) (w : World) (h : PtIs w e nv ev lv) (hf : e.Fit) :
    Calls Tryz.prog 110 #[.agg #[.int .i64 e.kind, nv, ev, lv]] w fun x w' => x = .returned (.bool e.validB) ∧ Below w.heap.size w w' := by
  obtain ⟨⟨o1, q1, rfl⟩, ⟨o3, q3, rfl⟩, ⟨o2, q2, rfl⟩⟩ := h.form
  have hva := fun w' (hv : WVAt w w' (w.heap.size + 1) (w.heap.size + 1 + 1) 0) => prv_any w (w.heap.size + 1) (w.heap.size + 1 + 1) e.size e _ _ _ 0 1 w' (Nat.le_refl _) hf h hv (by omega) (by omega)
  have HV := Lib.hid hva
  have hmf : ∀ (fn : Fn) (first cap : Array Value) (w : World), (Instr.makeFunc fn first cap).run Tryz.prog w = .ok (.func fn first cap) w := fun _ _ _ _ => rfl
  clear hva h hf
  go_enter Tryz.func110, Tryz.ntmps110
  go_wp2_with fail
  obtain ⟨W, hW⟩ : ∃ W, W = ((w.alloc (.cells #[.int .i64 e.kind, .slice o1 e.names.length q1, .slice o3 e.ends.length q3, .slice o2 e.parts.length q2] 65)).alloc (.cells #[.int .i64 0] 3)).alloc (.cells #[WVFn (w.heap.size + 1) (w.heap.size + 1 + 1)] 196) := ⟨_, rfl⟩
  have hb : Below w.heap.size w W := by rw [hW]; exact bel_new (bel_new (bel_new (Below.refl _ _) _) _) _
  have hv : WVAt w W (w.heap.size + 1) (w.heap.size + 1 + 1) 0 := by
    refine ⟨hb, ?_, ?_, by omega, by omega, by omega⟩
    · rw [hW, Below.heap_alloc _ _ _ (by simp)]
      have := heap_alloc_new (w.alloc (.cells #[.int .i64 e.kind, .slice o1 e.names.length q1, .slice o3 e.ends.length q3, .slice o2 e.parts.length q2] 65)) (.cells #[.int .i64 0] 3)
      simpa using this
    · rw [hW]
      have := heap_alloc_new ((w.alloc (.cells #[.int .i64 e.kind, .slice o1 e.names.length q1, .slice o3 e.ends.length q3, .slice o2 e.parts.length q2] 65)).alloc (.cells #[.int .i64 0] 3)) (.cells #[WVFn (w.heap.size + 1) (w.heap.size + 1 + 1)] 196)
      simpa using this
  refine (HV.out _ (by unfold WVFn at hW; first | exact hW ▸ hv | (rw [← hW]; exact hv))).mono ?_
  rintro x w2 ⟨rfl, hv2, hc2⟩
  have H2 := Lib.hid hv2.bel
  clear hv2 hc2
  go_wp2_with fail
  go_ret
  exact ⟨rfl, H2.out⟩
end Go.Proofs.YtahckikemljlnaaGreatDoor

namespace Go.Proofs.YtahckikemljlnaaGreatDoor
open Go.RowKit Ru

def joinB (l : List ByteArray) : ByteArray := ⟨(Lib.join (l.map (·.data.toList)) [32]).toArray⟩
theorem join_len (k : Nat) : ∀ l : List (List UInt8), (∀ x ∈ l, x.length ≤ k) → (Lib.join l [32]).length ≤ (k + 1) * l.length := by
  intro l
  induction l with
  | nil => intro _; simp [Lib.join]
  | cons a l ih =>
    intro h
    have h1 := h a (by simp)
    have h2 := ih (fun x hx => h x (by simp [hx]))
    cases l with
    | nil => simp [Lib.join]; omega
    | cons b l =>
      simp only [Lib.join, List.intercalate, List.intersperse, List.flatten_cons, List.length_append, List.length_cons, List.length_nil, Nat.mul_add, Nat.mul_one] at h2 ⊢
      omega
theorem joinB_size {k : Nat} {l : List ByteArray} (h : ∀ x ∈ l, x.size ≤ k) : (joinB l).size ≤ (k + 1) * l.length := by
  show (Lib.join (l.map (·.data.toList)) [32]).toArray.size ≤ _
  rw [List.size_toArray]
  have := join_len k (l.map (·.data.toList)) (fun y hy => by
    obtain ⟨x, hx, rfl⟩ := List.mem_map.1 hy
    exact h x hx)
  simpa using this
theorem strJoinB_any (v : Value) (l : List ByteArray) (w : World) (hr : Row w v l.length (strs l)) (hn : l.length ≤ 1000000) (hl : (joinB l).size ≤ 140737488355328) :
    Calls Tryz.prog 117 #[v, .string ⟨#[32]⟩] w fun e w' => e = .returned (.string (joinB l)) ∧ Below w.heap.size w w' := by
  obtain ⟨o, c, rfl, hc, hm, hrr⟩ := hr
  rcases hrr with ⟨h0, -⟩ | ⟨b, off, rfl, hlt, hcell⟩
  · have hl0 : l = [] := List.eq_nil_of_length_eq_zero h0
    subst hl0
    refine (Tryz.strings_Join_none o c ⟨#[32]⟩ w).mono ?_
    rintro e w' ⟨rfl, rfl⟩
    exact ⟨rfl, Below.refl _ _⟩
  · have hsz : (Lib.join (l.map (·.data.toList)) (⟨#[32]⟩ : ByteArray).data.toList).length ≤ 140737488355328 := by
      have : (joinB l).size = (Lib.join (l.map (·.data.toList)) [32]).length := by show (Lib.join (l.map (·.data.toList)) [32]).toArray.size = _; rw [List.size_toArray]
      show (Lib.join (l.map (·.data.toList)) [32]).length ≤ _
      omega
    refine (Tryz.strings_Join b off c l ⟨#[32]⟩ w (fun j x hx => hcell j _ (strs_get hx)) hlt (by omega) hc hsz).mono ?_
    rintro e w' ⟨rfl, hb⟩
    exact ⟨rfl, hb⟩
def brB (l : List ByteArray) : ByteArray := (⟨#[123]⟩ ++ joinB l) ++ ⟨#[125]⟩
def Shorts (l : List ByteArray) : Prop := l.length ≤ 1000 ∧ ∀ x ∈ l, x.size ≤ 1000
theorem Shorts.join {l : List ByteArray} (h : Shorts l) : (joinB l).size ≤ 1001000 := by
  have := joinB_size h.2
  have h1 := h.1
  have : 1001 * l.length ≤ 1001 * 1000 := Nat.mul_le_mul_left _ h1
  omega
theorem Shorts.br {l : List ByteArray} (h : Shorts l) : (brB l).size ≤ 1001002 := by
  unfold brB
  have := h.join
  rw [ByteArray.size_append, ByteArray.size_append]
  show 1 + _ + 1 ≤ _
  omega
theorem braces_any (v : Value) (l : List ByteArray) (w : World) (hr : Row w v l.length (strs l)) (hs : Shorts l) :
    Calls Tryz.prog 122 #[v] w fun e w' => e = .returned (.string (brB l)) ∧ Below w.heap.size w w' := by
  have hj := hs.join
  have h1 := strJoinB_any v l w hr (by have := hs.1; omega) (by omega)
  obtain ⟨t, ht⟩ : ∃ t, t = joinB l := ⟨_, rfl⟩
  have hb : brB l = (⟨#[123]⟩ ++ t) ++ ⟨#[125]⟩ := by rw [ht]; rfl
  rw [← ht] at hj h1
  have hu1 : ¬ 9223372036854775807 < 1 + t.size := by omega
  have hu2 : ¬ 9223372036854775807 < 1 + t.size + 1 := by omega
  have HJ := Lib.hid h1
  have HB := Lib.hid hb
  obtain ⟨o, c, rfl, -⟩ := hr
  clear h1 hb ht hs hj
  go_enter Tryz.func122, Tryz.ntmps122
  go_wp2_with fail
  refine HJ.out.mono ?_
  rintro e w2 ⟨rfl, hb2⟩
  have HB2 := Lib.hid hb2
  clear hb2
  go_wp2_with fail
  go_ret
  exact ⟨by rw [HB.out]; rfl, HB2.out⟩
def nodeP (k : Int) (ns es : List ByteArray) (ks : List Int) (ts : List ByteArray) : ByteArray :=
  if k = 2 then brB ns
  else if k = 4 then ⟨#[95]⟩
  else if k = 3 then ((((((⟨#[60]⟩ ++ joinB ns) ++ ⟨#[58]⟩) ++ hold (ts.getD 0 ⟨#[]⟩) (([] : List Int).contains (ks.getD 0 0))) ++ ⟨#[58]⟩) ++ joinB es) ++ ⟨#[62]⟩)
  else if k = 5 then (hold (ts.getD 0 ⟨#[]⟩) ([6].contains (ks.getD 0 0)) ++ ⟨#[32]⟩) ++ hold (ts.getD 1 ⟨#[]⟩) ([6, 5].contains (ks.getD 1 0))
  else if k = 6 then (hold (ts.getD 0 ⟨#[]⟩) (([] : List Int).contains (ks.getD 0 0)) ++ ⟨#[124]⟩) ++ hold (ts.getD 1 ⟨#[]⟩) ([6].contains (ks.getD 1 0))
  else if k = 7 then hold (ts.getD 0 ⟨#[]⟩) ([5, 6].contains (ks.getD 0 0)) ++ ⟨#[42]⟩
  else ⟨#[40, 41]⟩
namespace PT
mutual
def text : PT → ByteArray
  | .mk k ns es l => nodeP k ns es (l.map kind) (texts l)
def texts : List PT → List ByteArray
  | [] => []
  | e :: l => text e :: texts l
end
theorem texts_map (l : List PT) : texts l = l.map text := by
  induction l with
  | nil => rw [texts]; rfl
  | cons a l ih => rw [texts, ih]; rfl
theorem text_eq (e : PT) : e.text = nodeP e.kind e.names e.ends (e.parts.map kind) (e.parts.map text) := by
  cases e with
  | mk k ns es l => rw [text, texts_map]; rfl
inductive Okt : PT → Prop
  | mk (k : Int) (ns es : List ByteArray) (l : List PT) (hs : shp (.mk k ns es l) = true) (hn : Shorts ns) (he : Shorts es) (h : ∀ (i : Nat) (p : PT), l[i]? = some p → Okt p) : Okt (.mk k ns es l)
theorem Okt.shp' {e : PT} (h : Okt e) : e.shp = true := by cases h; assumption
theorem Okt.ns {e : PT} (h : Okt e) : Shorts e.names := by cases h; assumption
theorem Okt.es {e : PT} (h : Okt e) : Shorts e.ends := by cases h; assumption
theorem Okt.part {e p : PT} {i : Nat} (h : Okt e) (hp : e.parts[i]? = some p) : Okt p := by cases h with | mk k ns es l hs hn he h => exact h i p hp
theorem shp_cases {e : PT} (h : e.shp = true) : (e.kind = 1) ∨ (e.kind = 4) ∨ (e.kind = 2) ∨ (e.kind = 3 ∧ e.parts.length = 1) ∨ (e.kind = 5 ∧ e.parts.length = 2) ∨ (e.kind = 6 ∧ e.parts.length = 2) ∨ (e.kind = 7 ∧ e.parts.length = 1) := by
  rw [gramShp, decide_eq_true_iff] at h
  omega
end PT
theorem pt_size : ∀ (N : Nat) (e : PT), e.size ≤ N → e.Okt → e.text.size ≤ 3000000 * e.size := by
  intro N
  induction N with
  | zero => intro e h; have := e.size_pos; omega
  | succ N ih =>
    intro e hs hp
    have hpos := e.size_pos
    have hpart : ∀ (i : Nat) (p : PT), e.parts[i]? = some p → p.text.size ≤ 3000000 * p.size := fun i p hip => ih p (by have := PT.size_part hip; omega) (hp.part hip)
    have hsz : e.size = PT.sizes e.parts + 1 := by cases e; rw [PT.size_mk]; rfl
    have b1 := hp.ns.join
    have b2 := hp.es.join
    have b3 := hp.ns.br
    have z1 : (⟨#[124]⟩ : ByteArray).size = 1 := rfl
    have z2 : (⟨#[42]⟩ : ByteArray).size = 1 := rfl
    have z3 : (⟨#[32]⟩ : ByteArray).size = 1 := rfl
    have z4 : (⟨#[60]⟩ : ByteArray).size = 1 := rfl
    have z5 : (⟨#[58]⟩ : ByteArray).size = 1 := rfl
    have z6 : (⟨#[62]⟩ : ByteArray).size = 1 := rfl
    rw [PT.text_eq]
    rcases PT.shp_cases hp.shp' with k | k | k | ⟨k, h1⟩ | ⟨k, h1⟩ | ⟨k, h1⟩ | ⟨k, h1⟩
    all_goals (unfold nodeP; rw [k])
    · simp; show 2 ≤ _; omega
    · simp; show 1 ≤ _; omega
    · simp
      omega
    · match hl : e.parts, h1 with
      | [a], _ =>
        rw [hl] at hpart hsz
        have ha := hpart 0 a rfl
        rw [PT.sizes_cons, PT.sizes_nil] at hsz
        have x := hold_size a.text (([] : List Int).contains a.kind)
        simp [ByteArray.size_append] at x ⊢
        omega
    · match hl : e.parts, h1 with
      | [a, b], _ =>
        rw [hl] at hpart hsz
        have ha := hpart 0 a rfl
        have hb := hpart 1 b rfl
        rw [PT.sizes_cons, PT.sizes_cons, PT.sizes_nil] at hsz
        have x := hold_size a.text ([6].contains a.kind)
        have y := hold_size b.text ([6, 5].contains b.kind)
        simp [ByteArray.size_append] at x y ⊢
        omega
    · match hl : e.parts, h1 with
      | [a, b], _ =>
        rw [hl] at hpart hsz
        have ha := hpart 0 a rfl
        have hb := hpart 1 b rfl
        rw [PT.sizes_cons, PT.sizes_cons, PT.sizes_nil] at hsz
        have x := hold_size a.text (([] : List Int).contains a.kind)
        have y := hold_size b.text ([6].contains b.kind)
        simp [ByteArray.size_append] at x y ⊢
        omega
    · match hl : e.parts, h1 with
      | [a], _ =>
        rw [hl] at hpart hsz
        have ha := hpart 0 a rfl
        rw [PT.sizes_cons, PT.sizes_nil] at hsz
        have x := hold_size a.text ([5, 6].contains a.kind)
        simp [ByteArray.size_append] at x ⊢
        omega
end Go.Proofs.YtahckikemljlnaaGreatDoor

namespace Go.Proofs.YtahckikemljlnaaGreatDoor
open Go.RowKit Ru

theorem cell4_of {w : World} {p : Nat} {a b c d : Value} {t : TypeId} (h : w.heap[p]? = some (.cells #[a, b, c, d] t (0, 0))) : w.cell? ⟨p, 0, none⟩ = some a ∧ w.cell? ⟨p, 1, none⟩ = some b ∧ w.cell? ⟨p, 2, none⟩ = some c ∧ w.cell? ⟨p, 3, none⟩ = some d := by
  simp [World.cell?, h]
def PxIH (N : Nat) : Prop := ∀ (e : PT) (nv ev lv : Value) (w : World), e.size ≤ N → e.size ≤ 100 → e.Okt → PtIs w e nv ev lv →
  Calls Tryz.prog 111 #[.agg #[.int .i64 e.kind, nv, ev, lv]] w fun x w' => x = .returned (.string e.text) ∧ Below w.heap.size w w'
set_option maxHeartbeats 4000000 in
set_option maxRecDepth 100000 in
theorem pxPart_any (N : Nat) (ih : PxIH N) (e p : PT) (i q : Nat) (nv ev lv kv : Value) (zs : List Int) (w : World) (hp : e.parts[i]? = some p) (hpl : e.parts.length ≤ 1000) (hs : p.size ≤ N) (hs2 : p.size ≤ 100) (hpr : p.Okt) (hr : PtIs w e nv ev lv)
    (hq : w.heap[q]? = some (.cells #[.int .i64 e.kind, nv, ev, lv] 65 (0, 0))) (hk : Row w kv zs.length (zs.map (Value.int .i64))) (hz : zs.length ≤ 1000) :
    Calls Tryz.prog 175 #[.int .i64 i, kv, .pointer (some ⟨q, 0, none⟩)] w fun x w' => x = .returned (.string (hold p.text (zs.contains p.kind))) ∧ Below w.heap.size w w' := by
  obtain ⟨o0, cap, d1, d3, d2, rfl, hall⟩ := hr.all
  obtain ⟨hpi, b, off, rfl, hb, z0, z1, z3, z2⟩ := hall i p hp
  have hi : i < e.parts.length := (List.getElem?_eq_some_iff.1 hp).1
  obtain ⟨n, hn⟩ : ∃ n, n = e.parts.length := ⟨_, rfl⟩
  obtain ⟨-, -, -, c2⟩ := cell4_of hq
  rw [← hn] at c2 hi hpl
  obtain ⟨ι, K, hne, hkb, hks⟩ := kept_family w
  have KB := Lib.hid hkb
  have kS := hks _ (Below.refl _ _).drew
  have hsz := pt_size p.size p (Nat.le_refl _) hpr
  obtain ⟨n', hn'⟩ : ∃ v, v = d1 i := ⟨_, rfl⟩
  obtain ⟨s', hs'⟩ : ∃ v, v = d3 i := ⟨_, rfl⟩
  obtain ⟨l', hl'⟩ : ∃ v, v = d2 i := ⟨_, rfl⟩
  rw [← hn'] at z1 hpi
  rw [← hs'] at z3 hpi
  rw [← hl'] at z2 hpi
  obtain ⟨t, ht⟩ : ∃ t, t = p.text := ⟨_, rfl⟩
  obtain ⟨k, hkk⟩ : ∃ k, k = p.kind := ⟨_, rfl⟩
  obtain ⟨m, hm⟩ : ∃ m, m = zs.contains p.kind := ⟨_, rfl⟩
  have h1 := fun i => ih p n' s' l' (K i) hs hs2 hpr (hpi.moved (hkb i))
  have h2 := fun i => containsI_any zs kv p.kind (K i) (hk.below (hkb i)) hz
  rw [← ht, ← hkk] at h1
  rw [← hkk] at z0
  rw [← hm, ← hkk] at h2
  rw [← ht] at hsz
  rw [← hm, ← ht]
  have h3 := fun i => held_any t m (K i) (by omega)
  have HX := Lib.hid (fun i => calls_kept hkb hks (i := i) (h1 i))
  have HC := Lib.hid (fun i => calls_kept hkb hks (i := i) ((h2 i).mono (fun e w' h => ⟨h.1, by rw [h.2]; exact Below.refl _ _⟩)))
  have HH := Lib.hid (fun i => calls_kept hkb hks (i := i) ((h3 i).mono (fun e w' h => ⟨h.1, by rw [h.2]; exact Below.refl _ _⟩)))
  have j0 : ∀ i, (K i).cell? ⟨q, 3, none⟩ = some (.slice (some ⟨b, off, none⟩) n cap) := fun i => cell_later (hkb i) c2
  have j1 : ∀ ii, (K ii).cell? ⟨b, off + i * 4, none⟩ = some (.int .i64 k) := fun i => cell_later (hkb i) z0
  have j2 : ∀ ii, (K ii).cell? ⟨b, off + i * 4 + 1, none⟩ = some n' := fun i => cell_later (hkb i) z1
  have j3 : ∀ ii, (K ii).cell? ⟨b, off + i * 4 + 2, none⟩ = some s' := fun i => cell_later (hkb i) z3
  have j4 : ∀ ii, (K ii).cell? ⟨b, off + i * 4 + 3, none⟩ = some l' := fun i => cell_later (hkb i) z2
  clear hn' hs' hl'
  obtain ⟨⟨o1, q1, rfl⟩, ⟨o3, q3, rfl⟩, ⟨o2, q2, rfl⟩⟩ := hpi.form
  have hi1 : (0 : Int) ≤ (i : Int) := by omega
  have hi2 : (i : Int) < (n : Int) := by omega
  have hi3 : ((i : Int)).toNat = i := by simp
  clear hkb hks h1 h2 h3 ht hkk hm hsz z0 z1 z2 z3 c2 hq hk hr hpi hp hpr hs hs2 hz ih hall hn
  go_enter Tryz.func175, Tryz.ntmps175
  go_upto_region 1 with (fail)
  refine region_kept K (by kernel_rfl) (by kernel_rfl) kS ?_
  repeat (go_big_quiet_step (with_reducible first | exact HX.out _ | exact HC.out _ | exact HH.out _))
  refine wpQuiet_nil ?_
  rintro _ ⟨iw, rfl⟩
  have HB6 := Lib.hid (KB.out iw)
  go_wp2_with fail
  go_ret
  exact ⟨rfl, HB6.out⟩
set_option maxHeartbeats 16000000 in
set_option maxRecDepth 100000 in
theorem pat_step (N : Nat) (ih : PxIH N) : PxIH (N + 1) := by
  intro e nv ev lv w hs hs2 hpr hr
  have hpart : ∀ (i : Nat) (iv : Int) (p : PT) (zs : List Int) (kv : Value) (w' : World), iv = (i : Int) → e.parts[i]? = some p → e.parts.length ≤ 1000 → zs.length ≤ 1000 → Below w.heap.size w w' → w'.heap[w.heap.size]? = some (.cells #[.int .i64 e.kind, nv, ev, lv] 65 (0, 0)) → Row w' kv zs.length (zs.map (Value.int .i64)) →
      Calls Tryz.prog 175 #[.int .i64 iv, kv, .pointer (some ⟨w.heap.size, 0, none⟩)] w' fun x w'' => x = .returned (.string (hold p.text (zs.contains p.kind))) ∧ Below w'.heap.size w' w'' := fun i iv p zs kv w' hiv hp hpl hz hb hq hk => hiv ▸
    pxPart_any N ih e p i w.heap.size nv ev lv kv zs w' hp hpl (by have := PT.size_part hp; omega) (by have := PT.size_part hp; omega) (hpr.part hp) (hr.moved hb) hq hk hz
  have hte := PT.text_eq e
  have hsz := pt_size e.size e (Nat.le_refl _) hpr
  have hns := hr.names
  have hes := hr.ends
  have sns := hpr.ns
  have ses := hpr.es
  obtain ⟨⟨o1, q1, rfl⟩, ⟨o3, q3, rfl⟩, ⟨o2, q2, rfl⟩⟩ := hr.form
  obtain ⟨t, ht⟩ : ∃ t, t = e.text := ⟨_, rfl⟩
  rw [← ht] at hte hsz ⊢
  have hts : t.size ≤ 3000000000 := by omega
  rcases PT.shp_cases hpr.shp' with k | k | k | ⟨k, h1⟩ | ⟨k, h1⟩ | ⟨k, h1⟩ | ⟨k, h1⟩
  · rw [k] at hte ⊢
    obtain ⟨a, ha⟩ : ∃ a, a = e.names.length := ⟨_, rfl⟩
    obtain ⟨c, hc⟩ : ∃ c, c = e.ends.length := ⟨_, rfl⟩
    obtain ⟨b, hb⟩ : ∃ b, b = e.parts.length := ⟨_, rfl⟩
    rw [← ha, ← hc, ← hb]
    have HX := Lib.hid (show t = ⟨#[40, 41]⟩ by rw [hte]; rfl)
    clear hpart hte hsz hns hes sns ses hs hs2 hpr hr ht hts k ha hc ih hb
    go_enter Tryz.func111, Tryz.ntmps111
    go_wp2_with fail
    go_ret
    exact ⟨by rw [HX.out]; rfl, by repeat (first | exact Below.refl _ _ | (refine bel_new ?_ _))⟩
  · rw [k] at hte ⊢
    obtain ⟨a, ha⟩ : ∃ a, a = e.names.length := ⟨_, rfl⟩
    obtain ⟨c, hc⟩ : ∃ c, c = e.ends.length := ⟨_, rfl⟩
    obtain ⟨b, hb⟩ : ∃ b, b = e.parts.length := ⟨_, rfl⟩
    rw [← ha, ← hc, ← hb]
    have HX := Lib.hid (show t = ⟨#[95]⟩ by rw [hte]; rfl)
    clear hpart hte hsz hns hes sns ses hs hs2 hpr hr ht hts k ha hc ih hb
    go_enter Tryz.func111, Tryz.ntmps111
    go_wp2_with fail
    go_ret
    exact ⟨by rw [HX.out]; rfl, by repeat (first | exact Below.refl _ _ | (refine bel_new ?_ _))⟩
  · have hps := fun w' (hb : Below w.heap.size w w') => braces_any _ e.names w' (hns.below hb) sns
    rw [k] at hte ⊢
    have HX := Lib.hid (show t = brB e.names by rw [hte]; rfl)
    obtain ⟨a, ha⟩ : ∃ a, a = e.names.length := ⟨_, rfl⟩
    obtain ⟨c, hc⟩ : ∃ c, c = e.ends.length := ⟨_, rfl⟩
    obtain ⟨b, hb⟩ : ∃ b, b = e.parts.length := ⟨_, rfl⟩
    rw [← ha] at hps
    rw [← ha, ← hc, ← hb]
    have HP := Lib.hid hps
    clear hpart hte hsz hns hes sns ses hs hs2 hpr hr ht hts k ha hc ih hb hps
    go_enter Tryz.func111, Tryz.ntmps111
    go_wp2_with fail
    refine (HP.out _ (bel_new (Below.refl _ _) _)).mono ?_
    rintro x w2 ⟨rfl, hb2⟩
    have HB2 := Lib.hid (bel_then (bel_new (Below.refl w.heap.size w) _) hb2)
    clear hb2
    go_wp2_with fail
    go_ret
    exact ⟨by rw [HX.out]; rfl, HB2.out⟩
  · match hl : e.parts, h1 with
    | [x], _ =>
      have g0 := fun kv w' hb => hpart 0 0 x [] kv w' rfl (by rw [hl]; rfl) (by rw [hl]; simp) (by decide) hb
      have gn := fun w' (hb : Below w.heap.size w w') => strJoinB_any _ e.names w' (hns.below hb) (by have := sns.1; omega) (by have := sns.join; omega)
      have ge := fun w' (hb : Below w.heap.size w w') => strJoinB_any _ e.ends w' (hes.below hb) (by have := ses.1; omega) (by have := ses.join; omega)
      rw [hl] at hte
      rw [k] at hte ⊢
      simp only [k, hl, List.length_cons, List.length_nil, Nat.zero_add, Nat.reduceAdd] at g0 ⊢
      obtain ⟨a, ha⟩ : ∃ a, a = e.names.length := ⟨_, rfl⟩
      obtain ⟨c, hc⟩ : ∃ c, c = e.ends.length := ⟨_, rfl⟩
      rw [← ha, ← hc] at g0 ⊢
      rw [← ha] at gn
      rw [← hc] at ge
      have hteq : t = ((((((⟨#[60]⟩ ++ joinB e.names) ++ ⟨#[58]⟩) ++ hold x.text (([] : List Int).contains x.kind)) ++ ⟨#[58]⟩) ++ joinB e.ends) ++ ⟨#[62]⟩) := by rw [hte]; rfl
      obtain ⟨A, hA⟩ : ∃ z, z = hold x.text (([] : List Int).contains x.kind) := ⟨_, rfl⟩
      obtain ⟨J, hJ⟩ : ∃ z, z = joinB e.names := ⟨_, rfl⟩
      obtain ⟨E, hE⟩ : ∃ z, z = joinB e.ends := ⟨_, rfl⟩
      rw [← hA] at g0
      rw [← hJ] at gn
      rw [← hE] at ge
      rw [← hA, ← hJ, ← hE] at hteq
      rw [hteq] at hts
      simp only [ByteArray.size_append] at hts
      have z4 : (⟨#[60]⟩ : ByteArray).size = 1 := rfl
      have z5 : (⟨#[58]⟩ : ByteArray).size = 1 := rfl
      have z6 : (⟨#[62]⟩ : ByteArray).size = 1 := rfl
      have hu0 : ¬ 9223372036854775807 < 1 + J.size := by omega
      have hu1 : ¬ 9223372036854775807 < 1 + J.size + 1 := by omega
      have hu2 : ¬ 9223372036854775807 < 1 + J.size + 1 + A.size := by omega
      have hu3 : ¬ 9223372036854775807 < 1 + J.size + 1 + A.size + 1 := by omega
      have hu4 : ¬ 9223372036854775807 < 1 + J.size + 1 + A.size + 1 + E.size := by omega
      have hu5 : ¬ 9223372036854775807 < 1 + J.size + 1 + A.size + 1 + E.size + 1 := by omega
      have HX := Lib.hid hteq
      obtain ⟨W, hW⟩ : ∃ W, W = w.alloc (.cells #[.int .i64 3, .slice o1 a q1, .slice o3 c q3, .slice o2 1 q2] 65) := ⟨_, rfl⟩
      have hbW : Below w.heap.size w W := by rw [hW]; exact (Below.refl _ _).alloc (Nat.le_refl _) _
      have hbx : W.heap[w.heap.size]? = some (.cells #[.int .i64 3, .slice o1 a q1, .slice o3 c q3, .slice o2 1 q2] 65 (0, 0)) := by rw [hW]; exact heap_alloc_new w _
      obtain ⟨-, y1, y2, y3⟩ := cell4_of hbx
      obtain ⟨ι, K, hne, hkb, hks⟩ := kept_family W
      have KB := Lib.hid hkb
      have kS := hks _ (Below.refl _ _).drew
      have HBW := Lib.hid hbW
      have HW := Lib.hid hW
      have HN := Lib.hid (fun i => calls_kept hkb hks (i := i) (gn (K i) (bel_then hbW (hkb i))))
      have HE := Lib.hid (fun i => calls_kept hkb hks (i := i) (ge (K i) (bel_then hbW (hkb i))))
      have HA := Lib.hid (fun i => calls_kept hkb hks (i := i) (g0 _ (K i) (bel_then hbW (hkb i)) (bel_get (hkb i) hbx) (rowI_nil _)))
      have j0 : ∀ i, (K i).cell? ⟨w.heap.size, 1, none⟩ = some (.slice o1 a q1) := fun i => cell_later (hkb i) y1
      have j1 : ∀ i, (K i).cell? ⟨w.heap.size, 2, none⟩ = some (.slice o3 c q3) := fun i => cell_later (hkb i) y2
      clear hpart hte hsz hns hes sns ses hs hs2 hpr hr ht k ha hc ih hteq hl g0 gn ge hA hJ hE hts z4 z5 z6 hW hbW hbx y1 y2 y3 hkb hks
      go_enter Tryz.func111, Tryz.ntmps111
      go_upto_region 8 with (fail)
      rw [← HW.out]
      refine region_kept K (by kernel_rfl) (by kernel_rfl) kS ?_
      repeat (go_big_quiet_step (with_reducible first | exact HN.out _ | exact HE.out _ | exact HA.out _))
      refine wpQuiet_nil ?_
      rintro _ ⟨iw, rfl⟩
      have HB6 := Lib.hid (bel_then HBW.out (KB.out iw))
      go_wp2_with fail
      go_ret
      exact ⟨by rw [HX.out]; rfl, HB6.out⟩
  · match hl : e.parts, h1 with
    | [x, y], _ =>
      have g0 := fun kv w' hb => hpart 0 0 x [6] kv w' rfl (by rw [hl]; rfl) (by rw [hl]; simp) (by decide) hb
      have g1 := fun kv w' hb => hpart 1 1 y [6, 5] kv w' rfl (by rw [hl]; rfl) (by rw [hl]; simp) (by decide) hb
      rw [hl] at hte
      rw [k] at hte ⊢
      simp only [k, hl, List.length_cons, List.length_nil, Nat.zero_add, Nat.reduceAdd] at g0 g1 ⊢
      obtain ⟨a, ha⟩ : ∃ a, a = e.names.length := ⟨_, rfl⟩
      obtain ⟨c, hc⟩ : ∃ c, c = e.ends.length := ⟨_, rfl⟩
      rw [← ha, ← hc] at g0 g1 ⊢
      have hteq : t = (hold x.text ([6].contains x.kind) ++ ⟨#[32]⟩) ++ hold y.text ([6, 5].contains y.kind) := by rw [hte]; rfl
      obtain ⟨A, hA⟩ : ∃ z, z = hold x.text ([6].contains x.kind) := ⟨_, rfl⟩
      obtain ⟨C, hC⟩ : ∃ z, z = hold y.text ([6, 5].contains y.kind) := ⟨_, rfl⟩
      rw [← hA] at g0
      rw [← hC] at g1
      rw [← hA, ← hC] at hteq
      have G0 := Lib.hid (fun kv w' (hb : Below (w.alloc (.cells #[.int .i64 5, .slice o1 a q1, .slice o3 c q3, .slice o2 2 q2] 65)).heap.size (w.alloc (.cells #[.int .i64 5, .slice o1 a q1, .slice o3 c q3, .slice o2 2 q2] 65)) w') hk => g0 kv w' (bel_then ((Below.refl w.heap.size w).alloc (Nat.le_refl _) _) hb) (box_kept hb) hk)
      have G1 := Lib.hid (fun kv w' (hb : Below (w.alloc (.cells #[.int .i64 5, .slice o1 a q1, .slice o3 c q3, .slice o2 2 q2] 65)).heap.size (w.alloc (.cells #[.int .i64 5, .slice o1 a q1, .slice o3 c q3, .slice o2 2 q2] 65)) w') hk => g1 kv w' (bel_then ((Below.refl w.heap.size w).alloc (Nat.le_refl _) _) hb) (box_kept hb) hk)
      rw [hteq] at hts
      simp only [ByteArray.size_append] at hts
      have hu0 : ¬ 9223372036854775807 < A.size + 1 := by omega
      have hu1 : ¬ 9223372036854775807 < A.size + 1 + C.size := by omega
      have HX := Lib.hid hteq
      clear hpart hte hsz hns hes sns ses hs hs2 hpr hr ht hts k ha hc ih hteq hl g0 g1 hA hC
      go_enter Tryz.func111, Tryz.ntmps111
      go_wp2_with fail
      refine (G0.out _ _ ((Below.refl _ _).alloc (Nat.le_refl _) _) (rowI_new _ _ _ (by simp) [6] 1 rfl rfl (by decide))).mono ?_
      rintro z w3 ⟨rfl, hb3⟩
      have HB3 := Lib.hid (bel_then (show Below (w.alloc (.cells #[.int .i64 5, .slice o1 a q1, .slice o3 c q3, .slice o2 2 q2] 65)).heap.size (w.alloc (.cells #[.int .i64 5, .slice o1 a q1, .slice o3 c q3, .slice o2 2 q2] 65)) _ from ((Below.refl _ _).alloc (Nat.le_refl _) _)) hb3)
      clear hb3
      go_wp2_with fail
      refine (G1.out _ _ (HB3.out.alloc HB3.out.size _) (rowI_new _ _ _ (by simp) [6, 5] 2 rfl rfl (by decide))).mono ?_
      rintro z w4 ⟨rfl, hb4⟩
      have HB4 := Lib.hid (bel_then (show Below (w.alloc (.cells #[.int .i64 5, .slice o1 a q1, .slice o3 c q3, .slice o2 2 q2] 65)).heap.size (w.alloc (.cells #[.int .i64 5, .slice o1 a q1, .slice o3 c q3, .slice o2 2 q2] 65)) _ from (HB3.out.alloc HB3.out.size _)) hb4)
      clear hb4
      go_wp2_with fail
      go_ret
      exact ⟨by rw [HX.out]; rfl, bel_then ((Below.refl w.heap.size w).alloc (Nat.le_refl _) _) HB4.out⟩
  · match hl : e.parts, h1 with
    | [x, y], _ =>
      have g0 := fun kv w' hb => hpart 0 0 x [] kv w' rfl (by rw [hl]; rfl) (by rw [hl]; simp) (by decide) hb
      have g1 := fun kv w' hb => hpart 1 1 y [6] kv w' rfl (by rw [hl]; rfl) (by rw [hl]; simp) (by decide) hb
      rw [hl] at hte
      rw [k] at hte ⊢
      simp only [k, hl, List.length_cons, List.length_nil, Nat.zero_add, Nat.reduceAdd] at g0 g1 ⊢
      obtain ⟨a, ha⟩ : ∃ a, a = e.names.length := ⟨_, rfl⟩
      obtain ⟨c, hc⟩ : ∃ c, c = e.ends.length := ⟨_, rfl⟩
      rw [← ha, ← hc] at g0 g1 ⊢
      have hteq : t = (hold x.text (([] : List Int).contains x.kind) ++ ⟨#[124]⟩) ++ hold y.text ([6].contains y.kind) := by rw [hte]; rfl
      obtain ⟨A, hA⟩ : ∃ z, z = hold x.text (([] : List Int).contains x.kind) := ⟨_, rfl⟩
      obtain ⟨C, hC⟩ : ∃ z, z = hold y.text ([6].contains y.kind) := ⟨_, rfl⟩
      rw [← hA] at g0
      rw [← hC] at g1
      rw [← hA, ← hC] at hteq
      have G0 := Lib.hid (fun kv w' (hb : Below (w.alloc (.cells #[.int .i64 6, .slice o1 a q1, .slice o3 c q3, .slice o2 2 q2] 65)).heap.size (w.alloc (.cells #[.int .i64 6, .slice o1 a q1, .slice o3 c q3, .slice o2 2 q2] 65)) w') hk => g0 kv w' (bel_then ((Below.refl w.heap.size w).alloc (Nat.le_refl _) _) hb) (box_kept hb) hk)
      have G1 := Lib.hid (fun kv w' (hb : Below (w.alloc (.cells #[.int .i64 6, .slice o1 a q1, .slice o3 c q3, .slice o2 2 q2] 65)).heap.size (w.alloc (.cells #[.int .i64 6, .slice o1 a q1, .slice o3 c q3, .slice o2 2 q2] 65)) w') hk => g1 kv w' (bel_then ((Below.refl w.heap.size w).alloc (Nat.le_refl _) _) hb) (box_kept hb) hk)
      rw [hteq] at hts
      simp only [ByteArray.size_append] at hts
      have hu0 : ¬ 9223372036854775807 < A.size + 1 := by omega
      have hu1 : ¬ 9223372036854775807 < A.size + 1 + C.size := by omega
      have HX := Lib.hid hteq
      clear hpart hte hsz hns hes sns ses hs hs2 hpr hr ht hts k ha hc ih hteq hl g0 g1 hA hC
      go_enter Tryz.func111, Tryz.ntmps111
      go_wp2_with fail
      refine (G0.out _ _ (Below.refl _ _) (rowI_nil _)).mono ?_
      rintro z w3 ⟨rfl, hb3⟩
      have HB3 := Lib.hid (bel_then (show Below (w.alloc (.cells #[.int .i64 6, .slice o1 a q1, .slice o3 c q3, .slice o2 2 q2] 65)).heap.size (w.alloc (.cells #[.int .i64 6, .slice o1 a q1, .slice o3 c q3, .slice o2 2 q2] 65)) _ from (Below.refl _ _)) hb3)
      clear hb3
      go_wp2_with fail
      refine (G1.out _ _ (HB3.out.alloc HB3.out.size _) (rowI_new _ _ _ (by simp) [6] 1 rfl rfl (by decide))).mono ?_
      rintro z w4 ⟨rfl, hb4⟩
      have HB4 := Lib.hid (bel_then (show Below (w.alloc (.cells #[.int .i64 6, .slice o1 a q1, .slice o3 c q3, .slice o2 2 q2] 65)).heap.size (w.alloc (.cells #[.int .i64 6, .slice o1 a q1, .slice o3 c q3, .slice o2 2 q2] 65)) _ from (HB3.out.alloc HB3.out.size _)) hb4)
      clear hb4
      go_wp2_with fail
      go_ret
      exact ⟨by rw [HX.out]; rfl, bel_then ((Below.refl w.heap.size w).alloc (Nat.le_refl _) _) HB4.out⟩
  · match hl : e.parts, h1 with
    | [x], _ =>
      have g0 := fun kv w' hb => hpart 0 0 x [5, 6] kv w' rfl (by rw [hl]; rfl) (by rw [hl]; simp) (by decide) hb
      rw [hl] at hte
      rw [k] at hte ⊢
      simp only [k, hl, List.length_cons, List.length_nil, Nat.zero_add, Nat.reduceAdd] at g0 ⊢
      obtain ⟨a, ha⟩ : ∃ a, a = e.names.length := ⟨_, rfl⟩
      obtain ⟨c, hc⟩ : ∃ c, c = e.ends.length := ⟨_, rfl⟩
      rw [← ha, ← hc] at g0 ⊢
      have hteq : t = hold x.text ([5, 6].contains x.kind) ++ ⟨#[42]⟩ := by rw [hte]; rfl
      obtain ⟨A, hA⟩ : ∃ z, z = hold x.text ([5, 6].contains x.kind) := ⟨_, rfl⟩
      rw [← hA] at g0
      rw [← hA] at hteq
      have G0 := Lib.hid (fun kv w' (hb : Below (w.alloc (.cells #[.int .i64 7, .slice o1 a q1, .slice o3 c q3, .slice o2 1 q2] 65)).heap.size (w.alloc (.cells #[.int .i64 7, .slice o1 a q1, .slice o3 c q3, .slice o2 1 q2] 65)) w') hk => g0 kv w' (bel_then ((Below.refl w.heap.size w).alloc (Nat.le_refl _) _) hb) (box_kept hb) hk)
      rw [hteq] at hts
      simp only [ByteArray.size_append] at hts
      have hu0 : ¬ 9223372036854775807 < A.size + 1 := by omega
      have HX := Lib.hid hteq
      clear hpart hte hsz hns hes sns ses hs hs2 hpr hr ht hts k ha hc ih hteq hl g0 hA
      go_enter Tryz.func111, Tryz.ntmps111
      go_wp2_with fail
      refine (G0.out _ _ ((Below.refl _ _).alloc (Nat.le_refl _) _) (rowI_new _ _ _ (by simp) [5, 6] 2 rfl rfl (by decide))).mono ?_
      rintro z w3 ⟨rfl, hb3⟩
      have HB3 := Lib.hid (bel_then (show Below (w.alloc (.cells #[.int .i64 7, .slice o1 a q1, .slice o3 c q3, .slice o2 1 q2] 65)).heap.size (w.alloc (.cells #[.int .i64 7, .slice o1 a q1, .slice o3 c q3, .slice o2 1 q2] 65)) _ from ((Below.refl _ _).alloc (Nat.le_refl _) _)) hb3)
      clear hb3
      go_wp2_with fail
      go_ret
      exact ⟨by rw [HX.out]; rfl, bel_then ((Below.refl w.heap.size w).alloc (Nat.le_refl _) _) HB3.out⟩
theorem pat_any (e : PT) (nv ev lv : Value) (w : World) (hs : e.size ≤ 100) (hpr : e.Okt) (hr : PtIs w e nv ev lv) :
    Calls Tryz.prog 111 #[.agg #[.int .i64 e.kind, nv, ev, lv]] w fun x w' => x = .returned (.string e.text) ∧ Below w.heap.size w w' := by
  have : ∀ N, PxIH N := by
    intro N
    induction N with
    | zero => intro e nv ev lv w h; have := e.size_pos; omega
    | succ N ih => exact pat_step N ih
  exact this e.size e nv ev lv w (Nat.le_refl _) hs hpr hr
end Go.Proofs.YtahckikemljlnaaGreatDoor
