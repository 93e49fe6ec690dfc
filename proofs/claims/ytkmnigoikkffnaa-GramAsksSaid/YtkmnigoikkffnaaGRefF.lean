/- The document's expressions: goboref6.Empty, Same. -/
import Derived.Test.YtkmnigoikkffnaaGRefE
import Derived.Deep.RegionHeld3
set_option linter.unusedVariables false
set_option linter.unusedSimpArgs false
namespace Go.Proofs.Ytkmnigoikkffnaa
open Go.RowKit Ru

/-- what is of two parts has two -/
inductive RE.W2 : RE → Prop
  | mk (k : Int) (s : List (Int × Int)) (l : List RE) (h3 : k = 3 ∨ k = 4 → l.length = 2) (h : ∀ (i : Nat) (e : RE), l[i]? = some e → RE.W2 e) : RE.W2 (.mk k s l)
theorem RE.W2.part {e p : RE} {i : Nat} (h : e.W2) (hp : e.parts[i]? = some p) : p.W2 := by cases h with | mk k s l h3 h => exact h i p hp
theorem RE.W2.two {e : RE} (h : e.W2) (hk : e.kind = 3 ∨ e.kind = 4) : e.parts.length = 2 := by cases h with | mk k s l h3 h => exact h3 hk
theorem RE.prtL_get : ∀ (l : List RE) (i : Nat) (e : RE), RE.prtL l = true → l[i]? = some e → e.prt = true := by
  intro l
  induction l with
  | nil => intro i e _ h; simp at h
  | cons a l ih =>
    intro i e h he
    rw [RE.prtL_cons, Bool.and_eq_true] at h
    cases i with
    | zero => simp at he; subst he; exact h.1
    | succ i => exact ih i e h.2 (by simpa using he)
theorem RE.prt_w2 : ∀ (N : Nat) (e : RE), e.size ≤ N → e.prt = true → e.W2 := by
  intro N
  induction N with
  | zero => intro e h; have := e.size_pos; omega
  | succ N ih =>
    intro e hs hp
    rw [RE.prt_eq, Bool.and_eq_true] at hp
    cases e with
    | mk k s l =>
      refine .mk k s l (fun hk => ?_) (fun i c hc => ih c (by have := RE.size_part (e := .mk k s l) hc; omega) (RE.prtL_get _ i c hp.2 hc))
      have h1 := hp.1
      unfold RE.shp at h1
      have e1 : (RE.mk k s l).kind = k := rfl
      have e2 : (RE.mk k s l).parts = l := rfl
      rw [e1, e2] at h1
      rcases hk with rfl | rfl
      · rw [if_neg (by decide)] at h1
        by_cases h2 : 0 < (RE.mk 3 s l).set.length
        · rw [if_pos h2] at h1; cases h1
        · rw [if_neg h2] at h1
          simpa using h1
      · rw [if_neg (by decide)] at h1
        by_cases h2 : 0 < (RE.mk 4 s l).set.length
        · rw [if_pos h2] at h1; cases h1
        · rw [if_neg h2] at h1
          simpa using h1
theorem RE.may_w2 {e : RE} (h : e.may = true) : e.W2 := RE.prt_w2 e.size e (Nat.le_refl _) ((RE.may_iff e).1 h).2.2
theorem RE.anyE_two (a b : RE) : RE.anyE [a, b] = (a.emp || b.emp) := by rw [RE.anyE, RE.anyE, RE.anyE]; simp
theorem two_of' {α : Type} {l : List α} (h : l.length = 2) : ∃ x y, l = [x, y] := by
  match l, h with
  | [x, y], _ => exact ⟨x, y, rfl⟩
def EEmpIh (w0 : World) (N : Nat) : Prop := ∀ (e : RE) (sv lv : Value) (w : World), e.size ≤ N → e.W2 → ReIs w0 e sv lv → Below w0.heap.size w0 w →
  Calls Try.prog 33 #[.agg #[.int .i64 e.kind, sv, lv]] w fun x w' => x = .returned (.bool e.emp) ∧ Below w.heap.size w w'
set_option maxHeartbeats 8000000 in
set_option maxRecDepth 100000 in
theorem eemp_all (w0 : World) : ∀ N, EEmpIh w0 N := by
  intro N
  induction N with
  | zero => intro e sv lv w hs; have := e.size_pos; omega
  | succ N ih =>
    intro e sv lv w hs hf hr hb0
    obtain ⟨⟨o1, q1, rfl⟩, -⟩ := hr.form
    obtain ⟨o2, q2, c1, c2, rfl, hall⟩ := hr.all
    have hin : ∀ (i : Nat) (p : RE) (w' : World), e.parts[i]? = some p → Below w.heap.size w w' → Calls Try.prog 33 #[.agg #[.int .i64 p.kind, c1 i, c2 i]] w' fun x w'' => x = .returned (.bool p.emp) ∧ Below w'.heap.size w' w'' := by
      intro i p w' hp hb
      exact ih p _ _ w' (by have := RE.size_part hp; omega) (hf.part hp) (hall i p hp).1 (bel_then hb0 hb)
    have hem := RE.emp_eq e
    obtain ⟨k, hk⟩ : ∃ x, x = e.kind := ⟨_, rfl⟩
    obtain ⟨n, hn⟩ : ∃ x, x = e.set.length := ⟨_, rfl⟩
    obtain ⟨r, hr9⟩ : ∃ x, x = e.emp := ⟨_, rfl⟩
    have htwo : k = 3 ∨ k = 4 → e.parts.length = 2 := by rw [hk]; exact hf.two
    rw [← hk, ← hr9] at hem
    rw [← hk, ← hn, ← hr9]
    have HALL := Lib.hid hall
    have HIN := Lib.hid hin
    have HEM := Lib.hid hem
    have HB0 := Lib.hid hb0
    have HTW := Lib.hid htwo
    have HB1 := Lib.hid (fun (x : Obj) => bel_new (Below.refl w.heap.size w) x)
    clear hall hin hem hk hn hr9 hr hf hb0 ih hs htwo
    by_cases k1 : k = 1
    · subst k1
      have HX := Lib.hid (show r = true by rw [HEM.out, if_pos (by omega)])
      go_enter Try.func33, Try.ntmps33
      go_wp2_with fail
      go_ret
      exact ⟨by rw [HX.out]; rfl, HB1.out _⟩
    have t1 : (k == 1) = false := by simpa using k1
    by_cases k5 : k = 5
    · subst k5
      have HX := Lib.hid (show r = true by rw [HEM.out, if_pos (by omega)])
      go_enter Try.func33, Try.ntmps33
      go_wp2_with fail
      go_ret
      exact ⟨by rw [HX.out]; rfl, HB1.out _⟩
    have t5 : (k == 5) = false := by simpa using k5
    by_cases k3 : k = 3
    · subst k3
      obtain ⟨a, b, hl⟩ := two_of' (HTW.out (by omega))
      have hpa : e.parts[0]? = some a := by rw [hl]; rfl
      have hpb : e.parts[1]? = some b := by rw [hl]; rfl
      have HX := Lib.hid (show r = (a.emp && b.emp) by rw [HEM.out, if_neg (by omega), if_neg (by omega), if_pos rfl, hl, RE.twoE_two])
      have hln : e.parts.length = 2 := by rw [hl]; rfl
      obtain ⟨-, b0, off, rfl, hbl, a0, a1, a2⟩ := HALL.out 0 a hpa
      obtain ⟨-, b0', off', hoo, hbl', d0, d1, d2⟩ := HALL.out 1 b hpb
      obtain ⟨rfl, rfl⟩ : b0 = b0' ∧ off = off' := by injection hoo with q; injection q with q1 q2; exact ⟨q1, q2⟩
      rw [← HB0.out.cell hbl] at a0 a1 a2
      rw [← HB0.out.cell hbl'] at d0 d1 d2
      simp only [Nat.zero_mul, Nat.add_zero, Nat.one_mul] at a0 a1 a2 d0 d1 d2
      have hca := fun w' hb' => HIN.out 0 a w' hpa hb'
      have hcb := fun w' hb' => HIN.out 1 b w' hpb hb'
      obtain ⟨x0, hx0⟩ : ∃ x, x = a.kind := ⟨_, rfl⟩
      obtain ⟨x1, hx1⟩ : ∃ x, x = c1 0 := ⟨_, rfl⟩
      obtain ⟨x2, hx2⟩ : ∃ x, x = c2 0 := ⟨_, rfl⟩
      obtain ⟨y0, hy0⟩ : ∃ x, x = b.kind := ⟨_, rfl⟩
      obtain ⟨y1, hy1⟩ : ∃ x, x = c1 1 := ⟨_, rfl⟩
      obtain ⟨y2, hy2⟩ : ∃ x, x = c2 1 := ⟨_, rfl⟩
      obtain ⟨ba, hba⟩ : ∃ x, x = a.emp := ⟨_, rfl⟩
      obtain ⟨bb, hbb⟩ : ∃ x, x = b.emp := ⟨_, rfl⟩
      rw [← hx0, ← hx1, ← hx2, ← hba] at hca
      rw [← hy0, ← hy1, ← hy2, ← hbb] at hcb
      rw [← hba, ← hbb] at HX
      rw [← hx0] at a0
      rw [← hx1] at a1
      rw [← hx2] at a2
      rw [← hy0] at d0
      rw [← hy1] at d1
      rw [← hy2] at d2
      have HCA := Lib.hid hca
      have HCB := Lib.hid hcb
      rw [hln]
      have HBL := Lib.hid hbl
      have hbw : b0 < w.heap.size := by have := HB0.out.size; omega
      have hne : ¬ b0 = w.heap.size := by omega
      clear hca hcb hpa hpb hl hln hoo hbl' hx0 hx1 hx2 hy0 hy1 hy2 hba hbb hbl
      go_enter Try.func33, Try.ntmps33
      go_wp2_with fail
      refine (HCA.out _ (HB1.out _)).mono ?_
      rintro x w3 ⟨rfl, hb3⟩
      have g2 : w3.cell? ⟨w.heap.size, 2, none⟩ = some (.slice (some ⟨b0, off, none⟩) 2 q2) := cell_later hb3 (by simp [go_sem])
      have hb4 := bel_then (HB1.out _) hb3
      rw [← hb4.cell hbw] at d0 d1 d2
      have HB3 := Lib.hid hb4
      clear hb3 hb4 a0 a1 a2
      cases ba with
      | false =>
        have HY := Lib.hid (show r = false by rw [HX.out]; rfl)
        go_wp2_with fail
        go_ret
        exact ⟨by rw [HY.out]; rfl, HB3.out⟩
      | true =>
        have HY := Lib.hid (show r = bb by rw [HX.out]; rfl)
        go_wp2_with fail
        refine (HCB.out _ HB3.out).mono ?_
        rintro x w5 ⟨rfl, hb5⟩
        have HB5 := Lib.hid (bel_then HB3.out hb5)
        clear hb5
        go_wp2_with fail
        go_ret
        exact ⟨by rw [HY.out]; rfl, HB5.out⟩
    have t3 : (k == 3) = false := by simpa using k3
    by_cases k4 : k = 4
    · subst k4
      obtain ⟨a, b, hl⟩ := two_of' (HTW.out (by omega))
      have hpa : e.parts[0]? = some a := by rw [hl]; rfl
      have hpb : e.parts[1]? = some b := by rw [hl]; rfl
      have HX := Lib.hid (show r = (a.emp || b.emp) by rw [HEM.out, if_neg (by omega), if_pos rfl, hl, RE.anyE_two])
      have hln : e.parts.length = 2 := by rw [hl]; rfl
      obtain ⟨-, b0, off, rfl, hbl, a0, a1, a2⟩ := HALL.out 0 a hpa
      obtain ⟨-, b0', off', hoo, hbl', d0, d1, d2⟩ := HALL.out 1 b hpb
      obtain ⟨rfl, rfl⟩ : b0 = b0' ∧ off = off' := by injection hoo with q; injection q with q1 q2; exact ⟨q1, q2⟩
      rw [← HB0.out.cell hbl] at a0 a1 a2
      rw [← HB0.out.cell hbl'] at d0 d1 d2
      simp only [Nat.zero_mul, Nat.add_zero, Nat.one_mul] at a0 a1 a2 d0 d1 d2
      have hca := fun w' hb' => HIN.out 0 a w' hpa hb'
      have hcb := fun w' hb' => HIN.out 1 b w' hpb hb'
      obtain ⟨x0, hx0⟩ : ∃ x, x = a.kind := ⟨_, rfl⟩
      obtain ⟨x1, hx1⟩ : ∃ x, x = c1 0 := ⟨_, rfl⟩
      obtain ⟨x2, hx2⟩ : ∃ x, x = c2 0 := ⟨_, rfl⟩
      obtain ⟨y0, hy0⟩ : ∃ x, x = b.kind := ⟨_, rfl⟩
      obtain ⟨y1, hy1⟩ : ∃ x, x = c1 1 := ⟨_, rfl⟩
      obtain ⟨y2, hy2⟩ : ∃ x, x = c2 1 := ⟨_, rfl⟩
      obtain ⟨ba, hba⟩ : ∃ x, x = a.emp := ⟨_, rfl⟩
      obtain ⟨bb, hbb⟩ : ∃ x, x = b.emp := ⟨_, rfl⟩
      rw [← hx0, ← hx1, ← hx2, ← hba] at hca
      rw [← hy0, ← hy1, ← hy2, ← hbb] at hcb
      rw [← hba, ← hbb] at HX
      rw [← hx0] at a0
      rw [← hx1] at a1
      rw [← hx2] at a2
      rw [← hy0] at d0
      rw [← hy1] at d1
      rw [← hy2] at d2
      have HCA := Lib.hid hca
      have HCB := Lib.hid hcb
      rw [hln]
      have HBL := Lib.hid hbl
      have hbw : b0 < w.heap.size := by have := HB0.out.size; omega
      have hne : ¬ b0 = w.heap.size := by omega
      clear hca hcb hpa hpb hl hln hoo hbl' hx0 hx1 hx2 hy0 hy1 hy2 hba hbb hbl
      go_enter Try.func33, Try.ntmps33
      go_wp2_with fail
      refine (HCA.out _ (HB1.out _)).mono ?_
      rintro x w3 ⟨rfl, hb3⟩
      have g2 : w3.cell? ⟨w.heap.size, 2, none⟩ = some (.slice (some ⟨b0, off, none⟩) 2 q2) := cell_later hb3 (by simp [go_sem])
      have hb4 := bel_then (HB1.out _) hb3
      rw [← hb4.cell hbw] at d0 d1 d2
      have HB3 := Lib.hid hb4
      clear hb3 hb4 a0 a1 a2
      cases ba with
      | true =>
        have HY := Lib.hid (show r = true by rw [HX.out]; rfl)
        go_wp2_with fail
        go_ret
        exact ⟨by rw [HY.out]; rfl, HB3.out⟩
      | false =>
        have HY := Lib.hid (show r = bb by rw [HX.out]; rfl)
        go_wp2_with fail
        refine (HCB.out _ HB3.out).mono ?_
        rintro x w5 ⟨rfl, hb5⟩
        have HB5 := Lib.hid (bel_then HB3.out hb5)
        clear hb5
        go_wp2_with fail
        go_ret
        exact ⟨by rw [HY.out]; rfl, HB5.out⟩
    have t4 : (k == 4) = false := by simpa using k4
    have HX := Lib.hid (show r = false by rw [HEM.out, if_neg (by omega), if_neg k4, if_neg k3])
    go_enter Try.func33, Try.ntmps33
    go_wp2_with fail
    go_ret
    exact ⟨by rw [HX.out]; rfl, HB1.out _⟩
def ESameIh (w0 : World) (N : Nat) : Prop := ∀ (a b : RE) (na la nb lb : Value) (w : World), a.size ≤ N → a.Fit → b.Fit → ReIs w0 a na la → ReIs w0 b nb lb → Below w0.heap.size w0 w →
  Calls Try.prog 43 #[.agg #[.int .i64 a.kind, na, la], .agg #[.int .i64 b.kind, nb, lb]] w fun x w' => x = .returned (.bool (a.same b)) ∧ Below w.heap.size w w'
set_option maxHeartbeats 8000000 in
set_option maxRecDepth 100000 in
theorem esame_all (w0 : World) : ∀ N, ESameIh w0 N := by
  intro N
  induction N with
  | zero => intro a b na la nb lb w hs; have := a.size_pos; omega
  | succ N ih =>
    intro a b na la nb lb w hs hfa hfb hra hrb hb0
    obtain ⟨⟨o1, q1, rfl⟩, -⟩ := hra.form
    obtain ⟨⟨o2, q2, rfl⟩, -⟩ := hrb.form
    have sa := hra.set
    have sb := hrb.set
    obtain ⟨p1, r1, ka, nao, nan, nac, lao, lan, lac, rfl, halla⟩ := hra.row3
    obtain ⟨p2, r2, kb, nbo, nbn, nbc, lbo, lbn, lbc, rfl, hallb⟩ := hrb.row3
    have m1 := hfa.sets
    have m2 := hfb.sets
    have hnam := fun w' (hb : Below w.heap.size w w') => refSame_any a.set b.set (.slice o1 a.set.length q1) (.slice o2 b.set.length q2) w' (sa.below (bel_then hb0 hb)) (sb.below (bel_then hb0 hb)) (by omega) (by omega)
    have hin : ∀ (i : Nat) (x y : RE) (w' : World), a.parts[i]? = some x → b.parts[i]? = some y → Below w.heap.size w w' → Calls Try.prog 43 #[.agg #[.int .i64 (ka i), .slice (nao i) (nan i) (nac i), .slice (lao i) (lan i) (lac i)], .agg #[.int .i64 (kb i), .slice (nbo i) (nbn i) (nbc i), .slice (lbo i) (lbn i) (lbc i)]] w' fun e w'' => e = .returned (.bool (x.same y)) ∧ Below w'.heap.size w' w'' := by
      intro i x y w' hx hy hb
      obtain ⟨h1, h2, -⟩ := halla i x hx
      obtain ⟨h3, h4, -⟩ := hallb i y hy
      rw [h1, h3]
      exact ih _ _ _ _ _ _ w' (by have := RE.size_part hx; omega) (hfa.part hx) (hfb.part hy) h2 h4 (bel_then hb0 hb)
    have HN := Lib.hid hnam
    have HIN := Lib.hid hin
    have HA := Lib.hid halla
    have HB := Lib.hid hallb
    have HB0 := Lib.hid hb0
    have HE := Lib.hid (RE.same_eq a b)
    clear hnam hin halla hallb hra hrb hb0 ih sa sb
    have hB1 : ∀ (x y : Obj), Below w.heap.size w ((w.alloc x).alloc y) := fun x y => bel_new (bel_new (Below.refl _ _) _) _
    by_cases k1 : a.kind = b.kind
    case neg =>
      have b1 : (a.kind != b.kind) = true := by simpa using k1
      have HX := Lib.hid (show a.same b = false by rw [HE.out, decide_eq_false k1]; rfl)
      clear k1
      go_enter Try.func43, Try.ntmps43
      go_wp2_with fail
      go_ret
      exact ⟨by rw [HX.out]; rfl, hB1 _ _⟩
    have b1 : (a.kind != b.kind) = false := by simpa using k1
    have HK := Lib.hid k1
    clear k1
    by_cases k2 : a.parts.length = b.parts.length
    case neg =>
      have l1 : ((a.parts.length : Int) != (b.parts.length : Int)) = true := by simp; omega
      have l2 : (a.parts.length != b.parts.length) = true := by simpa using k2
      have HX := Lib.hid (show a.same b = false by rw [HE.out, decide_eq_false k2]; simp)
      clear k2
      go_enter Try.func43, Try.ntmps43
      go_wp2_with fail
      go_ret
      exact ⟨by rw [HX.out]; rfl, hB1 _ _⟩
    obtain ⟨n, hn⟩ : ∃ n, n = a.parts.length := ⟨_, rfl⟩
    have hn2 : n = b.parts.length := by omega
    have HLN := Lib.hid (And.intro hn (And.intro hn2 k2))
    have hn9 : n ≤ 1000 := by omega
    rw [← hn, ← hn2]
    clear k2 hn hn2
    have l1 : ((n : Int) != (n : Int)) = false := by simp
    have l2 : (n != n) = false := by simp
    go_enter Try.func43, Try.ntmps43
    go_wp2_with fail
    refine (HN.out _ (by exact hB1 _ _)).mono ?_
    rintro x w2 ⟨rfl, hb2'⟩
    have d2 : w2.cell? ⟨w.heap.size, 2, none⟩ = some (.slice p1 n r1) := cell_later hb2' (by simp [go_sem])
    have d3 : w2.cell? ⟨w.heap.size + 1, 2, none⟩ = some (.slice p2 n r2) := cell_later hb2' (by simp [go_sem])
    have hb2 : Below w.heap.size w w2 := bel_then (hB1 _ _) hb2'
    clear hb2'
    have HB2 := Lib.hid hb2
    clear hb2
    cases hs : decide (a.set = b.set) with
    | false =>
      have HX := Lib.hid (show a.same b = false by rw [HE.out, hs]; simp)
      go_wp2_with fail
      go_ret
      exact ⟨by rw [HX.out]; rfl, HB2.out⟩
    | true =>
    have HXS := Lib.hid hs
    have e2 := d2
    have e3 := d3
    have HB4 := HB2
    clear d2 d3 HB2
    have HW4 := Lib.hid (And.intro e2 e3)
    go_wp2_with fail
    clear e2 e3
    go_loopg [5] n (fun g s5 wx => ∃ k : Nat, k + g = n ∧ s5 = .int .i64 (k : Int) ∧ Below w.heap.size w wx ∧ wx.cell? ⟨w.heap.size, 2, none⟩ = some (.slice p1 n r1) ∧ wx.cell? ⟨w.heap.size + 1, 2, none⟩ = some (.slice p2 n r2) ∧ ∀ j x y, j < k → a.parts[j]? = some x → b.parts[j]? = some y → x.same y = true)
    case atStart => exact ⟨0, by omega, rfl, HB4.out, HW4.out.1, HW4.out.2, fun j x y hj => by omega⟩
    case round =>
      obtain ⟨k, hkg, rfl, hbel, e2, e3, hall⟩ := hrel
      have HR := Lib.hid (And.intro hbel hall)
      clear hall
      cases gk with
      | zero =>
        obtain rfl : k = n := by omega
        have hd : decide ((k : Int) < (k : Int)) = false := by simp
        have hd2 : decide (k < k) = false := by simp
        have HX := Lib.hid (show a.same b = true by
          rw [HE.out, decide_eq_true HK.out, HXS.out, decide_eq_true HLN.out.2.2, (RE.sameL_iff a.parts b.parts).2 (fun i x y hx hy => HR.out.2 i x y (by have := (List.getElem?_eq_some_iff.1 hx).1; have := HLN.out.1; omega) hx hy)]
          rfl)
        clear hbel
        go_wp2_with fail
        go_ret
        exact ⟨by rw [HX.out]; rfl, HR.out.1⟩
      | succ g =>
        have hk : k < n := by omega
        have hd : decide ((k : Int) < (n : Int)) = true := by simp; omega
        have hd2 : decide (k < n) = true := by simpa using hk
        have hk1 : (0 : Int) ≤ (k : Int) := by omega
        have hk2 : (k : Int) < (n : Int) := by omega
        obtain ⟨x, hx⟩ : ∃ x, a.parts[k]? = some x := ⟨_, List.getElem?_eq_getElem (by have := HLN.out.1; omega)⟩
        obtain ⟨y, hy⟩ : ∃ y, b.parts[k]? = some y := ⟨_, List.getElem?_eq_getElem (by have := HLN.out.2.1; omega)⟩
        obtain ⟨-, -, b1', f1, rfl, hlta, u0, u1, u2⟩ := HA.out k x hx
        obtain ⟨-, -, b2', f2, rfl, hltb, v0, v1, v2⟩ := HB.out k y hy
        have hbb := bel_then HB0.out hbel
        rw [← hbb.cell hlta] at u0 u1 u2
        rw [← hbb.cell hltb] at v0 v1 v2
        have hcal := fun w' hb' => HIN.out k x y w' hx hy hb'
        obtain ⟨x0, hx0⟩ : ∃ z, z = ka k := ⟨_, rfl⟩
        obtain ⟨x1o, hx1o⟩ : ∃ z, z = nao k := ⟨_, rfl⟩
        obtain ⟨x1n, hx1n⟩ : ∃ z, z = nan k := ⟨_, rfl⟩
        obtain ⟨x1c, hx1c⟩ : ∃ z, z = nac k := ⟨_, rfl⟩
        obtain ⟨x3o, hx3o⟩ : ∃ z, z = lao k := ⟨_, rfl⟩
        obtain ⟨x3n, hx3n⟩ : ∃ z, z = lan k := ⟨_, rfl⟩
        obtain ⟨x3c, hx3c⟩ : ∃ z, z = lac k := ⟨_, rfl⟩
        obtain ⟨y0, hy0⟩ : ∃ z, z = kb k := ⟨_, rfl⟩
        obtain ⟨y1o, hy1o⟩ : ∃ z, z = nbo k := ⟨_, rfl⟩
        obtain ⟨y1n, hy1n⟩ : ∃ z, z = nbn k := ⟨_, rfl⟩
        obtain ⟨y1c, hy1c⟩ : ∃ z, z = nbc k := ⟨_, rfl⟩
        obtain ⟨y3o, hy3o⟩ : ∃ z, z = lbo k := ⟨_, rfl⟩
        obtain ⟨y3n, hy3n⟩ : ∃ z, z = lbn k := ⟨_, rfl⟩
        obtain ⟨y3c, hy3c⟩ : ∃ z, z = lbc k := ⟨_, rfl⟩
        rw [← hx0, ← hx1o, ← hx1n, ← hx1c, ← hx3o, ← hx3n, ← hx3c, ← hy0, ← hy1o, ← hy1n, ← hy1c, ← hy3o, ← hy3n, ← hy3c] at hcal
        rw [← hx0] at u0
        rw [← hx1o, ← hx1n, ← hx1c] at u1
        rw [← hx3o, ← hx3n, ← hx3c] at u2
        rw [← hy0] at v0
        rw [← hy1o, ← hy1n, ← hy1c] at v1
        rw [← hy3o, ← hy3n, ← hy3c] at v2
        have HCAL := Lib.hid hcal
        have HXY := Lib.hid (And.intro hx hy)
        clear hcal hx hy hbb hx0 hx1o hx1n hx1c hx3o hx3n hx3c hy0 hy1o hy1n hy1c hy3o hy3n hy3c hlta hltb hbel
        go_upto_region 6 with (fail)
        go_region_held3 (fun w' => w'.cell? ⟨w.heap.size, 2, none⟩ = some (.slice (some ⟨b1', f1, none⟩) n r1) ∧ w'.cell? ⟨w.heap.size + 1, 2, none⟩ = some (.slice (some ⟨b2', f2, none⟩) n r2) ∧ w'.cell? ⟨b1', f1 + k * 3, none⟩ = some (.int .i64 x0) ∧ w'.cell? ⟨b1', f1 + k * 3 + 1, none⟩ = some (.slice x1o x1n x1c) ∧ w'.cell? ⟨b1', f1 + k * 3 + 2, none⟩ = some (.slice x3o x3n x3c) ∧
            w'.cell? ⟨b2', f2 + k * 3, none⟩ = some (.int .i64 y0) ∧ w'.cell? ⟨b2', f2 + k * 3 + 1, none⟩ = some (.slice y1o y1n y1c) ∧ w'.cell? ⟨b2', f2 + k * 3 + 2, none⟩ = some (.slice y3o y3n y3c))
          (first | exact ⟨e2, e3, u0, u1, u2, v0, v1, v2⟩ | exact ⟨cell_later hb3 e2, cell_later hb3 e3, cell_later hb3 u0, cell_later hb3 u1, cell_later hb3 u2, cell_later hb3 v0, cell_later hb3 v1, cell_later hb3 v2⟩)
          (first
            | (go_simp; go_at_call 43; refine (HCAL.out _ (HR.out.1.drew)).mono ?_; rintro e w3 ⟨rfl, hb3'⟩; have hb3 : Below wr.heap.size wr w3 := Below.trans (Below.refl _ _).drew hb3'))
        all_goals (
          have HB3 := Lib.hid (bel_then HR.out.1 hb3)
          have g2 : w3.cell? ⟨w.heap.size, 2, none⟩ = some (.slice (some ⟨b1', f1, none⟩) n r1) := cell_later hb3 e2
          have g3 : w3.cell? ⟨w.heap.size + 1, 2, none⟩ = some (.slice (some ⟨b2', f2, none⟩) n r2) := cell_later hb3 e3
          clear hb3 hb3' e2 e3 u0 u1 u2 v0 v1 v2
          cases hxy : x.same y with
          | true =>
            have HXT := Lib.hid hxy
            go_wp2_with fail
            go_roundg g
            case measure => omega
            case rel =>
              refine ⟨k + 1, by omega, by simp, HB3.out, g2, g3, fun j x' y' hj hx' hy' => ?_⟩
              rcases Nat.lt_or_ge j k with h | h
              · exact HR.out.2 j x' y' h hx' hy'
              · obtain rfl : j = k := by omega
                rw [HXY.out.1] at hx'; rw [HXY.out.2] at hy'; cases hx'; cases hy'; exact HXT.out
          | false =>
            have HX := Lib.hid (show a.same b = false by
              rw [HE.out]
              cases hz : RE.sameL a.parts b.parts with
              | false => simp
              | true => rw [(RE.sameL_iff a.parts b.parts).1 hz k x y HXY.out.1 HXY.out.2] at hxy; cases hxy)
            go_wp2_with fail
            go_ret
            exact ⟨by rw [HX.out]; rfl, HB3.out⟩)
end Go.Proofs.Ytkmnigoikkffnaa
