/- gram: Empty, shaped. -/
import Derived.Test.YtkmnigoikkffnaaPtFits
set_option linter.unusedVariables false
set_option linter.unusedSimpArgs false
namespace Go.Proofs.Ytkmnigoikkffnaa
open Go.RowKit Ru

set_option maxHeartbeats 4000000 in
set_option maxRecDepth 100000 in
theorem ptEmp_index (n : Nat) (o : Option Addr) (cap : Nat) (c0 c1 c2 c3 : Nat → Value) (St : Nat → World → Prop) (Fin : Nat → World → Prop) (w : World) (hn : n ≤ 1000000)
    (hel : ∀ i, i < n → ∃ b off, o = some ⟨b, off, none⟩ ∧ ∀ w', St i w' → w'.cell? ⟨b, off + i * 4, none⟩ = some (c0 i) ∧ w'.cell? ⟨b, off + i * 4 + 1, none⟩ = some (c1 i) ∧ w'.cell? ⟨b, off + i * 4 + 2, none⟩ = some (c2 i) ∧ w'.cell? ⟨b, off + i * 4 + 3, none⟩ = some (c3 i))
    (hf : ∀ i w', i < n → St i w' → Calls Try.prog 21 #[.agg #[c0 i, c1 i, c2 i, c3 i]] w' fun e w'' => (e = .returned (.bool true) ∧ Fin i w'') ∨ (e = .returned (.bool false) ∧ St (i + 1) w''))
    (h0 : St 0 w) :
    Calls Try.prog 68 #[.slice o n cap, .func (Fn.func 21) #[] #[]] w fun e w' => (∃ i : Nat, i < n ∧ e = .returned (.int .i64 i) ∧ Fin i w') ∨ (e = .returned (.int .i64 (-1)) ∧ St n w') := by
  have HEL := Lib.hid hel
  have HF := Lib.hid hf
  clear hel hf
  go_enter Try.func68, Try.ntmps68
  go_wp2_with fail
  go_loopg [8] n (fun g i wx => ∃ k : Nat, k + g = n ∧ i = .int .i64 k ∧ St k wx)
  case atStart => exact ⟨0, by omega, rfl, h0⟩
  case round =>
    obtain ⟨k, hkg, rfl, hSt⟩ := hrel
    obtain ⟨wo, rfl⟩ : ∃ wo : World, wo = wr := ⟨_, rfl⟩
    cases gk with
    | zero =>
      obtain rfl : k = n := by omega
      have hd : decide ((k : Int) < (k : Int)) = false := by simp
      have HS := Lib.hid hSt
      clear hSt
      go_wp2
      go_ret
      exact .inr ⟨rfl, HS.out⟩
    | succ g =>
      have hk : k < n := by omega
      have hd : decide ((k : Int) < (n : Int)) = true := by simp; omega
      have hk1 : (0 : Int) ≤ (k : Int) := by omega
      have hk2 : (k : Int) < (n : Int) := by omega
      have hk9 : (k : Int) ≤ 1000000 := by omega
      obtain ⟨b, off, rfl, hcell⟩ := HEL.out k hk
      obtain ⟨k0, k1, k2, k3⟩ := hcell wo hSt
      have hc := HF.out k wo hk hSt
      obtain ⟨d0, hd0⟩ : ∃ d, d = c0 k := ⟨_, rfl⟩
      rw [← hd0] at k0 hc
      clear hd0
      obtain ⟨d1, hd1⟩ : ∃ d, d = c1 k := ⟨_, rfl⟩
      rw [← hd1] at k1 hc
      clear hd1
      obtain ⟨d2, hd2⟩ : ∃ d, d = c2 k := ⟨_, rfl⟩
      rw [← hd2] at k2 hc
      clear hd2
      obtain ⟨d3, hd3⟩ : ∃ d, d = c3 k := ⟨_, rfl⟩
      rw [← hd3] at k3 hc
      clear hd3
      have HC := Lib.hid hc
      clear hcell hSt hc
      go_wp2_with fail
      refine HC.out.mono ?_
      rintro e w2 (⟨rfl, hfin⟩ | ⟨rfl, hst⟩)
      · have HX := Lib.hid hfin
        clear hfin
        go_wp2
        go_ret
        exact .inl ⟨k, hk, rfl, HX.out⟩
      · have HX := Lib.hid hst
        clear hst
        go_wp2
        go_roundg g
        case measure => omega
        case rel => exact ⟨k + 1, by omega, by go_num, HX.out⟩

set_option maxHeartbeats 4000000 in
set_option maxRecDepth 100000 in
theorem ptEmp_contains (n : Nat) (o : Option Addr) (cap : Nat) (c0 c1 c2 c3 : Nat → Value) (St : Nat → World → Prop) (Fin : Nat → World → Prop) (w : World) (hn : n ≤ 1000000)
    (hel : ∀ i, i < n → ∃ b off, o = some ⟨b, off, none⟩ ∧ ∀ w', St i w' → w'.cell? ⟨b, off + i * 4, none⟩ = some (c0 i) ∧ w'.cell? ⟨b, off + i * 4 + 1, none⟩ = some (c1 i) ∧ w'.cell? ⟨b, off + i * 4 + 2, none⟩ = some (c2 i) ∧ w'.cell? ⟨b, off + i * 4 + 3, none⟩ = some (c3 i))
    (hf : ∀ i w', i < n → St i w' → Calls Try.prog 21 #[.agg #[c0 i, c1 i, c2 i, c3 i]] w' fun e w'' => (e = .returned (.bool true) ∧ Fin i w'') ∨ (e = .returned (.bool false) ∧ St (i + 1) w''))
    (h0 : St 0 w) :
    Calls Try.prog 52 #[.slice o n cap, .func (Fn.func 21) #[] #[]] w fun e w' => (∃ i : Nat, i < n ∧ e = .returned (.bool true) ∧ Fin i w') ∨ (e = .returned (.bool false) ∧ St n w') := by
  have hc := ptEmp_index n o cap c0 c1 c2 c3 St Fin w hn hel hf h0
  have HC := Lib.hid hc
  clear hc hf hel
  go_enter Try.func52, Try.ntmps52
  go_wp2_with fail
  refine HC.out.mono ?_
  rintro e w2 (⟨i, hi, rfl, hfin⟩ | ⟨rfl, hst⟩)
  · have HX := Lib.hid hfin
    have hi0 : decide ((0 : Int) ≤ (i : Int)) = true := by simp
    have hi9 : (i : Int) ≤ 1000000 := by omega
    clear hfin
    go_wp2
    go_ret
    exact .inl ⟨i, hi, rfl, HX.out⟩
  · have HX := Lib.hid hst
    clear hst
    go_wp2
    go_ret
    exact .inr ⟨rfl, HX.out⟩

namespace PT
mutual
/-- may a pattern be of nothing -/
def emp : PT → Bool
  | .mk k n e l => if k = 1 ∨ k = 4 ∨ k = 7 then true else if k = 5 then (decide (l.length = 2) && allE l) else if k = 6 then anyE l else false
def anyE : List PT → Bool
  | [] => false
  | e :: l => emp e || anyE l
def allE : List PT → Bool
  | [] => true
  | e :: l => emp e && allE l
end
theorem emp_eq (e : PT) : e.emp = if e.kind = 1 ∨ e.kind = 4 ∨ e.kind = 7 then true else if e.kind = 5 then (decide (e.parts.length = 2) && allE e.parts) else if e.kind = 6 then anyE e.parts else false := by cases e; rw [emp]; rfl
theorem anyE_iff (l : List PT) : anyE l = true ↔ ∃ (i : Nat) (e : PT), l[i]? = some e ∧ e.emp = true := by
  induction l with
  | nil => rw [anyE]; simp
  | cons a l ih =>
    rw [anyE, Bool.or_eq_true, ih]
    constructor
    · rintro (h | ⟨i, e, h1, h2⟩)
      · exact ⟨0, a, rfl, h⟩
      · exact ⟨i + 1, e, by simpa using h1, h2⟩
    · rintro ⟨i, e, h1, h2⟩
      cases i with
      | zero => simp at h1; subst h1; exact .inl h2
      | succ i => exact .inr ⟨i, e, by simpa using h1, h2⟩
theorem allE_two (a b : PT) : allE [a, b] = (a.emp && b.emp) := by rw [allE, allE, allE]; simp
end PT
def EmpIh (w0 : World) (N : Nat) : Prop := ∀ (e : PT) (nv ev lv : Value) (w : World), e.size ≤ N → e.Fit → PtIs w0 e nv ev lv → Below w0.heap.size w0 w →
  Calls Try.prog 21 #[.agg #[.int .i64 e.kind, nv, ev, lv]] w fun x w' => x = .returned (.bool e.emp) ∧ Below w.heap.size w w'
set_option maxHeartbeats 8000000 in
set_option maxRecDepth 100000 in
theorem emp_all (w0 : World) : ∀ N, EmpIh w0 N := by
  intro N
  induction N with
  | zero => intro e nv ev lv w hs; have := e.size_pos; omega
  | succ N ih =>
    intro e nv ev lv w hs hf hr hb0
    obtain ⟨⟨o1, q1, rfl⟩, ⟨o3, q3, rfl⟩, -⟩ := hr.form
    obtain ⟨o2, q2, c1, c3, c2, rfl, hall⟩ := hr.all
    have hm1 := hf.lens
    have HALL := Lib.hid hall
    have HEMP := Lib.hid (PT.emp_eq e)
    have hB1 : ∀ (x : Obj), Below w.heap.size w (w.alloc x) := fun x => bel_new (Below.refl _ _) _
    have hin : ∀ (i : Nat) (p : PT) (w' : World), e.parts[i]? = some p → Below w.heap.size w w' → Calls Try.prog 21 #[.agg #[.int .i64 p.kind, c1 i, c3 i, c2 i]] w' fun x w'' => x = .returned (.bool p.emp) ∧ Below w'.heap.size w' w'' := by
      intro i p w' hp hb
      exact ih p _ _ _ w' (by have := PT.size_part hp; omega) (hf.part hp) (hall i p hp).1 (bel_then hb0 hb)
    have HIN := Lib.hid hin
    have hany := fun w' (hb : Below w.heap.size w w') => ptEmp_contains e.parts.length o2 q2 (fun i => .int .i64 (e.parts.getD i e).kind) c1 c3 c2
      (fun i w'' => Below w'.heap.size w' w'' ∧ ∀ j p, j < i → e.parts[j]? = some p → p.emp = false)
      (fun i w'' => Below w'.heap.size w' w'' ∧ ∃ p, e.parts[i]? = some p ∧ p.emp = true) w' (by omega)
      (fun i hi => by
        obtain ⟨p, hp⟩ : ∃ p, e.parts[i]? = some p := ⟨e.parts[i], List.getElem?_eq_getElem hi⟩
        have hg : e.parts.getD i e = p := by rw [List.getD, hp]; rfl
        obtain ⟨hrp, b, off, ho, hbl, k0, k1, k3, k2⟩ := hall i p hp
        refine ⟨b, off, ho, fun w'' hSt => ?_⟩
        have hbb := bel_then (bel_then hb0 hb) hSt.1
        rw [hg]
        exact ⟨(hbb.cell hbl).trans k0, (hbb.cell hbl).trans k1, (hbb.cell hbl).trans k3, (hbb.cell hbl).trans k2⟩)
      (fun i w1 hi hSt => by
        obtain ⟨p, hp⟩ : ∃ p, e.parts[i]? = some p := ⟨e.parts[i], List.getElem?_eq_getElem hi⟩
        have hg : e.parts.getD i e = p := by rw [List.getD, hp]; rfl
        rw [hg]
        refine (hin i p w1 hp (bel_then hb hSt.1)).mono ?_
        rintro x w3 ⟨rfl, hb3⟩
        cases hs : p.emp with
        | true => exact .inl ⟨rfl, bel_then hSt.1 hb3, p, hp, hs⟩
        | false =>
          refine .inr ⟨rfl, bel_then hSt.1 hb3, fun j p' hj hp' => ?_⟩
          rcases Nat.lt_or_ge j i with h | h
          · exact hSt.2 j p' h hp'
          · obtain rfl : j = i := by omega
            rw [hp] at hp'; cases hp'; exact hs)
      ⟨Below.refl _ _, fun j p hj => by omega⟩
    have HANY := Lib.hid hany
    have HB0 := Lib.hid hb0
    clear hall hin hany hr hb0 ih
    by_cases k147 : e.kind = 1 ∨ e.kind = 4 ∨ e.kind = 7
    · have HX := Lib.hid (show e.emp = true by rw [HEMP.out, if_pos k147])
      rcases k147 with k | k | k
      · have b1 : (e.kind == 1) = true := by simpa using k
        clear k
        go_enter Try.func21, Try.ntmps21
        go_wp2_with fail
        go_ret
        exact ⟨by rw [HX.out]; rfl, hB1 _⟩
      · have b1 : (e.kind == 1) = false := by simp; omega
        have b4 : (e.kind == 4) = true := by simpa using k
        clear k
        go_enter Try.func21, Try.ntmps21
        go_wp2_with fail
        go_ret
        exact ⟨by rw [HX.out]; rfl, hB1 _⟩
      · have b1 : (e.kind == 1) = false := by simp; omega
        have b4 : (e.kind == 4) = false := by simp; omega
        have b7 : (e.kind == 7) = true := by simpa using k
        clear k
        go_enter Try.func21, Try.ntmps21
        go_wp2_with fail
        go_ret
        exact ⟨by rw [HX.out]; rfl, hB1 _⟩
    have b1 : (e.kind == 1) = false := by simp; omega
    have b4 : (e.kind == 4) = false := by simp; omega
    have b7 : (e.kind == 7) = false := by simp; omega
    by_cases k6 : e.kind = 6
    · have b5 : (e.kind == 5) = false := by simp; omega
      have b6 : (e.kind == 6) = true := by simpa using k6
      have HX := Lib.hid (show e.emp = PT.anyE e.parts by rw [HEMP.out, if_neg k147, if_neg (by omega), if_pos k6])
      clear k6 k147
      go_enter Try.func21, Try.ntmps21
      go_wp2_with fail
      refine (HANY.out _ (hB1 _)).mono ?_
      rintro x w2 (⟨i, hi, rfl, hb2, p, hp, hpe⟩ | ⟨rfl, hb2, hnone⟩)
      · have HY := Lib.hid (show e.emp = true by rw [HX.out]; exact (PT.anyE_iff _).2 ⟨i, p, hp, hpe⟩)
        have HB := Lib.hid (bel_then (hB1 _) hb2)
        clear hb2 hp hpe
        go_wp2_with fail
        go_ret
        exact ⟨by rw [HY.out]; rfl, HB.out⟩
      · have HY := Lib.hid (show e.emp = false by
          rw [HX.out]
          cases hz : PT.anyE e.parts with
          | false => rfl
          | true =>
            obtain ⟨i, p, hp, hpe⟩ := (PT.anyE_iff _).1 hz
            rw [hnone i p (List.getElem?_eq_some_iff.1 hp).1 hp] at hpe
            cases hpe)
        have HB := Lib.hid (bel_then (hB1 _) hb2)
        clear hb2 hnone
        go_wp2_with fail
        go_ret
        exact ⟨by rw [HY.out]; rfl, HB.out⟩
    have b6 : (e.kind == 6) = false := by simp; omega
    by_cases k5 : e.kind = 5
    · have b5 : (e.kind == 5) = true := by simpa using k5
      have HX := Lib.hid (show e.emp = (decide (e.parts.length = 2) && PT.allE e.parts) by rw [HEMP.out, if_neg k147, if_pos k5])
      clear k6 k147 k5
      by_cases h2 : e.parts.length = 2
      · have g2 : ((e.parts.length : Int) == 2) = true := by simp; omega
        have hl0 : (0 : Int) < (e.parts.length : Int) := by omega
        have hl1 : (1 : Int) < (e.parts.length : Int) := by omega
        obtain ⟨a, ha⟩ : ∃ a, e.parts[0]? = some a := ⟨_, List.getElem?_eq_getElem (by omega)⟩
        obtain ⟨b, hb⟩ : ∃ a, e.parts[1]? = some a := ⟨_, List.getElem?_eq_getElem (by omega)⟩
        have HY := Lib.hid (show e.emp = (a.emp && b.emp) by
          rw [HX.out, h2]
          obtain ⟨x, y, hxy⟩ : ∃ x y, e.parts = [x, y] := by
            cases hp : e.parts with
            | nil => rw [hp] at h2; simp at h2
            | cons x l => cases l with
              | nil => rw [hp] at h2; simp at h2
              | cons y l => cases l with
                | nil => exact ⟨x, y, rfl⟩
                | cons z l => rw [hp] at h2; simp at h2
          rw [hxy] at ha hb
          simp at ha hb
          subst ha; subst hb
          rw [hxy, PT.allE_two]; simp)
        obtain ⟨-, b0, off, rfl, hbl, k0, k1, k3, k2⟩ := HALL.out 0 a ha
        obtain ⟨-, b0', off', e0, hbl', l0, l1, l3, l2⟩ := HALL.out 1 b hb
        cases e0
        rw [← HB0.out.cell hbl] at k0 k1 k3 k2
        rw [← HB0.out.cell hbl] at l0 l1 l3 l2
        have hsz := HB0.out.size
        have hbw : b0 < w.heap.size := by omega
        have hbn : ¬ b0 = w.heap.size := by omega
        obtain ⟨x1, hx1⟩ : ∃ x, x = c1 0 := ⟨_, rfl⟩
        obtain ⟨x3, hx3⟩ : ∃ x, x = c3 0 := ⟨_, rfl⟩
        obtain ⟨x2, hx2⟩ : ∃ x, x = c2 0 := ⟨_, rfl⟩
        obtain ⟨y1, hy1⟩ : ∃ x, x = c1 1 := ⟨_, rfl⟩
        obtain ⟨y3, hy3⟩ : ∃ x, x = c3 1 := ⟨_, rfl⟩
        obtain ⟨y2, hy2⟩ : ∃ x, x = c2 1 := ⟨_, rfl⟩
        have hA := fun w' hb' => HIN.out 0 a w' ha hb'
        have hB := fun w' hb' => HIN.out 1 b w' hb hb'
        rw [← hx1, ← hx2, ← hx3] at hA
        rw [← hy1, ← hy2, ← hy3] at hB
        rw [← hx1] at k1
        rw [← hx3] at k3
        rw [← hx2] at k2
        rw [← hy1] at l1
        rw [← hy3] at l3
        rw [← hy2] at l2
        simp only [Nat.zero_mul, Nat.add_zero, Nat.one_mul] at k0 k1 k2 k3 l0 l1 l2 l3
        have HA := Lib.hid hA
        have HB := Lib.hid hB
        clear hA hB hx1 hx2 hx3 hy1 hy2 hy3 ha hb h2
        go_enter Try.func21, Try.ntmps21
        go_wp2_with fail
        refine (HA.out _ (by exact hB1 _)).mono ?_
        rintro x w2 ⟨rfl, hb2'⟩
        have m0 : w2.cell? ⟨b0, off + 4, none⟩ = some (.int .i64 b.kind) := cell_later (bel_then (hB1 _) hb2') l0
        have m1 : w2.cell? ⟨b0, off + 4 + 1, none⟩ = some y1 := cell_later (bel_then (hB1 _) hb2') l1
        have m3 : w2.cell? ⟨b0, off + 4 + 2, none⟩ = some y3 := cell_later (bel_then (hB1 _) hb2') l3
        have m2 : w2.cell? ⟨b0, off + 4 + 3, none⟩ = some y2 := cell_later (bel_then (hB1 _) hb2') l2
        have mp : w2.cell? ⟨w.heap.size, 3, none⟩ = some (.slice (some ⟨b0, off, none⟩) e.parts.length q2) := cell_later hb2' (by simp [go_sem])
        have HB2 := Lib.hid (bel_then (hB1 _) hb2')
        clear hb2'
        cases hae : a.emp with
        | false =>
          have HZ := Lib.hid (show e.emp = false by rw [HY.out, hae]; rfl)
          go_wp2_with fail
          go_ret
          exact ⟨by rw [HZ.out]; rfl, HB2.out⟩
        | true =>
          have HZ := Lib.hid (show e.emp = b.emp by rw [HY.out, hae]; rfl)
          go_wp2_with fail
          refine (HB.out _ (by exact HB2.out)).mono ?_
          rintro x w3 ⟨rfl, hb3⟩
          have HB3 := Lib.hid (bel_then HB2.out hb3)
          clear hb3
          go_wp2_with fail
          go_ret
          exact ⟨by rw [HZ.out]; rfl, HB3.out⟩
      · have g2 : ((e.parts.length : Int) == 2) = false := by simp; omega
        have HY := Lib.hid (show e.emp = false by rw [HX.out, decide_eq_false h2]; rfl)
        clear h2
        go_enter Try.func21, Try.ntmps21
        go_wp2_with fail
        go_ret
        exact ⟨by rw [HY.out]; rfl, hB1 _⟩
    have b5 : (e.kind == 5) = false := by simpa using k5
    have HX := Lib.hid (show e.emp = false by rw [HEMP.out, if_neg k147, if_neg k5, if_neg k6])
    clear k6 k147 k5
    go_enter Try.func21, Try.ntmps21
    go_wp2_with fail
    go_ret
    exact ⟨by rw [HX.out]; rfl, hB1 _⟩
/-- gram.Empty -/
theorem gramEmpty_any (e : PT) (nv ev lv : Value) (w : World) (h : PtIs w e nv ev lv) (hf : e.Fit) :
    Calls Try.prog 21 #[.agg #[.int .i64 e.kind, nv, ev, lv]] w fun x w' => x = .returned (.bool e.emp) ∧ Below w.heap.size w w' :=
  emp_all w e.size e _ _ _ w (Nat.le_refl _) hf h (Below.refl _ _)
end Go.Proofs.Ytkmnigoikkffnaa
