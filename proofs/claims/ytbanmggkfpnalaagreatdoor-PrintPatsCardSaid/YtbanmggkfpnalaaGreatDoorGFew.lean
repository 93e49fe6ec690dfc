/- Few: what gobolaw6.size and gobolaw11.patSize tell of trees. -/
import Derived.Test.YtbanmggkfpnalaaGreatDoorArgGram
import Derived.Test.YtbanmggkfpnalaaGreatDoorGRefP
import Derived.Test.YtbanmggkfpnalaaGreatDoorGChk
set_option linter.unusedVariables false
set_option linter.unusedSimpArgs false
namespace Go.Proofs.YtbanmggkfpnalaaGreatDoor
open Go.RowKit Ru

namespace RE
theorem sizes_snoc : ∀ (l : List RE) (e : RE), sizes (l ++ [e]) = sizes l + e.size := by
  intro l
  induction l with
  | nil => intro e; rw [List.nil_append, sizes_cons, sizes_nil]; omega
  | cons a l ih => intro e; rw [List.cons_append, sizes_cons, ih, sizes_cons]; omega
theorem size_sizes (e : RE) : e.size = sizes e.parts + 1 := by cases e; rw [size_mk]; rfl
theorem take_snoc {l : List RE} {k : Nat} {p : RE} (h : l[k]? = some p) : l.take (k + 1) = l.take k ++ [p] := by rw [List.take_add_one, h]; rfl
theorem len_sizes : ∀ l : List RE, l.length ≤ sizes l := by
  intro l
  induction l with
  | nil => simp
  | cons a l ih => rw [sizes_cons, List.length_cons]; have := a.size_pos; omega
end RE
theorem PT.len_sizes : ∀ l : List PT, l.length ≤ PT.sizes l := by
  intro l
  induction l with
  | nil => simp
  | cons a l ih => rw [PT.sizes_cons, List.length_cons]; have := a.size_pos; omega

def SzPost (e : RE) (x : Ending) : Prop := ∃ r : Nat, x = .returned (.int .i64 (r : Int)) ∧ 1 ≤ r ∧ r ≤ 201 ∧ (r ≤ 200 → r = e.size ∧ e.Fit)
def SzIh (w0 : World) (N : Nat) : Prop := ∀ (e : RE) (sv lv : Value) (d : Nat) (w : World), e.size ≤ N → e.Raw → ReIs w0 e sv lv → Below w0.heap.size w0 w → d ≤ 17 →
  Calls Tryz.prog 18 #[.agg #[.int .i64 e.kind, sv, lv], .int .i64 (d : Int)] w fun x w' => SzPost e x ∧ Below w.heap.size w w'
set_option maxHeartbeats 8000000 in
set_option maxRecDepth 100000 in
theorem sz_all (w0 : World) : ∀ N, SzIh w0 N := by
  intro N
  induction N with
  | zero => intro e sv lv d w hs; have := e.size_pos; omega
  | succ N ih =>
    intro e sv lv d w hs hf hr hb0 hd
    obtain ⟨⟨o1, q1, rfl⟩, -⟩ := hr.form
    obtain ⟨o2, q2, c1, c2, rfl, hall⟩ := hr.all
    have HALL := Lib.hid hall
    have hin : ∀ (i : Nat) (p : RE) (w' : World), d ≤ 16 → e.parts[i]? = some p → Below w.heap.size w w' → Calls Tryz.prog 18 #[.agg #[.int .i64 p.kind, c1 i, c2 i], .int .i64 ((d : Int) + 1)] w' fun x w'' => SzPost p x ∧ Below w'.heap.size w' w'' := by
      intro i p w' hd' hp hb
      exact ih p _ _ (d + 1) w' (by have := RE.size_part hp; omega) (hf.part hp) (hall i p hp).1 (bel_then hb0 hb) (by omega)
    have HIN := Lib.hid hin
    have HB0 := Lib.hid hb0
    have HF := Lib.hid hf
    have HSZ := Lib.hid (RE.size_sizes e)
    clear hall hin hr hb0 ih hs hf
    obtain ⟨n, hn⟩ : ∃ n, n = e.parts.length := ⟨_, rfl⟩
    rw [← hn]
    have HNN := Lib.hid hn
    clear hn
    obtain ⟨ns, hns⟩ : ∃ n, n = e.set.length := ⟨_, rfl⟩
    rw [← hns]
    have HNS := Lib.hid hns
    clear hns
    obtain ⟨wB, hwB⟩ : ∃ wB, wB = w.alloc (.cells #[.int .i64 e.kind, .slice o1 ns q1, .slice o2 n q2] 25) := ⟨_, rfl⟩
    have HWB := Lib.hid (show Below w.heap.size w wB ∧ wB.cell? ⟨w.heap.size, 1, none⟩ = some (.slice o1 ns q1) ∧ wB.cell? ⟨w.heap.size, 2, none⟩ = some (.slice o2 n q2) by rw [hwB]; exact ⟨bel_new (Below.refl _ _) _, by simp [go_sem], by simp [go_sem]⟩)
    by_cases h1 : 16 < d
    · have d1 : decide ((16 : Int) < (d : Int)) = true := by simp; omega
      have d2 : decide (16 < d) = true := by simp; omega
      go_enter Tryz.func18, Tryz.ntmps18
      go_wp2_with fail
      go_ret
      exact ⟨⟨201, rfl, by omega, by omega, fun h => by omega⟩, by rw [← hwB]; exact HWB.out.1⟩
    have d1 : decide ((16 : Int) < (d : Int)) = false := by simp; omega
    have d2 : decide (16 < d) = false := by simp; omega
    have hdw : IntKind.i64.wrap ((d : Int) + 1) = (d : Int) + 1 := IntWalk.i64_in _ (by omega)
    by_cases h2 : 30 < ns
    · have d3 : decide ((30 : Int) < (ns : Int)) = true := by simp; omega
      have d4 : decide (30 < ns) = true := by simp; omega
      go_enter Tryz.func18, Tryz.ntmps18
      go_wp2_with fail
      go_ret
      exact ⟨⟨201, rfl, by omega, by omega, fun h => by omega⟩, by rw [← hwB]; exact HWB.out.1⟩
    have d3 : decide ((30 : Int) < (ns : Int)) = false := by simp; omega
    have d4 : decide (30 < ns) = false := by simp; omega
    have HH := Lib.hid (And.intro h1 h2)
    have hd0 : (0 : Int) ≤ (d : Int) := by omega
    have hd17 : (d : Int) ≤ 17 := by omega
    clear h1 h2 hd
    go_enter Tryz.func18, Tryz.ntmps18
    go_wp2_with fail
    rw [← hwB]
    clear hwB
    go_loopg [5, 6] n (fun g s5 s6 wx => ∃ k m : Nat, k + g = n ∧ s6 = .int .i64 (k : Int) ∧ s5 = .int .i64 (m : Int) ∧ k + 1 ≤ m ∧ m ≤ 401 ∧ (m ≤ 200 → m = 1 + RE.sizes (e.parts.take k) ∧ ∀ j p, j < k → e.parts[j]? = some p → p.Fit) ∧ Below w.heap.size w wx ∧ wx.cell? ⟨w.heap.size, 2, none⟩ = some (.slice o2 n q2))
    case atStart => exact ⟨0, 1, by omega, rfl, rfl, by omega, by omega, fun _ => ⟨by rw [List.take_zero, RE.sizes_nil], fun j p hj => by omega⟩, HWB.out.1, HWB.out.2.2⟩
    case round =>
      obtain ⟨k, m, hkg, rfl, rfl, hkm, hm4, hinv, hbel, e2⟩ := hrel
      have HINV := Lib.hid hinv
      have HBE := Lib.hid hbel
      clear hinv
      by_cases hk : k < n
      · have hx1 : decide ((k : Int) < (n : Int)) = true := by simp; omega
        have hx2 : decide (k < n) = true := by simpa using hk
        by_cases hm2 : m ≤ 200
        · have hx3 : decide ((m : Int) ≤ 200) = true := by simp; omega
          have hx4 : decide (m ≤ 200) = true := by simpa using hm2
          have hk1 : (0 : Int) ≤ (k : Int) := by omega
          have hk2 : (k : Int) < (n : Int) := by omega
          have hkw : IntKind.i64.wrap ((k : Int) + 1) = (k : Int) + 1 := IntWalk.i64_in _ (by omega)
          obtain ⟨p, hp⟩ : ∃ p, e.parts[k]? = some p := ⟨_, List.getElem?_eq_getElem (by have := HNN.out; omega)⟩
          obtain ⟨-, b0, off, rfl, hbl, k0, k1, k2⟩ := HALL.out k p hp
          have hbb := bel_then HB0.out hbel
          rw [← hbb.cell hbl] at k0 k1 k2
          have hcal := fun w' hb' => HIN.out k p w' (by have := HH.out.1; omega) hp hb'
          obtain ⟨x1, hx1'⟩ : ∃ x, x = c1 k := ⟨_, rfl⟩
          obtain ⟨x2, hx2'⟩ : ∃ x, x = c2 k := ⟨_, rfl⟩
          rw [← hx1', ← hx2'] at hcal
          rw [← hx1'] at k1
          rw [← hx2'] at k2
          have HCAL := Lib.hid hcal
          have HP := Lib.hid hp
          clear hcal hp hbb hx1' hx2' hbl hbel
          go_wp2_with fail
          refine (HCAL.out _ (by exact HBE.out)).mono ?_
          rintro x w3 ⟨⟨r, rfl, hr1, hr2, hr3⟩, hb3⟩
          have g2 := cell_later hb3 e2
          have HB3 := Lib.hid (bel_then HBE.out hb3)
          have HR3 := Lib.hid hr3
          have hwa : IntKind.i64.wrap ((m : Int) + (r : Int)) = ((m + r : Nat) : Int) := by rw [IntWalk.i64_in _ (by omega)]; omega
          obtain ⟨g, rfl⟩ : ∃ g, gk = g + 1 := ⟨gk - 1, by omega⟩
          clear hb3 e2 k0 k1 k2 hr3
          go_wp2_with fail
          go_roundg g
          case measure => omega
          case rel =>
            refine ⟨k + 1, m + r, by omega, by simp, by first | rfl | simp, by omega, by omega, fun h => ?_, HB3.out, g2⟩
            have h1 := HR3.out (by omega)
            have h2 := HINV.out (by omega)
            refine ⟨by rw [RE.take_snoc HP.out, RE.sizes_snoc]; omega, fun j q hj hq => ?_⟩
            rcases Nat.lt_or_ge j k with h3 | h3
            · exact h2.2 j q h3 hq
            · obtain rfl : j = k := by omega
              rw [HP.out] at hq; cases hq; exact h1.2
        · have hx3 : decide ((m : Int) ≤ 200) = false := by simp; omega
          have hx4 : decide (m ≤ 200) = false := by simpa using hm2
          clear hbel
          go_wp2_with fail
          all_goals go_ret
          all_goals first | exact ⟨⟨201, rfl, by omega, by omega, fun h => by omega⟩, HBE.out⟩ | exact ⟨⟨m, rfl, by omega, by omega, fun h => by omega⟩, HBE.out⟩
      · obtain rfl : k = n := by omega
        have hx1 : decide ((k : Int) < (k : Int)) = false := by simp
        have hx2 : decide (k < k) = false := by simp
        have HZ := Lib.hid (show (m ≤ 200 → m = e.size ∧ e.Fit) by
          intro h
          have h2 := HINV.out (by omega)
          have h3 : e.parts.take k = e.parts := List.take_of_length_le (by have := HNN.out; omega)
          rw [h3] at h2
          have h4 := HSZ.out
          have h5 := RE.len_sizes e.parts
          refine ⟨by omega, ?_⟩
          have h6 := HF.out
          have h7 := HNS.out
          have h8 := HH.out.2
          cases e with
          | mk k0 s l => exact .mk k0 s l h6.sets (by have : ns = s.length := h7; omega) (by have : (RE.mk k0 s l).parts = l := rfl; rw [this] at h5 h2; omega) (fun i p hp => h2.2 i p (by have := (List.getElem?_eq_some_iff.1 hp).1; have := HNN.out; have h9 : (RE.mk k0 s l).parts = l := rfl; rw [h9] at this; omega) hp))
        clear hbel
        go_wp2_with fail
        all_goals go_ret
        all_goals first | exact ⟨⟨201, rfl, by omega, by omega, fun h => by omega⟩, HBE.out⟩ | exact ⟨⟨m, rfl, by omega, by omega, HZ.out⟩, HBE.out⟩
set_option maxHeartbeats 4000000 in
set_option maxRecDepth 100000 in
/-- gobolaw6.Few -/
theorem few_any (e : RE) (sv lv : Value) (w : World) (hr : ReIs w e sv lv) (hf : e.Raw) :
    Calls Tryz.prog 6 #[.agg #[.int .i64 e.kind, sv, lv]] w fun x w' => (∃ b : Bool, x = .returned (.bool b) ∧ (b = true → e.size ≤ 200 ∧ e.Fit)) ∧ Below w.heap.size w w' := by
  obtain ⟨⟨o1, q1, rfl⟩, ⟨o2, q2, rfl⟩⟩ := hr.form
  have hc := fun w' hb => sz_all w e.size e _ _ 1 w' (Nat.le_refl _) hf hr hb (by omega)
  have HC := Lib.hid hc
  clear hc hr hf
  go_enter Tryz.func6, Tryz.ntmps6
  go_wp2_with fail
  refine (HC.out _ (bel_new (Below.refl _ _) _)).mono ?_
  rintro x w2 ⟨⟨r, rfl, hr1, hr2, hr3⟩, hb2⟩
  obtain ⟨b, hb⟩ : ∃ b, decide (r ≤ 200) = b := ⟨_, rfl⟩
  have hb9 : decide ((r : Int) ≤ 200) = b := by rw [← hb, decide_eq_decide]; omega
  have HX := Lib.hid (show (b = true → e.size ≤ 200 ∧ e.Fit) ∧ Below w.heap.size w w2 by
    refine ⟨fun h => ?_, bel_then (bel_new (Below.refl _ _) _) hb2⟩
    subst hb
    have := hr3 (by simpa using h)
    exact ⟨by have := of_decide_eq_true h; omega, this.2⟩)
  clear hr3 hb2
  go_wp2_with fail
  go_ret
  exact ⟨⟨b, rfl, HX.out.1⟩, HX.out.2⟩

def PzPost (e : PT) (x : Ending) : Prop := ∃ r : Nat, x = .returned (.int .i64 (r : Int)) ∧ 1 ≤ r ∧ r ≤ 201 ∧ (r ≤ 200 → r = e.size ∧ e.Fit)
def PzIh (w0 : World) (N : Nat) : Prop := ∀ (e : PT) (sv ev lv : Value) (d : Nat) (w : World), e.size ≤ N → PtIs w0 e sv ev lv → Below w0.heap.size w0 w → d ≤ 17 →
  Calls Tryz.prog 30 #[.agg #[.int .i64 e.kind, sv, ev, lv], .int .i64 (d : Int)] w fun x w' => PzPost e x ∧ Below w.heap.size w w'
set_option maxHeartbeats 8000000 in
set_option maxRecDepth 100000 in
theorem pz_all (w0 : World) : ∀ N, PzIh w0 N := by
  intro N
  induction N with
  | zero => intro e sv ev lv d w hs; have := e.size_pos; omega
  | succ N ih =>
    intro e sv ev lv d w hs hr hb0 hd
    obtain ⟨⟨o1, q1, rfl⟩, ⟨o3, q3, rfl⟩, -⟩ := hr.form
    obtain ⟨o2, q2, c1, c3, c2, rfl, hall⟩ := hr.all
    have HALL := Lib.hid hall
    have hin : ∀ (i : Nat) (p : PT) (w' : World), d ≤ 16 → e.parts[i]? = some p → Below w.heap.size w w' → Calls Tryz.prog 30 #[.agg #[.int .i64 p.kind, c1 i, c3 i, c2 i], .int .i64 ((d : Int) + 1)] w' fun x w'' => PzPost p x ∧ Below w'.heap.size w' w'' := by
      intro i p w' hd' hp hb
      exact ih p _ _ _ (d + 1) w' (by have := PT.size_part hp; omega) (hall i p hp).1 (bel_then hb0 hb) (by omega)
    have HIN := Lib.hid hin
    have HB0 := Lib.hid hb0
    have HSZ := Lib.hid (PT.size_sizes e)
    clear hall hin hr hb0 ih hs
    obtain ⟨n, hn⟩ : ∃ n, n = e.parts.length := ⟨_, rfl⟩
    rw [← hn]
    have HNN := Lib.hid hn
    clear hn
    obtain ⟨ns, hns⟩ : ∃ n, n = e.names.length := ⟨_, rfl⟩
    rw [← hns]
    obtain ⟨ne, hne⟩ : ∃ n, n = e.ends.length := ⟨_, rfl⟩
    rw [← hne]
    have HNS := Lib.hid (And.intro hns hne)
    clear hns hne
    obtain ⟨wB, hwB⟩ : ∃ wB, wB = w.alloc (.cells #[.int .i64 e.kind, .slice o1 ns q1, .slice o3 ne q3, .slice o2 n q2] 47) := ⟨_, rfl⟩
    have HWB := Lib.hid (show Below w.heap.size w wB ∧ wB.cell? ⟨w.heap.size, 1, none⟩ = some (.slice o1 ns q1) ∧ wB.cell? ⟨w.heap.size, 3, none⟩ = some (.slice o2 n q2) by rw [hwB]; exact ⟨bel_new (Below.refl _ _) _, by simp [go_sem], by simp [go_sem]⟩)
    by_cases h1 : 16 < d
    · have d1 : decide ((16 : Int) < (d : Int)) = true := by simp; omega
      have d2 : decide (16 < d) = true := by simp; omega
      go_enter Tryz.func30, Tryz.ntmps30
      go_wp2_with fail
      go_ret
      exact ⟨⟨201, rfl, by omega, by omega, fun h => by omega⟩, by rw [← hwB]; exact HWB.out.1⟩
    have d1 : decide ((16 : Int) < (d : Int)) = false := by simp; omega
    have d2 : decide (16 < d) = false := by simp; omega
    have hdw : IntKind.i64.wrap ((d : Int) + 1) = (d : Int) + 1 := IntWalk.i64_in _ (by omega)
    by_cases h2 : 20 < ns
    · have d3 : decide ((20 : Int) < (ns : Int)) = true := by simp; omega
      have d4 : decide (20 < ns) = true := by simp; omega
      go_enter Tryz.func30, Tryz.ntmps30
      go_wp2_with fail
      go_ret
      exact ⟨⟨201, rfl, by omega, by omega, fun h => by omega⟩, by rw [← hwB]; exact HWB.out.1⟩
    have d3 : decide ((20 : Int) < (ns : Int)) = false := by simp; omega
    have d4 : decide (20 < ns) = false := by simp; omega
    by_cases h3 : 20 < ne
    · have d5 : decide ((20 : Int) < (ne : Int)) = true := by simp; omega
      have d6 : decide (20 < ne) = true := by simp; omega
      go_enter Tryz.func30, Tryz.ntmps30
      go_wp2_with fail
      go_ret
      exact ⟨⟨201, rfl, by omega, by omega, fun h => by omega⟩, by rw [← hwB]; exact HWB.out.1⟩
    have d5 : decide ((20 : Int) < (ne : Int)) = false := by simp; omega
    have d6 : decide (20 < ne) = false := by simp; omega
    have HH := Lib.hid (And.intro h1 (And.intro h2 h3))
    have hd0 : (0 : Int) ≤ (d : Int) := by omega
    have hd17 : (d : Int) ≤ 17 := by omega
    clear h1 h2 h3 hd
    go_enter Tryz.func30, Tryz.ntmps30
    go_wp2_with fail
    rw [← hwB]
    clear hwB
    go_loopg [5, 6] n (fun g s5 s6 wx => ∃ k m : Nat, k + g = n ∧ s6 = .int .i64 (k : Int) ∧ s5 = .int .i64 (m : Int) ∧ k + 1 ≤ m ∧ m ≤ 401 ∧ (m ≤ 200 → m = 1 + PT.sizes (e.parts.take k) ∧ ∀ j p, j < k → e.parts[j]? = some p → p.Fit) ∧ Below w.heap.size w wx ∧ wx.cell? ⟨w.heap.size, 3, none⟩ = some (.slice o2 n q2))
    case atStart => exact ⟨0, 1, by omega, rfl, rfl, by omega, by omega, fun _ => ⟨by rw [List.take_zero, PT.sizes_nil], fun j p hj => by omega⟩, HWB.out.1, HWB.out.2.2⟩
    case round =>
      obtain ⟨k, m, hkg, rfl, rfl, hkm, hm4, hinv, hbel, e2⟩ := hrel
      have HINV := Lib.hid hinv
      have HBE := Lib.hid hbel
      clear hinv
      by_cases hk : k < n
      · have hx1 : decide ((k : Int) < (n : Int)) = true := by simp; omega
        have hx2 : decide (k < n) = true := by simpa using hk
        by_cases hm2 : m ≤ 200
        · have hx3 : decide ((m : Int) ≤ 200) = true := by simp; omega
          have hx4 : decide (m ≤ 200) = true := by simpa using hm2
          have hk1 : (0 : Int) ≤ (k : Int) := by omega
          have hk2 : (k : Int) < (n : Int) := by omega
          have hkw : IntKind.i64.wrap ((k : Int) + 1) = (k : Int) + 1 := IntWalk.i64_in _ (by omega)
          obtain ⟨p, hp⟩ : ∃ p, e.parts[k]? = some p := ⟨_, List.getElem?_eq_getElem (by have := HNN.out; omega)⟩
          obtain ⟨-, b0, off, rfl, hbl, k0, k1, k3, k2⟩ := HALL.out k p hp
          have hbb := bel_then HB0.out hbel
          rw [← hbb.cell hbl] at k0 k1 k2 k3
          have hcal := fun w' hb' => HIN.out k p w' (by have := HH.out.1; omega) hp hb'
          obtain ⟨x1, hx1'⟩ : ∃ x, x = c1 k := ⟨_, rfl⟩
          obtain ⟨x2, hx2'⟩ : ∃ x, x = c2 k := ⟨_, rfl⟩
          obtain ⟨x3, hx3'⟩ : ∃ x, x = c3 k := ⟨_, rfl⟩
          rw [← hx1', ← hx2', ← hx3'] at hcal
          rw [← hx3'] at k3
          rw [← hx1'] at k1
          rw [← hx2'] at k2
          have HCAL := Lib.hid hcal
          have HP := Lib.hid hp
          clear hcal hp hbb hx1' hx2' hx3' hbl hbel
          go_wp2_with fail
          refine (HCAL.out _ (by exact HBE.out)).mono ?_
          rintro x w3 ⟨⟨r, rfl, hr1, hr2, hr3⟩, hb3⟩
          have g2 := cell_later hb3 e2
          have HB3 := Lib.hid (bel_then HBE.out hb3)
          have HR3 := Lib.hid hr3
          have hwa : IntKind.i64.wrap ((m : Int) + (r : Int)) = ((m + r : Nat) : Int) := by rw [IntWalk.i64_in _ (by omega)]; omega
          obtain ⟨g, rfl⟩ : ∃ g, gk = g + 1 := ⟨gk - 1, by omega⟩
          clear hb3 e2 k0 k1 k2 k3 hr3
          go_wp2_with fail
          go_roundg g
          case measure => omega
          case rel =>
            refine ⟨k + 1, m + r, by omega, by simp, by first | rfl | simp, by omega, by omega, fun h => ?_, HB3.out, g2⟩
            have h1 := HR3.out (by omega)
            have h2 := HINV.out (by omega)
            refine ⟨by rw [PT.take_snoc HP.out, PT.sizes_snoc]; omega, fun j q hj hq => ?_⟩
            rcases Nat.lt_or_ge j k with h3 | h3
            · exact h2.2 j q h3 hq
            · obtain rfl : j = k := by omega
              rw [HP.out] at hq; cases hq; exact h1.2
        · have hx3 : decide ((m : Int) ≤ 200) = false := by simp; omega
          have hx4 : decide (m ≤ 200) = false := by simpa using hm2
          clear hbel
          go_wp2_with fail
          all_goals go_ret
          all_goals first | exact ⟨⟨201, rfl, by omega, by omega, fun h => by omega⟩, HBE.out⟩ | exact ⟨⟨m, rfl, by omega, by omega, fun h => by omega⟩, HBE.out⟩
      · obtain rfl : k = n := by omega
        have hx1 : decide ((k : Int) < (k : Int)) = false := by simp
        have hx2 : decide (k < k) = false := by simp
        have HZ := Lib.hid (show (m ≤ 200 → m = e.size ∧ e.Fit) by
          intro h
          have h2 := HINV.out (by omega)
          have h3 : e.parts.take k = e.parts := List.take_of_length_le (by have := HNN.out; omega)
          rw [h3] at h2
          have h4 := HSZ.out
          have h5 := PT.len_sizes e.parts
          refine ⟨by omega, ?_⟩
          have h7 := HNS.out
          have h8 := HH.out.2
          cases e with
          | mk k0 s t l => exact .mk k0 s t l (by have : ns = s.length := h7.1; omega) (by have : ne = t.length := h7.2; omega) (by have : (PT.mk k0 s t l).parts = l := rfl; rw [this] at h5 h2; omega) (fun i p hp => h2.2 i p (by have := (List.getElem?_eq_some_iff.1 hp).1; have := HNN.out; have h9 : (PT.mk k0 s t l).parts = l := rfl; rw [h9] at this; omega) hp))
        clear hbel
        go_wp2_with fail
        all_goals go_ret
        all_goals first | exact ⟨⟨201, rfl, by omega, by omega, fun h => by omega⟩, HBE.out⟩ | exact ⟨⟨m, rfl, by omega, by omega, HZ.out⟩, HBE.out⟩
end Go.Proofs.YtbanmggkfpnalaaGreatDoor
