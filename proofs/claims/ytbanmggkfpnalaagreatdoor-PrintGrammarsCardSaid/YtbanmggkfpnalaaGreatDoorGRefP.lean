/- The document's patterns: goboref11.texts, SamePat, Empty, CountPat. -/
import Derived.Test.YtbanmggkfpnalaaGreatDoorPtCount
import Derived.Test.YtbanmggkfpnalaaGreatDoorPtEmpty
import Derived.Test.YtbanmggkfpnalaaGreatDoorPtSame
import Derived.Deep.RegionHeld3
import Derived.Deep.DeepCutAuto
set_option linter.unusedVariables false
set_option linter.unusedSimpArgs false
namespace Go.Proofs.YtbanmggkfpnalaaGreatDoor
open Go.RowKit Ru

namespace PT
end PT
namespace PT
mutual
def dep : PT → Nat
  | .mk _ _ _ l => deps l + 1
def deps : List PT → Nat
  | [] => 0
  | e :: l => max (dep e) (deps l)
end
theorem dep_eq (e : PT) : e.dep = deps e.parts + 1 := by cases e; rw [dep]; rfl
theorem deps_snoc : ∀ (l : List PT) (e : PT), deps (l ++ [e]) = max (deps l) e.dep := by
  intro l
  induction l with
  | nil => intro e; rw [List.nil_append, deps, deps]; simp [deps]
  | cons a l ih => intro e; rw [List.cons_append, deps, ih, deps]; omega
theorem sizes_snoc : ∀ (l : List PT) (e : PT), sizes (l ++ [e]) = sizes l + e.size := by
  intro l
  induction l with
  | nil => intro e; rw [List.nil_append, sizes_cons, sizes_nil]; omega
  | cons a l ih => intro e; rw [List.cons_append, sizes_cons, ih, sizes_cons]; omega
theorem sizes_take : ∀ (l : List PT) (k : Nat), sizes (l.take k) ≤ sizes l := by
  intro l
  induction l with
  | nil => intro k; simp
  | cons a l ih =>
    intro k
    cases k with
    | zero => rw [List.take_zero, sizes_nil]; omega
    | succ k => rw [List.take_succ_cons, sizes_cons, sizes_cons]; have := ih k; omega
theorem dep_le : ∀ (N : Nat) (e : PT), e.size ≤ N → e.dep ≤ e.size := by
  intro N
  induction N with
  | zero => intro e h; have := e.size_pos; omega
  | succ N ih =>
    have all : ∀ l : List PT, sizes l ≤ N → deps l ≤ sizes l := by
      intro l
      induction l with
      | nil => intro _; rw [deps]; omega
      | cons a l ihl => intro h; rw [sizes_cons] at h ⊢; rw [deps]; have := ih a (by omega); have := ihl (by omega); omega
    intro e h
    rw [size_sizes] at h ⊢
    rw [dep_eq]
    have := all e.parts (by omega)
    omega
theorem take_snoc {l : List PT} {k : Nat} {p : PT} (h : l[k]? = some p) : l.take (k + 1) = l.take k ++ [p] := by rw [List.take_add_one, h]; rfl
end PT
def RCntIh (w0 : World) (N : Nat) : Prop := ∀ (e : PT) (nv ev lv : Value) (w : World), e.size ≤ N → e.size ≤ 1000 → e.Fit → PtIs w0 e nv ev lv → Below w0.heap.size w0 w →
  Calls Tryz.prog 110 #[.agg #[.int .i64 e.kind, nv, ev, lv]] w fun x w' => x = .returned (.tuple #[.int .i64 (e.size : Nat), .int .i64 (e.dep : Nat)]) ∧ Below w.heap.size w w'
set_option maxHeartbeats 8000000 in
set_option maxRecDepth 100000 in
theorem rcnt_all (w0 : World) : ∀ N, RCntIh w0 N := by
  intro N
  induction N with
  | zero => intro e nv ev lv w hs; have := e.size_pos; omega
  | succ N ih =>
    intro e nv ev lv w hs hs9 hf hr hb0
    obtain ⟨⟨o1, q1, rfl⟩, ⟨o3, q3, rfl⟩, -⟩ := hr.form
    obtain ⟨o2, q2, c1, c3, c2, rfl, hall⟩ := hr.all
    have hm1 := hf.lens
    have HALL := Lib.hid hall
    have hin : ∀ (i : Nat) (p : PT) (w' : World), e.parts[i]? = some p → Below w.heap.size w w' → Calls Tryz.prog 110 #[.agg #[.int .i64 p.kind, c1 i, c3 i, c2 i]] w' fun x w'' => x = .returned (.tuple #[.int .i64 (p.size : Nat), .int .i64 (p.dep : Nat)]) ∧ Below w'.heap.size w' w'' := by
      intro i p w' hp hb
      exact ih p _ _ _ w' (by have := PT.size_part hp; omega) (by have := PT.size_part hp; omega) (hf.part hp) (hall i p hp).1 (bel_then hb0 hb)
    have HIN := Lib.hid hin
    have HB0 := Lib.hid hb0
    have HSZ := Lib.hid (And.intro (PT.size_sizes e) (And.intro (PT.dep_eq e) (And.intro hs9 (PT.dep_le e.size e (Nat.le_refl _)))))
    clear hall hin hr hb0 ih hs hs9
    obtain ⟨n, hn⟩ : ∃ n, n = e.parts.length := ⟨_, rfl⟩
    rw [← hn]
    have HNN := Lib.hid hn
    have hn9 : n ≤ 1000 := by omega
    clear hn hm1
    go_enter Tryz.func110, Tryz.ntmps110
    go_wp2_with fail
    obtain ⟨wB, hwB⟩ : ∃ wB, wB = w.alloc (.cells #[.int .i64 e.kind, .slice o1 e.names.length q1, .slice o3 e.ends.length q3, .slice o2 n q2] 47) := ⟨_, rfl⟩
    rw [← hwB]
    have HWB := Lib.hid (show Below w.heap.size w wB ∧ wB.cell? ⟨w.heap.size, 3, none⟩ = some (.slice o2 n q2) by rw [hwB]; exact ⟨bel_new (Below.refl _ _) _, by simp [go_sem]⟩)
    clear hwB
    go_loopg [4, 5, 6] n (fun g s4 s5 s6 wx => ∃ k : Nat, k + g = n ∧ s6 = .int .i64 (k : Int) ∧ s4 = .int .i64 ((1 + PT.sizes (e.parts.take k) : Nat) : Int) ∧ s5 = .int .i64 ((PT.deps (e.parts.take k) : Nat) : Int) ∧ Below w.heap.size w wx ∧ wx.cell? ⟨w.heap.size, 3, none⟩ = some (.slice o2 n q2))
    case atStart => exact ⟨0, by omega, rfl, by rw [List.take_zero, PT.sizes_nil]; rfl, by rw [List.take_zero, PT.deps]; rfl, HWB.out.1, HWB.out.2⟩
    case round =>
      obtain ⟨k, hkg, rfl, rfl, rfl, hbel, e2⟩ := hrel
      obtain ⟨m, hm⟩ : ∃ m, m = 1 + PT.sizes (e.parts.take k) := ⟨_, rfl⟩
      obtain ⟨d, hd⟩ : ∃ d, d = PT.deps (e.parts.take k) := ⟨_, rfl⟩
      rw [← hm, ← hd]
      have hm9 : m ≤ 1000 := by have := PT.sizes_take e.parts k; have := HSZ.out.1; have := HSZ.out.2.2.1; omega
      have HM := Lib.hid (And.intro hm hd)
      have HBE := Lib.hid hbel
      clear hm hd
      cases gk with
      | zero =>
        obtain rfl : k = n := by omega
        have hx1 : decide ((k : Int) < (k : Int)) = false := by simp
        have hx2 : decide (k < k) = false := by simp
        have hd9 : d + 1 = e.dep ∧ m = e.size := by
          have h1 := HM.out
          have h2 : e.parts.take k = e.parts := List.take_of_length_le (by have := HNN.out; omega)
          rw [h2] at h1
          have := HSZ.out.1; have := HSZ.out.2.1
          exact ⟨by omega, by omega⟩
        have hdn : d ≤ 1000 := by have := HSZ.out.2.2; omega
        have hw : IntKind.i64.wrap ((d : Int) + 1) = (d : Int) + 1 := IntWalk.i64_in _ (by omega)
        have HD := Lib.hid hd9
        clear hd9 hbel
        go_wp2_with fail
        go_ret2
        exact ⟨by rw [← HD.out.1, ← HD.out.2]; rfl, HBE.out⟩
      | succ g =>
        have hk : k < n := by omega
        have hx1 : decide ((k : Int) < (n : Int)) = true := by simp; omega
        have hx2 : decide (k < n) = true := by simpa using hk
        have hx3 : decide ((m : Int) < 2000) = true := by simp; omega
        have hx4 : decide (m < 2000) = true := by simp; omega
        have hk1 : (0 : Int) ≤ (k : Int) := by omega
        have hk2 : (k : Int) < (n : Int) := by omega
        obtain ⟨p, hp⟩ : ∃ p, e.parts[k]? = some p := ⟨_, List.getElem?_eq_getElem (by have := HNN.out; omega)⟩
        obtain ⟨-, b0, off, rfl, hbl, k0, k1, k3, k2⟩ := HALL.out k p hp
        have hbb := bel_then HB0.out hbel
        rw [← hbb.cell hbl] at k0 k1 k3 k2
        have hcal := fun w' hb' => HIN.out k p w' hp hb'
        obtain ⟨x1, hx1'⟩ : ∃ x, x = c1 k := ⟨_, rfl⟩
        obtain ⟨x3, hx3'⟩ : ∃ x, x = c3 k := ⟨_, rfl⟩
        obtain ⟨x2, hx2'⟩ : ∃ x, x = c2 k := ⟨_, rfl⟩
        rw [← hx1', ← hx2', ← hx3'] at hcal
        rw [← hx1'] at k1
        rw [← hx3'] at k3
        rw [← hx2'] at k2
        have HCAL := Lib.hid hcal
        have HP := Lib.hid hp
        have hpz : p.size ≤ 1000 ∧ p.dep ≤ 1000 ∧ m + p.size ≤ 1000 ∧ d ≤ 1000 := by
          have h1 := PT.sizes_take e.parts (k + 1)
          rw [PT.take_snoc hp, PT.sizes_snoc] at h1
          have h2 := HSZ.out; have h3 := HM.out
          have h4 := PT.dep_le p.size p (Nat.le_refl _)
          have h5 : d ≤ e.dep := by
            have : ∀ (l : List PT) (j : Nat), PT.deps (l.take j) ≤ PT.deps l := by
              intro l
              induction l with
              | nil => intro j; simp
              | cons a l ih =>
                intro j
                cases j with
                | zero => rw [List.take_zero, PT.deps]; omega
                | succ j => rw [List.take_succ_cons, PT.deps, PT.deps]; have := ih j; omega
            have := this e.parts k
            omega
          refine ⟨by omega, by omega, by omega, by omega⟩
        obtain ⟨ps, hps⟩ : ∃ z, z = p.size := ⟨_, rfl⟩
        obtain ⟨pd, hpd⟩ : ∃ z, z = p.dep := ⟨_, rfl⟩
        rw [← hps, ← hpd] at hpz
        have HPZ := Lib.hid (And.intro hps hpd)
        obtain ⟨z1, z2, z3, z4⟩ := hpz
        clear hcal hp hbb hx1' hx2' hx3' hbl hbel hps hpd
        go_wp2_with fail
        refine (HCAL.out _ (by exact HBE.out)).mono ?_
        rintro x w3 ⟨rfl, hb3⟩
        rw [← HPZ.out.1, ← HPZ.out.2]
        have g2 := cell_later hb3 e2
        have HB3 := Lib.hid (bel_then HBE.out hb3)
        have hwa : IntKind.i64.wrap ((m : Int) + (ps : Int)) = ((m + ps : Nat) : Int) := by rw [IntWalk.i64_in _ (by omega)]; omega
        clear hb3 e2 k0 k1 k2 k3
        rcases Nat.lt_or_ge d pd with hdp | hdp
        · have hmx : max (d : Int) (pd : Int) = (pd : Int) := by omega
          go_wp2_with fail
          go_roundg g
          case measure => omega
          case rel =>
            refine ⟨k + 1, by omega, by simp, ?_, ?_, HB3.out, g2⟩
            · rw [PT.take_snoc HP.out, PT.sizes_snoc]; have := HM.out.1; have := HPZ.out.1; first | (congr 1; omega) | (simp; omega)
            · rw [PT.take_snoc HP.out, PT.deps_snoc]; have := HM.out.2; have := HPZ.out.2; first | (congr 1; omega) | (simp; omega)
        · have hmx : max (d : Int) (pd : Int) = (d : Int) := by omega
          go_wp2_with fail
          go_roundg g
          case measure => omega
          case rel =>
            refine ⟨k + 1, by omega, by simp, ?_, ?_, HB3.out, g2⟩
            · rw [PT.take_snoc HP.out, PT.sizes_snoc]; have := HM.out.1; have := HPZ.out.1; first | (congr 1; omega) | (simp; omega)
            · rw [PT.take_snoc HP.out, PT.deps_snoc]; have := HM.out.2; have := HPZ.out.2; first | (congr 1; omega) | (simp; omega)
end Go.Proofs.YtbanmggkfpnalaaGreatDoor
