/- The document's expressions: goboref6.count, Count, parts, May. -/
import Derived.Test.YtmgfpcblbbpahaaGreatGFew
import Derived.Test.YtmgfpcblbbpahaaGreatRefSetsG
set_option linter.unusedVariables false
set_option linter.unusedSimpArgs false
namespace Go.Proofs.YtmgfpcblbbpahaaGreat
open Go.RowKit Ru

namespace RE
mutual
def dep : RE → Nat
  | .mk _ _ l => deps l + 1
def deps : List RE → Nat
  | [] => 0
  | e :: l => max (dep e) (deps l)
end
theorem dep_eq (e : RE) : e.dep = deps e.parts + 1 := by cases e; rw [dep]; rfl
theorem deps_snoc : ∀ (l : List RE) (e : RE), deps (l ++ [e]) = max (deps l) e.dep := by
  intro l
  induction l with
  | nil => intro e; rw [List.nil_append, deps, deps]; simp [deps]
  | cons a l ih => intro e; rw [List.cons_append, deps, ih, deps]; omega
theorem sizes_take : ∀ (l : List RE) (k : Nat), sizes (l.take k) ≤ sizes l := by
  intro l
  induction l with
  | nil => intro k; simp
  | cons a l ih =>
    intro k
    cases k with
    | zero => rw [List.take_zero, sizes_nil]; omega
    | succ k => rw [List.take_succ_cons, sizes_cons, sizes_cons]; have := ih k; omega
theorem dep_le : ∀ (N : Nat) (e : RE), e.size ≤ N → e.dep ≤ e.size := by
  intro N
  induction N with
  | zero => intro e h; have := e.size_pos; omega
  | succ N ih =>
    have all : ∀ l : List RE, sizes l ≤ N → deps l ≤ sizes l := by
      intro l
      induction l with
      | nil => intro _; rw [deps]; omega
      | cons a l ihl => intro h; rw [sizes_cons] at h ⊢; rw [deps]; have := ih a (by omega); have := ihl (by omega); omega
    intro e h
    rw [size_sizes] at h ⊢
    rw [dep_eq]
    have := all e.parts (by omega)
    omega
theorem deps_cons (e : RE) (l : List RE) : deps (e :: l) = max e.dep (deps l) := by rw [deps]
theorem deps_nil0 : deps [] = 0 := by rw [deps]
mutual
/-- each node has what its kind has -/
def prt : RE → Bool
  | .mk k s l => shp (.mk k s l) && prtL l
def prtL : List RE → Bool
  | [] => true
  | e :: l => prt e && prtL l
end
theorem prt_eq (e : RE) : e.prt = (e.shp && prtL e.parts) := by cases e; rw [prt]; rfl
theorem prtL_cons (e : RE) (l : List RE) : prtL (e :: l) = (e.prt && prtL l) := by rw [prtL]
theorem prtL_nil : prtL [] = true := by rw [prtL]
theorem vis_both : ∀ (N : Nat) (e : RE), e.size ≤ N → ∀ n d, ((e.vis n d).1 = true ↔ n + e.size ≤ 60 ∧ e.dep + d ≤ 13 ∧ e.prt = true) ∧ ((e.vis n d).1 = true → (e.vis n d).2 = n + e.size) := by
  intro N
  induction N with
  | zero => intro e h; have := e.size_pos; omega
  | succ N ih =>
    have all : ∀ (l : List RE) (n d : Nat), sizes l ≤ N → n ≤ 60 → d ≤ 13 → ((visL l n d).1 = true ↔ n + sizes l ≤ 60 ∧ deps l + d ≤ 13 ∧ prtL l = true) ∧ ((visL l n d).1 = true → (visL l n d).2 = n + sizes l) := by
      intro l
      induction l with
      | nil => intro n d _ hn hd; rw [visL_nil, sizes_nil, deps_nil0, prtL_nil]; exact ⟨⟨fun _ => ⟨by omega, by omega, rfl⟩, fun _ => rfl⟩, fun _ => rfl⟩
      | cons a l ihl =>
        intro n d hl hn hd
        rw [sizes_cons] at hl
        obtain ⟨i1, i2⟩ := ih a (by omega) n d
        rw [visL_cons, sizes_cons, deps_cons, prtL_cons, Bool.and_eq_true]
        by_cases h1 : (a.vis n d).1 = true
        · rw [if_pos h1, i2 h1]
          have h2 := i1.1 h1
          obtain ⟨j1, j2⟩ := ihl (n + a.size) d (by omega) h2.1 hd
          refine ⟨j1.trans ⟨fun h => ⟨by omega, by omega, h2.2.2, h.2.2⟩, fun h => ⟨by omega, by omega, h.2.2.2⟩⟩, fun h => by rw [j2 h]; omega⟩
        · rw [if_neg h1]
          refine ⟨⟨fun h => (by cases h), fun h => absurd (i1.2 ⟨by omega, by omega, h.2.2.1⟩) h1⟩, fun h => by cases h⟩
    intro e hs n d
    have hz := size_sizes e
    have hp := e.size_pos
    have hdp := dep_eq e
    rw [vis_eq, prt_eq, Bool.and_eq_true]
    by_cases hc : 60 < n + 1 ∨ 12 < d ∨ shp e = false
    · rw [if_pos hc]
      refine ⟨⟨fun h => (by cases h), fun h => ?_⟩, fun h => by cases h⟩
      rcases hc with hc | hc | hc
      · omega
      · omega
      · rw [hc] at h; exact absurd h.2.2.1 (by decide)
    · rw [if_neg hc]
      obtain ⟨j1, j2⟩ := all e.parts (n + 1) (d + 1) (by omega) (by omega) (by omega)
      have hsh : shp e = true := by
        cases h : shp e with
        | true => rfl
        | false => exact absurd (.inr (.inr h)) hc
      exact ⟨j1.trans ⟨fun h => ⟨by omega, by omega, hsh, h.2.2⟩, fun h => ⟨by omega, by omega, h.2.2.2⟩⟩, fun h => by rw [j2 h]; omega⟩
theorem may_iff (e : RE) : e.may = true ↔ e.size ≤ 60 ∧ e.dep ≤ 12 ∧ e.prt = true := by
  unfold may
  have := (vis_both e.size e (Nat.le_refl _) 0 1).1
  exact this.trans ⟨fun h => ⟨by omega, by omega, h.2.2⟩, fun h => ⟨by omega, by omega, h.2.2⟩⟩
theorem may_dec (e : RE) : e.may = (decide (e.size ≤ 60) && (decide (e.dep ≤ 12) && e.prt)) := by
  rw [Bool.eq_iff_iff, may_iff]
  simp
end RE
def ECntIh (w0 : World) (N : Nat) : Prop := ∀ (e : RE) (nv lv : Value) (w : World), e.size ≤ N → e.size ≤ 1000 → e.Fit → ReIs w0 e nv lv → Below w0.heap.size w0 w →
  Calls Tryz.prog 97 #[.agg #[.int .i64 e.kind, nv, lv], .int .i64 0] w fun x w' => x = .returned (.tuple #[.int .i64 (e.size : Nat), .int .i64 (e.dep : Nat)]) ∧ Below w.heap.size w w'
set_option maxHeartbeats 8000000 in
set_option maxRecDepth 100000 in
theorem ecnt_all (w0 : World) : ∀ N, ECntIh w0 N := by
  intro N
  induction N with
  | zero => intro e nv lv w hs; have := e.size_pos; omega
  | succ N ih =>
    intro e nv lv w hs hs9 hf hr hb0
    obtain ⟨⟨o1, q1, rfl⟩, -⟩ := hr.form
    obtain ⟨o2, q2, c1, c2, rfl, hall⟩ := hr.all
    have hm1 := hf.sets
    have HALL := Lib.hid hall
    have hin : ∀ (i : Nat) (p : RE) (w' : World), e.parts[i]? = some p → Below w.heap.size w w' → Calls Tryz.prog 97 #[.agg #[.int .i64 p.kind, c1 i, c2 i], .int .i64 0] w' fun x w'' => x = .returned (.tuple #[.int .i64 (p.size : Nat), .int .i64 (p.dep : Nat)]) ∧ Below w'.heap.size w' w'' := by
      intro i p w' hp hb
      exact ih p _ _ w' (by have := RE.size_part hp; omega) (by have := RE.size_part hp; omega) (hf.part hp) (hall i p hp).1 (bel_then hb0 hb)
    have HIN := Lib.hid hin
    have HB0 := Lib.hid hb0
    have HSZ := Lib.hid (And.intro (RE.size_sizes e) (And.intro (RE.dep_eq e) (And.intro hs9 (RE.dep_le e.size e (Nat.le_refl _)))))
    clear hall hin hr hb0 ih hs hs9
    obtain ⟨n, hn⟩ : ∃ n, n = e.parts.length := ⟨_, rfl⟩
    rw [← hn]
    have HNN := Lib.hid hn
    have hn9 : n ≤ 1000 := by omega
    clear hn hm1
    go_enter Tryz.func97, Tryz.ntmps97
    go_wp2_with fail
    obtain ⟨wB, hwB⟩ : ∃ wB, wB = w.alloc (.cells #[.int .i64 e.kind, .slice o1 e.set.length q1, .slice o2 n q2] 41) := ⟨_, rfl⟩
    rw [← hwB]
    have HWB := Lib.hid (show Below w.heap.size w wB ∧ wB.cell? ⟨w.heap.size, 2, none⟩ = some (.slice o2 n q2) by rw [hwB]; exact ⟨bel_new (Below.refl _ _) _, by simp [go_sem]⟩)
    clear hwB
    go_loopg [1, 6, 7] n (fun g s4 s5 s6 wx => ∃ k : Nat, k + g = n ∧ s6 = .int .i64 (k : Int) ∧ s4 = .int .i64 ((1 + RE.sizes (e.parts.take k) : Nat) : Int) ∧ s5 = .int .i64 ((RE.deps (e.parts.take k) : Nat) : Int) ∧ Below w.heap.size w wx ∧ wx.cell? ⟨w.heap.size, 2, none⟩ = some (.slice o2 n q2))
    case atStart => exact ⟨0, by omega, rfl, by rw [List.take_zero, RE.sizes_nil]; rfl, by rw [List.take_zero, RE.deps]; rfl, HWB.out.1, HWB.out.2⟩
    case round =>
      obtain ⟨k, hkg, rfl, rfl, rfl, hbel, e2⟩ := hrel
      obtain ⟨m, hm⟩ : ∃ m, m = 1 + RE.sizes (e.parts.take k) := ⟨_, rfl⟩
      obtain ⟨d, hd⟩ : ∃ d, d = RE.deps (e.parts.take k) := ⟨_, rfl⟩
      rw [← hm, ← hd]
      have hm9 : m ≤ 1000 := by have := RE.sizes_take e.parts k; have := HSZ.out.1; have := HSZ.out.2.2.1; omega
      have HM := Lib.hid (And.intro hm hd)
      have HBE := Lib.hid hbel
      clear hm hd
      cases gk with
      | zero =>
        obtain rfl : k = n := by omega
        have hx1 : decide ((k : Int) < (k : Int)) = false := by simp
        have hx2 : decide (k < k) = false := by simp
        have hd9 : d + 1 = e.dep ∧ m = e.size := by
          have h1 := HM.out
          have h2 : e.parts.take k = e.parts := List.take_of_length_le (by have := HNN.out; omega)
          rw [h2] at h1
          have := HSZ.out.1; have := HSZ.out.2.1
          exact ⟨by omega, by omega⟩
        have hdn : d ≤ 1000 := by have := HSZ.out.2.2; omega
        have hw : IntKind.i64.wrap ((d : Int) + 1) = (d : Int) + 1 := IntWalk.i64_in _ (by omega)
        have HD := Lib.hid hd9
        clear hd9 hbel
        go_wp2_with fail
        go_ret2
        exact ⟨by rw [← HD.out.1, ← HD.out.2]; rfl, HBE.out⟩
      | succ g =>
        have hk : k < n := by omega
        have hx1 : decide ((k : Int) < (n : Int)) = true := by simp; omega
        have hx2 : decide (k < n) = true := by simpa using hk
        have hx3 : decide ((m : Int) < 2000) = true := by simp; omega
        have hx4 : decide (m < 2000) = true := by simp; omega
        have hk1 : (0 : Int) ≤ (k : Int) := by omega
        have hk2 : (k : Int) < (n : Int) := by omega
        obtain ⟨p, hp⟩ : ∃ p, e.parts[k]? = some p := ⟨_, List.getElem?_eq_getElem (by have := HNN.out; omega)⟩
        obtain ⟨-, b0, off, rfl, hbl, k0, k1, k2⟩ := HALL.out k p hp
        have hbb := bel_then HB0.out hbel
        rw [← hbb.cell hbl] at k0 k1 k2
        have hcal := fun w' hb' => HIN.out k p w' hp hb'
        obtain ⟨x1, hx1'⟩ : ∃ x, x = c1 k := ⟨_, rfl⟩
        obtain ⟨x2, hx2'⟩ : ∃ x, x = c2 k := ⟨_, rfl⟩
        rw [← hx1', ← hx2'] at hcal
        rw [← hx1'] at k1
        rw [← hx2'] at k2
        have HCAL := Lib.hid hcal
        have HP := Lib.hid hp
        have hpz : p.size ≤ 1000 ∧ p.dep ≤ 1000 ∧ m + p.size ≤ 1000 ∧ d ≤ 1000 := by
          have h1 := RE.sizes_take e.parts (k + 1)
          rw [RE.take_snoc hp, RE.sizes_snoc] at h1
          have h2 := HSZ.out; have h3 := HM.out
          have h4 := RE.dep_le p.size p (Nat.le_refl _)
          have h5 : d ≤ e.dep := by
            have : ∀ (l : List RE) (j : Nat), RE.deps (l.take j) ≤ RE.deps l := by
              intro l
              induction l with
              | nil => intro j; simp
              | cons a l ih =>
                intro j
                cases j with
                | zero => rw [List.take_zero, RE.deps]; omega
                | succ j => rw [List.take_succ_cons, RE.deps, RE.deps]; have := ih j; omega
            have := this e.parts k
            omega
          refine ⟨by omega, by omega, by omega, by omega⟩
        obtain ⟨ps, hps⟩ : ∃ z, z = p.size := ⟨_, rfl⟩
        obtain ⟨pd, hpd⟩ : ∃ z, z = p.dep := ⟨_, rfl⟩
        rw [← hps, ← hpd] at hpz
        have HPZ := Lib.hid (And.intro hps hpd)
        obtain ⟨z1, z2, z3, z4⟩ := hpz
        clear hcal hp hbb hx1' hx2' hbl hbel hps hpd
        go_wp2_with fail
        refine (HCAL.out _ (by exact HBE.out)).mono ?_
        rintro x w3 ⟨rfl, hb3⟩
        rw [← HPZ.out.1, ← HPZ.out.2]
        have g2 := cell_later hb3 e2
        have HB3 := Lib.hid (bel_then HBE.out hb3)
        have hwa : IntKind.i64.wrap ((m : Int) + (ps : Int)) = ((m + ps : Nat) : Int) := by rw [IntWalk.i64_in _ (by omega)]; omega
        clear hb3 e2 k0 k1 k2
        rcases Nat.lt_or_ge d pd with hdp | hdp
        · have hmx : max (d : Int) (pd : Int) = (pd : Int) := by omega
          go_wp2_with fail
          go_roundg g
          case measure => omega
          case rel =>
            refine ⟨k + 1, by omega, by simp, ?_, ?_, HB3.out, g2⟩
            · rw [RE.take_snoc HP.out, RE.sizes_snoc]; have := HM.out.1; have := HPZ.out.1; first | (congr 1; omega) | (simp; omega)
            · rw [RE.take_snoc HP.out, RE.deps_snoc]; have := HM.out.2; have := HPZ.out.2; first | (congr 1; omega) | (simp; omega)
        · have hmx : max (d : Int) (pd : Int) = (d : Int) := by omega
          go_wp2_with fail
          go_roundg g
          case measure => omega
          case rel =>
            refine ⟨k + 1, by omega, by simp, ?_, ?_, HB3.out, g2⟩
            · rw [RE.take_snoc HP.out, RE.sizes_snoc]; have := HM.out.1; have := HPZ.out.1; first | (congr 1; omega) | (simp; omega)
            · rw [RE.take_snoc HP.out, RE.deps_snoc]; have := HM.out.2; have := HPZ.out.2; first | (congr 1; omega) | (simp; omega)
set_option maxHeartbeats 4000000 in
set_option maxRecDepth 100000 in
/-- goboref6.Count -/
theorem eCount_any (w0 : World) (e : RE) (sv lv : Value) (w : World) (h9 : e.size ≤ 1000) (hf : e.Fit) (hr : ReIs w0 e sv lv) (hb0 : Below w0.heap.size w0 w) :
    Calls Tryz.prog 71 #[.agg #[.int .i64 e.kind, sv, lv]] w fun x w' => x = .returned (.tuple #[.int .i64 (e.size : Nat), .int .i64 (e.dep : Nat)]) ∧ Below w.heap.size w w' := by
  obtain ⟨⟨o1, q1, rfl⟩, ⟨o2, q2, rfl⟩⟩ := hr.form
  have hc := fun w' (hb : Below w.heap.size w w') => ecnt_all w0 e.size e _ _ w' (Nat.le_refl _) h9 hf hr (bel_then hb0 hb)
  have HC := Lib.hid hc
  clear hc hr hf h9
  obtain ⟨m, hm⟩ : ∃ m, m = e.size := ⟨_, rfl⟩
  obtain ⟨d, hd⟩ : ∃ m, m = e.dep := ⟨_, rfl⟩
  rw [← hm, ← hd] at HC ⊢
  clear hm hd
  go_enter Tryz.func71, Tryz.ntmps71
  go_wp2_with fail
  refine (HC.out _ (bel_new (Below.refl _ _) _)).mono ?_
  rintro x w2 ⟨rfl, hb2⟩
  have HX := Lib.hid (bel_then (bel_new (Below.refl w.heap.size w) _) hb2)
  clear hb2
  go_wp2_with fail
  go_ret2
  exact ⟨rfl, HX.out⟩
theorem RE.drop_at {l : List RE} {k : Nat} {x : RE} (h : l[k]? = some x) : l.drop k = x :: l.drop (k + 1) := by
  obtain ⟨h1, rfl⟩ := List.getElem?_eq_some_iff.1 h; exact List.drop_eq_getElem_cons h1
def PrtIh (w0 : World) (N : Nat) : Prop := ∀ (e : RE) (sv lv : Value) (w : World), e.size ≤ N → e.Fit → ReIs w0 e sv lv → Below w0.heap.size w0 w →
  Calls Tryz.prog 72 #[.agg #[.int .i64 e.kind, sv, lv]] w fun x w' => x = .returned (.bool e.prt) ∧ Below w.heap.size w w'
theorem kcases (k : Int) : (k = 0 ∨ k = 1 ∨ k = 2 ∨ k = 3 ∨ k = 4 ∨ k = 5) ∨ ((k == 0) = false ∧ (k == 1) = false ∧ (k == 2) = false ∧ (k == 3) = false ∧ (k == 4) = false ∧ (k == 5) = false) := by
  by_cases h0 : k = 0
  · exact .inl (.inl h0)
  by_cases h1 : k = 1
  · exact .inl (.inr (.inl h1))
  by_cases h2 : k = 2
  · exact .inl (.inr (.inr (.inl h2)))
  by_cases h3 : k = 3
  · exact .inl (.inr (.inr (.inr (.inl h3))))
  by_cases h4 : k = 4
  · exact .inl (.inr (.inr (.inr (.inr (.inl h4)))))
  by_cases h5 : k = 5
  · exact .inl (.inr (.inr (.inr (.inr (.inr h5)))))
  exact .inr ⟨by simpa using h0, by simpa using h1, by simpa using h2, by simpa using h3, by simpa using h4, by simpa using h5⟩
set_option maxHeartbeats 16000000 in
set_option maxRecDepth 100000 in
theorem prt_all (w0 : World) : ∀ N, PrtIh w0 N := by
  intro N
  induction N with
  | zero => intro e sv lv w hs; have := e.size_pos; omega
  | succ N ih =>
    intro e sv lv w hs hf hr hb0
    obtain ⟨⟨o1, q1, rfl⟩, -⟩ := hr.form
    have hset := hr.set
    obtain ⟨o2, q2, c1, c2, rfl, hall⟩ := hr.all
    have hF := hf.sets
    have hin : ∀ (i : Nat) (p : RE) (w' : World), e.parts[i]? = some p → Below w.heap.size w w' → Calls Tryz.prog 72 #[.agg #[.int .i64 p.kind, c1 i, c2 i]] w' fun x w'' => x = .returned (.bool p.prt) ∧ Below w'.heap.size w' w'' := by
      intro i p w' hp hb
      exact ih p _ _ w' (by have := RE.size_part hp; omega) (hf.part hp) (hall i p hp).1 (bel_then hb0 hb)
    have hmay := fun w' (hb : Below w.heap.size w w') => refMay_any e.set (.slice o1 e.set.length q1) w' (hset.below (bel_then hb0 hb)) hF.1 (by omega)
    have hsh : e.shp = if e.kind = 2 then decide (1 ≤ e.set.length) && (decide (e.set.length ≤ 20) && (mayB e.set && decide (e.parts.length = 0)))
      else if 0 < e.set.length then false
      else if e.kind = 0 ∨ e.kind = 1 then decide (e.parts.length = 0)
      else if e.kind = 5 then decide (e.parts.length = 1)
      else if e.kind = 3 ∨ e.kind = 4 then decide (e.parts.length = 2)
      else false := rfl
    have hpr := RE.prt_eq e
    obtain ⟨mb, hmb⟩ : ∃ x, x = mayB e.set := ⟨_, rfl⟩
    obtain ⟨k, hk⟩ : ∃ x, x = e.kind := ⟨_, rfl⟩
    obtain ⟨n, hn⟩ : ∃ x, x = e.set.length := ⟨_, rfl⟩
    obtain ⟨m, hm0⟩ : ∃ x, x = e.parts.length := ⟨_, rfl⟩
    obtain ⟨r, hr9⟩ : ∃ x, x = e.prt := ⟨_, rfl⟩
    rw [← hmb, ← hk, ← hn, ← hm0] at hsh
    rw [← hr9] at hpr ⊢
    rw [← hmb, ← hn] at hmay
    rw [← hk, ← hn, ← hm0]
    have hn9 : n ≤ 1000 := by omega
    have hm9 : m ≤ 1000 := by omega
    have HALL := Lib.hid hall
    have HIN := Lib.hid hin
    have HMAY := Lib.hid hmay
    have HSH := Lib.hid hsh
    have HPR := Lib.hid hpr
    have HM := Lib.hid hm0
    have HB0 := Lib.hid hb0
    have HB1 := Lib.hid (fun (x : Obj) => bel_new (Below.refl w.heap.size w) x)
    clear hall hin hmay hsh hpr hm0 hmb hk hn hr9 hset hF hr hf hb0 ih hs
    rcases kcases k with h | ⟨t0, t1, t2, t3, t4, t5⟩
    rcases h with rfl | rfl | rfl | rfl | rfl | rfl
    · by_cases hm : m = 0
      · subst hm
        have m1 : ((0 : Int) != 0) = false := by decide
        by_cases n0 : 0 < n
        · have d0 : decide ((0 : Int) < (n : Int)) = true := by simp; omega
          have d9 : decide (0 < n) = true := by simp; omega
          have HX := Lib.hid (show r = false by rw [HPR.out, HSH.out, if_pos n0]; rfl)
          clear n0
          go_enter Tryz.func72, Tryz.ntmps72
          go_wp2_with fail
          go_ret
          exact ⟨by rw [HX.out]; rfl, HB1.out _⟩
        have d0 : decide ((0 : Int) < (n : Int)) = false := by simp; omega
        have d9 : decide (0 < n) = false := by simp; omega
        have HX := Lib.hid (show r = RE.prtL e.parts by rw [HPR.out, HSH.out, if_neg n0]; simp [← HM.out])
        clear n0
        have HX2 := Lib.hid (show r = true by rw [HX.out, List.eq_nil_of_length_eq_zero (l := e.parts) (by have := HM.out; omega), RE.prtL_nil])
        go_enter Tryz.func72, Tryz.ntmps72
        go_wp2_with fail
        go_loopg [4] 0 (fun g s4 wx => s4 = .int .i64 0 ∧ Below w.heap.size w wx)
        case atStart => exact ⟨rfl, HB1.out _⟩
        case round =>
          obtain ⟨rfl, hbel⟩ := hrel
          have HBE := Lib.hid hbel
          clear hbel
          go_wp2_with fail
          go_ret
          exact ⟨by rw [HX2.out]; rfl, HBE.out⟩
      · have m1 : ((m : Int) != 0) = true := by simp; omega
        have HX := Lib.hid (show r = false by rw [HPR.out, HSH.out]; simp [hm, ← HM.out])
        go_enter Tryz.func72, Tryz.ntmps72
        go_wp2_with fail
        go_ret
        exact ⟨by rw [HX.out]; rfl, HB1.out _⟩
    · by_cases hm : m = 0
      · subst hm
        have m1 : ((0 : Int) != 0) = false := by decide
        by_cases n0 : 0 < n
        · have d0 : decide ((0 : Int) < (n : Int)) = true := by simp; omega
          have d9 : decide (0 < n) = true := by simp; omega
          have HX := Lib.hid (show r = false by rw [HPR.out, HSH.out, if_pos n0]; rfl)
          clear n0
          go_enter Tryz.func72, Tryz.ntmps72
          go_wp2_with fail
          go_ret
          exact ⟨by rw [HX.out]; rfl, HB1.out _⟩
        have d0 : decide ((0 : Int) < (n : Int)) = false := by simp; omega
        have d9 : decide (0 < n) = false := by simp; omega
        have HX := Lib.hid (show r = RE.prtL e.parts by rw [HPR.out, HSH.out, if_neg n0]; simp [← HM.out])
        clear n0
        have HX2 := Lib.hid (show r = true by rw [HX.out, List.eq_nil_of_length_eq_zero (l := e.parts) (by have := HM.out; omega), RE.prtL_nil])
        go_enter Tryz.func72, Tryz.ntmps72
        go_wp2_with fail
        go_loopg [4] 0 (fun g s4 wx => s4 = .int .i64 0 ∧ Below w.heap.size w wx)
        case atStart => exact ⟨rfl, HB1.out _⟩
        case round =>
          obtain ⟨rfl, hbel⟩ := hrel
          have HBE := Lib.hid hbel
          clear hbel
          go_wp2_with fail
          go_ret
          exact ⟨by rw [HX2.out]; rfl, HBE.out⟩
      · have m1 : ((m : Int) != 0) = true := by simp; omega
        have HX := Lib.hid (show r = false by rw [HPR.out, HSH.out]; simp [hm, ← HM.out])
        go_enter Tryz.func72, Tryz.ntmps72
        go_wp2_with fail
        go_ret
        exact ⟨by rw [HX.out]; rfl, HB1.out _⟩
    · by_cases n1 : n < 1
      · have d1 : decide ((n : Int) < 1) = true := by simp; omega
        have HX := Lib.hid (show r = false by rw [HPR.out, HSH.out, if_pos rfl, decide_eq_false (show ¬ 1 ≤ n by omega)]; rfl)
        clear n1
        go_enter Tryz.func72, Tryz.ntmps72
        go_wp2_with fail
        go_ret
        exact ⟨by rw [HX.out]; rfl, HB1.out _⟩
      have d1 : decide ((n : Int) < 1) = false := by simp; omega
      by_cases n2 : 20 < n
      · have d2 : decide ((20 : Int) < (n : Int)) = true := by simp; omega
        have HX := Lib.hid (show r = false by rw [HPR.out, HSH.out, if_pos rfl, decide_eq_false (show ¬ n ≤ 20 by omega)]; simp)
        clear n1 n2
        go_enter Tryz.func72, Tryz.ntmps72
        go_wp2_with fail
        go_ret
        exact ⟨by rw [HX.out]; rfl, HB1.out _⟩
      have d2 : decide ((20 : Int) < (n : Int)) = false := by simp; omega
      have HS2 := Lib.hid (show e.shp = (mb && decide (m = 0)) by rw [HSH.out, if_pos rfl, decide_eq_true (show 1 ≤ n by omega), decide_eq_true (show n ≤ 20 by omega)]; simp)
      clear n1 n2
      go_enter Tryz.func72, Tryz.ntmps72
      go_wp2_with fail
      refine (HMAY.out _ (HB1.out _)).mono ?_
      rintro x w3 ⟨rfl, hb3⟩
      have g2 : w3.cell? ⟨w.heap.size, 2, none⟩ = some (.slice o2 m q2) := cell_later hb3 (by simp [go_sem])
      have g0 : w3.cell? ⟨w.heap.size, 0, none⟩ = some (.int .i64 2) := cell_later hb3 (by simp [go_sem])
      have HB3 := Lib.hid (bel_then (HB1.out _) hb3)
      clear hb3
      cases mb with
      | false =>
        have HX := Lib.hid (show r = false by rw [HPR.out, HS2.out]; rfl)
        go_wp2_with fail
        go_ret
        exact ⟨by rw [HX.out]; rfl, HB3.out⟩
      | true =>
        by_cases hm : m = 0
        · subst hm
          have HX2 := Lib.hid (show r = true by rw [HPR.out, HS2.out, List.eq_nil_of_length_eq_zero (l := e.parts) (by have := HM.out; omega), RE.prtL_nil]; rfl)
          go_wp2_with fail
          go_loopg [4] 0 (fun g s4 wx => s4 = .int .i64 0 ∧ Below w.heap.size w wx)
          case atStart => exact ⟨rfl, HB3.out⟩
          case round =>
            obtain ⟨rfl, hbel⟩ := hrel
            have HBE := Lib.hid hbel
            clear hbel
            go_wp2_with fail
            go_ret
            exact ⟨by rw [HX2.out]; rfl, HBE.out⟩
        · have m1 : ((m : Int) != 0) = true := by simp; omega
          have HX := Lib.hid (show r = false by rw [HPR.out, HS2.out, decide_eq_false hm]; rfl)
          go_wp2_with fail
          go_ret
          exact ⟨by rw [HX.out]; rfl, HB3.out⟩
    · by_cases hm : m = 2
      · subst hm
        have m1 : ((2 : Int) != 2) = false := by decide
        by_cases n0 : 0 < n
        · have d0 : decide ((0 : Int) < (n : Int)) = true := by simp; omega
          have d9 : decide (0 < n) = true := by simp; omega
          have HX := Lib.hid (show r = false by rw [HPR.out, HSH.out, if_pos n0]; rfl)
          clear n0
          go_enter Tryz.func72, Tryz.ntmps72
          go_wp2_with fail
          go_ret
          exact ⟨by rw [HX.out]; rfl, HB1.out _⟩
        have d0 : decide ((0 : Int) < (n : Int)) = false := by simp; omega
        have d9 : decide (0 < n) = false := by simp; omega
        have HX := Lib.hid (show r = RE.prtL e.parts by rw [HPR.out, HSH.out, if_neg n0]; simp [← HM.out])
        clear n0
        obtain ⟨wB, hwB⟩ : ∃ wB, wB = w.alloc (.cells #[.int .i64 3, .slice o1 n q1, .slice o2 2 q2] 41) := ⟨_, rfl⟩
        have HWB := Lib.hid (show Below w.heap.size w wB ∧ wB.cell? ⟨w.heap.size, 2, none⟩ = some (.slice o2 2 q2) by rw [hwB]; exact ⟨HB1.out _, by simp [go_sem]⟩)
        go_enter Tryz.func72, Tryz.ntmps72
        go_wp2_with fail
        rw [← hwB]
        clear hwB
        go_loopg [4] 2 (fun g s4 wx => ∃ j : Nat, j + g = 2 ∧ s4 = .int .i64 (j : Int) ∧ RE.prtL e.parts = RE.prtL (e.parts.drop j) ∧ Below w.heap.size w wx ∧ wx.cell? ⟨w.heap.size, 2, none⟩ = some (.slice o2 2 q2))
        case atStart => exact ⟨0, by omega, rfl, by rw [List.drop_zero], HWB.out.1, HWB.out.2⟩
        case round =>
          obtain ⟨j, hjg, rfl, hpe, hbel, e2⟩ := hrel
          have HBE := Lib.hid hbel
          have HPJ := Lib.hid hpe
          clear hpe
          cases gk with
          | zero =>
            obtain rfl : j = 2 := by omega
            have HD := Lib.hid (show r = true by rw [HX.out, HPJ.out, List.drop_of_length_le (by have := HM.out; omega), RE.prtL_nil])
            clear hbel
            go_wp2_with fail
            go_ret
            exact ⟨by rw [HD.out]; rfl, HBE.out⟩
          | succ g =>
            have hj : j < 2 := by omega
            have hx1 : decide ((j : Int) < 2) = true := by simp; omega
            have hx2 : decide (j < 2) = true := by simpa using hj
            have hk1 : (0 : Int) ≤ (j : Int) := by omega
            have hk2 : (j : Int) < 2 := by omega
            obtain ⟨p, hp⟩ : ∃ p, e.parts[j]? = some p := ⟨_, List.getElem?_eq_getElem (by have := HM.out; omega)⟩
            obtain ⟨-, b0, off, rfl, hbl, k0, k1, k2⟩ := HALL.out j p hp
            have hbb := bel_then HB0.out hbel
            rw [← hbb.cell hbl] at k0 k1 k2
            have hcal := fun w' hb' => HIN.out j p w' hp hb'
            have HPD := Lib.hid (show RE.prtL e.parts = (p.prt && RE.prtL (e.parts.drop (j + 1))) by rw [HPJ.out, RE.drop_at hp, RE.prtL_cons])
            obtain ⟨x1, hx1'⟩ : ∃ x, x = c1 j := ⟨_, rfl⟩
            obtain ⟨x2, hx2'⟩ : ∃ x, x = c2 j := ⟨_, rfl⟩
            obtain ⟨x0, hx0'⟩ : ∃ x, x = p.kind := ⟨_, rfl⟩
            obtain ⟨b, hb9⟩ : ∃ x, x = p.prt := ⟨_, rfl⟩
            rw [← hx1', ← hx2', ← hx0', ← hb9] at hcal
            rw [← hx0'] at k0
            rw [← hx1'] at k1
            rw [← hx2'] at k2
            rw [← hb9] at HPD
            have HCAL := Lib.hid hcal
            clear hcal hp hbb hx1' hx2' hx0' hb9 hbl hbel
            go_wp2_with fail
            refine (HCAL.out _ (by exact HBE.out)).mono ?_
            rintro x w3 ⟨rfl, hb3⟩
            have g2 := cell_later hb3 e2
            have HB3 := Lib.hid (bel_then HBE.out hb3)
            clear hb3 e2 k0 k1 k2
            cases b with
            | true =>
              go_wp2_with fail
              go_roundg g
              case measure => omega
              case rel => exact ⟨j + 1, by omega, by simp, by rw [HPD.out]; rfl, HB3.out, g2⟩
            | false =>
              have HZ := Lib.hid (show r = false by rw [HX.out, HPD.out]; rfl)
              go_wp2_with fail
              go_ret
              exact ⟨by rw [HZ.out]; rfl, HB3.out⟩
      · have m1 : ((m : Int) != 2) = true := by simp; omega
        have HX := Lib.hid (show r = false by rw [HPR.out, HSH.out]; simp [hm, ← HM.out])
        go_enter Tryz.func72, Tryz.ntmps72
        go_wp2_with fail
        go_ret
        exact ⟨by rw [HX.out]; rfl, HB1.out _⟩
    · by_cases hm : m = 2
      · subst hm
        have m1 : ((2 : Int) != 2) = false := by decide
        by_cases n0 : 0 < n
        · have d0 : decide ((0 : Int) < (n : Int)) = true := by simp; omega
          have d9 : decide (0 < n) = true := by simp; omega
          have HX := Lib.hid (show r = false by rw [HPR.out, HSH.out, if_pos n0]; rfl)
          clear n0
          go_enter Tryz.func72, Tryz.ntmps72
          go_wp2_with fail
          go_ret
          exact ⟨by rw [HX.out]; rfl, HB1.out _⟩
        have d0 : decide ((0 : Int) < (n : Int)) = false := by simp; omega
        have d9 : decide (0 < n) = false := by simp; omega
        have HX := Lib.hid (show r = RE.prtL e.parts by rw [HPR.out, HSH.out, if_neg n0]; simp [← HM.out])
        clear n0
        obtain ⟨wB, hwB⟩ : ∃ wB, wB = w.alloc (.cells #[.int .i64 4, .slice o1 n q1, .slice o2 2 q2] 41) := ⟨_, rfl⟩
        have HWB := Lib.hid (show Below w.heap.size w wB ∧ wB.cell? ⟨w.heap.size, 2, none⟩ = some (.slice o2 2 q2) by rw [hwB]; exact ⟨HB1.out _, by simp [go_sem]⟩)
        go_enter Tryz.func72, Tryz.ntmps72
        go_wp2_with fail
        rw [← hwB]
        clear hwB
        go_loopg [4] 2 (fun g s4 wx => ∃ j : Nat, j + g = 2 ∧ s4 = .int .i64 (j : Int) ∧ RE.prtL e.parts = RE.prtL (e.parts.drop j) ∧ Below w.heap.size w wx ∧ wx.cell? ⟨w.heap.size, 2, none⟩ = some (.slice o2 2 q2))
        case atStart => exact ⟨0, by omega, rfl, by rw [List.drop_zero], HWB.out.1, HWB.out.2⟩
        case round =>
          obtain ⟨j, hjg, rfl, hpe, hbel, e2⟩ := hrel
          have HBE := Lib.hid hbel
          have HPJ := Lib.hid hpe
          clear hpe
          cases gk with
          | zero =>
            obtain rfl : j = 2 := by omega
            have HD := Lib.hid (show r = true by rw [HX.out, HPJ.out, List.drop_of_length_le (by have := HM.out; omega), RE.prtL_nil])
            clear hbel
            go_wp2_with fail
            go_ret
            exact ⟨by rw [HD.out]; rfl, HBE.out⟩
          | succ g =>
            have hj : j < 2 := by omega
            have hx1 : decide ((j : Int) < 2) = true := by simp; omega
            have hx2 : decide (j < 2) = true := by simpa using hj
            have hk1 : (0 : Int) ≤ (j : Int) := by omega
            have hk2 : (j : Int) < 2 := by omega
            obtain ⟨p, hp⟩ : ∃ p, e.parts[j]? = some p := ⟨_, List.getElem?_eq_getElem (by have := HM.out; omega)⟩
            obtain ⟨-, b0, off, rfl, hbl, k0, k1, k2⟩ := HALL.out j p hp
            have hbb := bel_then HB0.out hbel
            rw [← hbb.cell hbl] at k0 k1 k2
            have hcal := fun w' hb' => HIN.out j p w' hp hb'
            have HPD := Lib.hid (show RE.prtL e.parts = (p.prt && RE.prtL (e.parts.drop (j + 1))) by rw [HPJ.out, RE.drop_at hp, RE.prtL_cons])
            obtain ⟨x1, hx1'⟩ : ∃ x, x = c1 j := ⟨_, rfl⟩
            obtain ⟨x2, hx2'⟩ : ∃ x, x = c2 j := ⟨_, rfl⟩
            obtain ⟨x0, hx0'⟩ : ∃ x, x = p.kind := ⟨_, rfl⟩
            obtain ⟨b, hb9⟩ : ∃ x, x = p.prt := ⟨_, rfl⟩
            rw [← hx1', ← hx2', ← hx0', ← hb9] at hcal
            rw [← hx0'] at k0
            rw [← hx1'] at k1
            rw [← hx2'] at k2
            rw [← hb9] at HPD
            have HCAL := Lib.hid hcal
            clear hcal hp hbb hx1' hx2' hx0' hb9 hbl hbel
            go_wp2_with fail
            refine (HCAL.out _ (by exact HBE.out)).mono ?_
            rintro x w3 ⟨rfl, hb3⟩
            have g2 := cell_later hb3 e2
            have HB3 := Lib.hid (bel_then HBE.out hb3)
            clear hb3 e2 k0 k1 k2
            cases b with
            | true =>
              go_wp2_with fail
              go_roundg g
              case measure => omega
              case rel => exact ⟨j + 1, by omega, by simp, by rw [HPD.out]; rfl, HB3.out, g2⟩
            | false =>
              have HZ := Lib.hid (show r = false by rw [HX.out, HPD.out]; rfl)
              go_wp2_with fail
              go_ret
              exact ⟨by rw [HZ.out]; rfl, HB3.out⟩
      · have m1 : ((m : Int) != 2) = true := by simp; omega
        have HX := Lib.hid (show r = false by rw [HPR.out, HSH.out]; simp [hm, ← HM.out])
        go_enter Tryz.func72, Tryz.ntmps72
        go_wp2_with fail
        go_ret
        exact ⟨by rw [HX.out]; rfl, HB1.out _⟩
    · by_cases hm : m = 1
      · subst hm
        have m1 : ((1 : Int) != 1) = false := by decide
        by_cases n0 : 0 < n
        · have d0 : decide ((0 : Int) < (n : Int)) = true := by simp; omega
          have d9 : decide (0 < n) = true := by simp; omega
          have HX := Lib.hid (show r = false by rw [HPR.out, HSH.out, if_pos n0]; rfl)
          clear n0
          go_enter Tryz.func72, Tryz.ntmps72
          go_wp2_with fail
          go_ret
          exact ⟨by rw [HX.out]; rfl, HB1.out _⟩
        have d0 : decide ((0 : Int) < (n : Int)) = false := by simp; omega
        have d9 : decide (0 < n) = false := by simp; omega
        have HX := Lib.hid (show r = RE.prtL e.parts by rw [HPR.out, HSH.out, if_neg n0]; simp [← HM.out])
        clear n0
        obtain ⟨wB, hwB⟩ : ∃ wB, wB = w.alloc (.cells #[.int .i64 5, .slice o1 n q1, .slice o2 1 q2] 41) := ⟨_, rfl⟩
        have HWB := Lib.hid (show Below w.heap.size w wB ∧ wB.cell? ⟨w.heap.size, 2, none⟩ = some (.slice o2 1 q2) by rw [hwB]; exact ⟨HB1.out _, by simp [go_sem]⟩)
        go_enter Tryz.func72, Tryz.ntmps72
        go_wp2_with fail
        rw [← hwB]
        clear hwB
        go_loopg [4] 1 (fun g s4 wx => ∃ j : Nat, j + g = 1 ∧ s4 = .int .i64 (j : Int) ∧ RE.prtL e.parts = RE.prtL (e.parts.drop j) ∧ Below w.heap.size w wx ∧ wx.cell? ⟨w.heap.size, 2, none⟩ = some (.slice o2 1 q2))
        case atStart => exact ⟨0, by omega, rfl, by rw [List.drop_zero], HWB.out.1, HWB.out.2⟩
        case round =>
          obtain ⟨j, hjg, rfl, hpe, hbel, e2⟩ := hrel
          have HBE := Lib.hid hbel
          have HPJ := Lib.hid hpe
          clear hpe
          cases gk with
          | zero =>
            obtain rfl : j = 1 := by omega
            have HD := Lib.hid (show r = true by rw [HX.out, HPJ.out, List.drop_of_length_le (by have := HM.out; omega), RE.prtL_nil])
            clear hbel
            go_wp2_with fail
            go_ret
            exact ⟨by rw [HD.out]; rfl, HBE.out⟩
          | succ g =>
            have hj : j < 1 := by omega
            have hx1 : decide ((j : Int) < 1) = true := by simp; omega
            have hx2 : decide (j < 1) = true := by simpa using hj
            have hk1 : (0 : Int) ≤ (j : Int) := by omega
            have hk2 : (j : Int) < 1 := by omega
            obtain ⟨p, hp⟩ : ∃ p, e.parts[j]? = some p := ⟨_, List.getElem?_eq_getElem (by have := HM.out; omega)⟩
            obtain ⟨-, b0, off, rfl, hbl, k0, k1, k2⟩ := HALL.out j p hp
            have hbb := bel_then HB0.out hbel
            rw [← hbb.cell hbl] at k0 k1 k2
            have hcal := fun w' hb' => HIN.out j p w' hp hb'
            have HPD := Lib.hid (show RE.prtL e.parts = (p.prt && RE.prtL (e.parts.drop (j + 1))) by rw [HPJ.out, RE.drop_at hp, RE.prtL_cons])
            obtain ⟨x1, hx1'⟩ : ∃ x, x = c1 j := ⟨_, rfl⟩
            obtain ⟨x2, hx2'⟩ : ∃ x, x = c2 j := ⟨_, rfl⟩
            obtain ⟨x0, hx0'⟩ : ∃ x, x = p.kind := ⟨_, rfl⟩
            obtain ⟨b, hb9⟩ : ∃ x, x = p.prt := ⟨_, rfl⟩
            rw [← hx1', ← hx2', ← hx0', ← hb9] at hcal
            rw [← hx0'] at k0
            rw [← hx1'] at k1
            rw [← hx2'] at k2
            rw [← hb9] at HPD
            have HCAL := Lib.hid hcal
            clear hcal hp hbb hx1' hx2' hx0' hb9 hbl hbel
            go_wp2_with fail
            refine (HCAL.out _ (by exact HBE.out)).mono ?_
            rintro x w3 ⟨rfl, hb3⟩
            have g2 := cell_later hb3 e2
            have HB3 := Lib.hid (bel_then HBE.out hb3)
            clear hb3 e2 k0 k1 k2
            cases b with
            | true =>
              go_wp2_with fail
              go_roundg g
              case measure => omega
              case rel => exact ⟨j + 1, by omega, by simp, by rw [HPD.out]; rfl, HB3.out, g2⟩
            | false =>
              have HZ := Lib.hid (show r = false by rw [HX.out, HPD.out]; rfl)
              go_wp2_with fail
              go_ret
              exact ⟨by rw [HZ.out]; rfl, HB3.out⟩
      · have m1 : ((m : Int) != 1) = true := by simp; omega
        have HX := Lib.hid (show r = false by rw [HPR.out, HSH.out]; simp [hm, ← HM.out])
        go_enter Tryz.func72, Tryz.ntmps72
        go_wp2_with fail
        go_ret
        exact ⟨by rw [HX.out]; rfl, HB1.out _⟩
    · have HX := Lib.hid (show r = false by
        rw [HPR.out, HSH.out]
        have z0 : ¬ k = 0 := by simpa using t0
        have z1 : ¬ k = 1 := by simpa using t1
        have z2 : ¬ k = 2 := by simpa using t2
        have z3 : ¬ k = 3 := by simpa using t3
        have z4 : ¬ k = 4 := by simpa using t4
        have z5 : ¬ k = 5 := by simpa using t5
        simp [z0, z1, z2, z3, z4, z5])
      go_enter Tryz.func72, Tryz.ntmps72
      go_wp2_with fail
      go_ret
      exact ⟨by rw [HX.out]; rfl, HB1.out _⟩
set_option maxHeartbeats 4000000 in
set_option maxRecDepth 100000 in
/-- goboref6.May -/
theorem rMay_any (w0 : World) (e : RE) (sv lv : Value) (w : World) (h9 : e.size ≤ 1000) (hf : e.Fit) (hr : ReIs w0 e sv lv) (hb0 : Below w0.heap.size w0 w) :
    Calls Tryz.prog 44 #[.agg #[.int .i64 e.kind, sv, lv]] w fun x w' => x = .returned (.bool e.may) ∧ Below w.heap.size w w' := by
  obtain ⟨⟨o1, q1, rfl⟩, ⟨o2, q2, rfl⟩⟩ := hr.form
  have hc := fun w' (hb : Below w.heap.size w w') => eCount_any w0 e _ _ w' h9 hf hr (bel_then hb0 hb)
  have hp := fun w' (hb : Below w.heap.size w w') => prt_all w0 e.size e _ _ w' (Nat.le_refl _) hf hr (bel_then hb0 hb)
  have hm0 := RE.may_dec e
  have hd0 := RE.dep_le e.size e (Nat.le_refl _)
  obtain ⟨m, hm⟩ : ∃ m, m = e.size := ⟨_, rfl⟩
  obtain ⟨d, hd⟩ : ∃ m, m = e.dep := ⟨_, rfl⟩
  obtain ⟨b, hb⟩ : ∃ m, m = e.prt := ⟨_, rfl⟩
  obtain ⟨k, hk⟩ : ∃ m, m = e.kind := ⟨_, rfl⟩
  obtain ⟨n1, hn1⟩ : ∃ m, m = e.set.length := ⟨_, rfl⟩
  obtain ⟨n2, hn2⟩ : ∃ m, m = e.parts.length := ⟨_, rfl⟩
  rw [← hm, ← hd, ← hb] at hm0
  rw [← hm, ← hd, ← hk, ← hn1, ← hn2] at hc
  rw [← hb, ← hk, ← hn1, ← hn2] at hp
  rw [← hk, ← hn1, ← hn2]
  have hm9 : m ≤ 1000 := by omega
  have hd9 : d ≤ 1000 := by omega
  have HC := Lib.hid hc
  have HP := Lib.hid hp
  have HM := Lib.hid hm0
  clear hc hp hm0 hr hf h9 hm hd hb hd0 hk hn1 hn2
  go_enter Tryz.func44, Tryz.ntmps44
  go_wp2_with fail
  refine (HC.out _ (bel_new (Below.refl _ _) _)).mono ?_
  rintro x w2 ⟨rfl, hb2⟩
  have g0 : w2.cell? ⟨w.heap.size, 0, none⟩ = some (.int .i64 k) := cell_later hb2 (by simp [go_sem])
  have g1 : w2.cell? ⟨w.heap.size, 1, none⟩ = some (.slice o1 n1 q1) := cell_later hb2 (by simp [go_sem])
  have g2 : w2.cell? ⟨w.heap.size, 2, none⟩ = some (.slice o2 n2 q2) := cell_later hb2 (by simp [go_sem])
  have HB := Lib.hid (bel_then (bel_new (Below.refl w.heap.size w) _) hb2)
  clear hb2
  by_cases h1 : m ≤ 60
  · have d1 : decide ((m : Int) ≤ 60) = true := by simp; omega
    have d2 : decide (m ≤ 60) = true := by simpa using h1
    by_cases h2 : d ≤ 12
    · have d3 : decide ((d : Int) ≤ 12) = true := by simp; omega
      have d4 : decide (d ≤ 12) = true := by simpa using h2
      have HX := Lib.hid (show e.may = b by rw [HM.out, d2, d4]; simp)
      clear h1 h2
      go_wp2_with fail
      refine (HP.out _ HB.out).mono ?_
      rintro x w3 ⟨rfl, hb3⟩
      have HB3 := Lib.hid (bel_then HB.out hb3)
      clear hb3
      go_wp2_with fail
      go_ret
      exact ⟨by rw [HX.out]; rfl, HB3.out⟩
    · have d3 : decide ((d : Int) ≤ 12) = false := by simp; omega
      have d4 : decide (d ≤ 12) = false := by simpa using h2
      have HX := Lib.hid (show e.may = false by rw [HM.out, d4]; simp)
      clear h1 h2
      go_wp2_with fail
      go_ret
      exact ⟨by rw [HX.out]; rfl, HB.out⟩
  · have d1 : decide ((m : Int) ≤ 60) = false := by simp; omega
    have d2 : decide (m ≤ 60) = false := by simpa using h1
    have HX := Lib.hid (show e.may = false by rw [HM.out, d2]; simp)
    clear h1
    go_wp2_with fail
    go_ret
    exact ⟨by rw [HX.out]; rfl, HB.out⟩
end Go.Proofs.YtmgfpcblbbpahaaGreat
