/- gobolaw11.GramPats. -/
import Derived.Test.YtkmnigoikkffnaaGMkW
import Derived.Test.YtkmnigoikkffnaaGRefP
import Derived.Deep.RegionHeld3
import Derived.Deep.DeepCutAuto
set_option linter.unusedVariables false
set_option linter.unusedSimpArgs false
namespace Go.Proofs.Ytkmnigoikkffnaa
open Go.RowKit Ru

theorem orE_inv {a b : Option Int} (h : orE a b = none) : a = none ∧ b = none := by
  cases a with
  | none => exact ⟨rfl, h⟩
  | some x => cases h
theorem patE_inv {T : List TK} {p : PT} (h : patE T p = none) : p.shp = true ∧ patEL T p.parts = none := by
  rw [patE_eq] at h
  cases hs : p.shp with
  | false => rw [hs, if_pos rfl] at h; cases h
  | true => rw [hs, if_neg (by simp)] at h; exact ⟨rfl, (orE_inv h).2⟩
theorem patEL_inv {T : List TK} : ∀ {l : List PT}, patEL T l = none → ∀ p ∈ l, patE T p = none := by
  intro l
  induction l with
  | nil => intro _ p hp; cases hp
  | cons a l ih =>
    intro h p hp
    rw [patEL_cons] at h
    rcases List.mem_cons.1 hp with rfl | h1
    · exact (orE_inv h).1
    · exact ih (orE_inv h).2 p h1
theorem two_of {α : Type} {l : List α} (h : l.length = 2) : ∃ x y, l = [x, y] := by
  match l, h with
  | [x, y], _ => exact ⟨x, y, rfl⟩
theorem remp_emp {T : List TK} : ∀ (N : Nat) (p : PT), p.size ≤ N → patE T p = none → p.remp = p.emp := by
  intro N
  induction N with
  | zero => intro p h; have := p.size_pos; omega
  | succ N ih =>
    intro p hs h
    obtain ⟨h1, h2⟩ := patE_inv h
    rw [PT.remp_eq, PT.emp_eq]
    by_cases k : p.kind = 1 ∨ p.kind = 4 ∨ p.kind = 7
    · rw [if_pos k, if_pos k]
    rw [if_neg k, if_neg k]
    have key : p.parts.length = 2 → ∃ x y, p.parts = [x, y] ∧ x.remp = x.emp ∧ y.remp = y.emp := fun hl => by
      obtain ⟨x, y, e⟩ := two_of hl
      have hz := PT.size_sizes p
      rw [e, PT.sizes_cons, PT.sizes_cons, PT.sizes_nil] at hz
      rw [e] at h2
      exact ⟨x, y, e, ih x (by omega) (patEL_inv h2 x (by simp)), ih y (by omega) (patEL_inv h2 y (by simp))⟩
    by_cases k5 : p.kind = 5
    · rw [if_pos k5, if_pos k5]
      by_cases hl : p.parts.length = 2
      · obtain ⟨x, y, e, e1, e2⟩ := key hl
        rw [e, PT.allR_two, PT.allE_two, e1, e2]
      · rw [decide_eq_false hl]; rfl
    rw [if_neg k5, if_neg k5]
    by_cases k6 : p.kind = 6
    · rw [if_pos k6, if_pos k6]
      have hl : p.parts.length = 2 := by
        cases p with
        | mk pk pn pe pl =>
          simp only [PT.kind] at k6
          subst k6
          simp [PT.shp, PT.kind, PT.names, PT.ends, PT.parts] at h1 ⊢
          exact of_decide_eq_true h1.2
      obtain ⟨x, y, e, e1, e2⟩ := key hl
      rw [e, PT.anyR_two, e1, e2, PT.anyE, PT.anyE, PT.anyE]; simp
    · rw [if_neg k6, if_neg k6]
theorem cnt_dep : ∀ (N : Nat) (e : PT), e.size ≤ N → ∀ deep n d, (PT.cnt e deep n d).2 = max d (deep + e.dep - 1) := by
  intro N
  induction N with
  | zero => intro e h; have := e.size_pos; omega
  | succ N ih =>
    have all : ∀ (l : List PT) (deep n d : Nat), PT.sizes l ≤ N → deep ≤ d → (PT.cntL l (deep + 1) n d).2 = max d (deep + PT.deps l) := by
      intro l
      induction l with
      | nil => intro deep n d _ hd; rw [PT.cntL_nil, PT.deps]; simp; omega
      | cons a l ihl =>
        intro deep n d hl hd
        rw [PT.sizes_cons] at hl
        rw [PT.cntL_cons, PT.deps]
        have h1 := ih a (by omega) (deep + 1) n d
        have hdp : 1 ≤ a.dep := by rw [PT.dep_eq]; omega
        rw [ihl deep (PT.cnt a (deep + 1) n d).1 (PT.cnt a (deep + 1) n d).2 (by omega) (by rw [h1]; omega), h1]
        omega
    intro e h deep n d
    have hz := PT.size_sizes e
    rw [PT.cnt_eq, all e.parts deep (n + 1) (max d deep) (by omega) (by omega), PT.dep_eq]
    omega
/-- what Count tells of a pattern -/
theorem count_is (p : PT) : (p.cnt 1 0 0).1 = p.size ∧ (p.cnt 1 0 0).2 = p.dep := by
  have h1 := (PT.cnt_le p.size p (Nat.le_refl _) 1 0 0).1
  have h2 := cnt_dep p.size p (Nat.le_refl _) 1 0 0
  exact ⟨by omega, by omega⟩
theorem vis_sum : ∀ (N : Nat) (e : PT), e.size ≤ N → ∀ n d, (e.vis n d).1 = true → (e.vis n d).2 = n + e.size := by
  intro N
  induction N with
  | zero => intro e h; have := e.size_pos; omega
  | succ N ih =>
    have all : ∀ (l : List PT) (n d : Nat), PT.sizes l ≤ N → (PT.visL l n d).1 = true → (PT.visL l n d).2 = n + PT.sizes l := by
      intro l
      induction l with
      | nil => intro n d _ _; rw [PT.visL_nil, PT.sizes_nil]; rfl
      | cons a l ihl =>
        intro n d hl h
        rw [PT.sizes_cons] at hl
        rw [PT.visL_cons] at h ⊢
        by_cases h1 : (a.vis n d).1 = true
        · rw [if_pos h1] at h ⊢
          rw [ihl _ _ (by omega) h, ih a (by omega) n d h1, PT.sizes_cons]; omega
        · rw [if_neg h1] at h; cases h
    intro e hs n d h
    have hz := PT.size_sizes e
    rw [PT.vis_eq] at h ⊢
    by_cases hc : 60 < n + 1 ∨ 12 < d
    · rw [if_pos hc] at h; cases h
    · rw [if_neg hc] at h ⊢
      rw [all _ _ _ (by omega) h]; omega
/-- fits means small -/
theorem fits_small {p : PT} (h : p.fitsB = true) : p.size ≤ 60 := by
  unfold PT.fitsB at h
  have h1 := PT.vis_cnt p.size p (Nat.le_refl _) 0 1 h
  have h2 := vis_sum p.size p (Nat.le_refl _) 0 1 h
  omega
theorem hp_lt3 {w : World} {b i : Nat} {u : Value} (h : w.cell? ⟨b, i, none⟩ = some u) : b < w.heap.size := World.block_lt_of_cell? w ⟨b, i, none⟩ h
theorem keep7 {w w' : World} {a1 a2 a3 a4 a5 a6 a7 : Addr} {x1 x2 x3 x4 x5 x6 x7 : Value} (hb : Below w.heap.size w w') (h1 : w.cell? a1 = some x1) (h2 : w.cell? a2 = some x2) (h3 : w.cell? a3 = some x3) (h4 : w.cell? a4 = some x4) (h5 : w.cell? a5 = some x5) (h6 : w.cell? a6 = some x6) (h7 : w.cell? a7 = some x7) :
    w'.cell? a1 = some x1 ∧ w'.cell? a2 = some x2 ∧ w'.cell? a3 = some x3 ∧ w'.cell? a4 = some x4 ∧ w'.cell? a5 = some x5 ∧ w'.cell? a6 = some x6 ∧ w'.cell? a7 = some x7 :=
  ⟨cell_later hb h1, cell_later hb h2, cell_later hb h3, cell_later hb h4, cell_later hb h5, cell_later hb h6, cell_later hb h7⟩
theorem keep10 {w w' : World} {a1 a2 a3 a4 a5 a6 a7 a8 a9 a10 : Addr} {x1 x2 x3 x4 x5 x6 x7 x8 x9 x10 : Value} (hb : Below w.heap.size w w') (h1 : w.cell? a1 = some x1) (h2 : w.cell? a2 = some x2) (h3 : w.cell? a3 = some x3) (h4 : w.cell? a4 = some x4) (h5 : w.cell? a5 = some x5) (h6 : w.cell? a6 = some x6) (h7 : w.cell? a7 = some x7) (h8 : w.cell? a8 = some x8) (h9 : w.cell? a9 = some x9) (h10 : w.cell? a10 = some x10) :
    (w'.cell? a1 = some x1 ∧ w'.cell? a2 = some x2) ∧ w'.cell? a3 = some x3 ∧ w'.cell? a4 = some x4 ∧ w'.cell? a5 = some x5 ∧ w'.cell? a6 = some x6 ∧ w'.cell? a7 = some x7 ∧ w'.cell? a8 = some x8 ∧ w'.cell? a9 = some x9 ∧ w'.cell? a10 = some x10 :=
  ⟨⟨cell_later hb h1, cell_later hb h2⟩, cell_later hb h3, cell_later hb h4, cell_later hb h5, cell_later hb h6, cell_later hb h7, cell_later hb h8, cell_later hb h9, cell_later hb h10⟩
theorem keep8 {w w' : World} {a1 a2 a3 a4 a5 a6 a7 a8 : Addr} {x1 x2 x3 x4 x5 x6 x7 x8 : Value} (hb : Below w.heap.size w w') (h : w.cell? a1 = some x1 ∧ w.cell? a2 = some x2 ∧ w.cell? a3 = some x3 ∧ w.cell? a4 = some x4 ∧ w.cell? a5 = some x5 ∧ w.cell? a6 = some x6 ∧ w.cell? a7 = some x7 ∧ w.cell? a8 = some x8) :
    w'.cell? a1 = some x1 ∧ w'.cell? a2 = some x2 ∧ w'.cell? a3 = some x3 ∧ w'.cell? a4 = some x4 ∧ w'.cell? a5 = some x5 ∧ w'.cell? a6 = some x6 ∧ w'.cell? a7 = some x7 ∧ w'.cell? a8 = some x8 :=
  ⟨cell_later hb h.1, cell_later hb h.2.1, cell_later hb h.2.2.1, cell_later hb h.2.2.2.1, cell_later hb h.2.2.2.2.1, cell_later hb h.2.2.2.2.2.1, cell_later hb h.2.2.2.2.2.2.1, cell_later hb h.2.2.2.2.2.2.2⟩
set_option maxHeartbeats 8000000 in
set_option maxRecDepth 100000 in
theorem gramPats_walk (hM : MakeOK) (L : List (List Int)) (vs : List Value) (lv : Value) (a b : Int) (w : World) (hL : RowsI w lv vs L) (hB : ∀ l ∈ L, l.length ≤ 17592186044416) :
    Calls Try.prog 4 #[lv, .int .i64 a, .int .i64 b] w fun e w' => e = .returned (.bool true) ∧ Below w.heap.size w w' := by
  go_enter Try.func4, Try.ntmps4
  go_wp2_with fail
  refine (hM L vs lv w hL hB).mono ?_
  rintro e w2 ⟨T, R, tv, rv, rfl, hT, hR, hTm, hRg, hRl, hb2⟩
  obtain ⟨ot, ct, nmx, kdx, clx, rkx, sox, snx, scx, lox, lnx, lcx, rfl, -⟩ := hT.all
  obtain ⟨oR, cR, rfl⟩ := hR.form
  have hmay := fun w' (hb : Below w2.heap.size w2 w') => gramMay_any T R _ _ w' (hT.moved hb) (hR.moved hb) (by have := hTm.len; omega) (by omega) hTm.fit (RGood.fit hRg)
  rw [chk_good hTm hRg hRl] at hmay
  obtain ⟨nt, hnt⟩ : ∃ nt, nt = T.length := ⟨_, rfl⟩
  obtain ⟨rn, hrn⟩ : ∃ rn, rn = R.length := ⟨_, rfl⟩
  rw [← hnt, ← hrn] at hmay
  rw [← hnt, ← hrn]
  have HM := Lib.hid hmay
  have HR := Lib.hid (And.intro hrn (And.intro hR (And.intro hRg (And.intro hRl hb2))))
  have hrn3 : rn ≤ 3 := by omega
  clear hmay hT hR hTm hRg hRl hb2 hnt hrn nmx kdx clx rkx sox snx scx lox lnx lcx
  by_cases h0 : rn = 0
  · have e0 : ((rn : Int) == 0) = true := by simp; omega
    clear h0
    go_wp2_with fail
    refine (gtold_any _).mono ?_
    rintro e w3 ⟨rfl, hb3⟩
    have g0 : w3.cell? ⟨w2.heap.size, 0, none⟩ = some (.slice ot nt ct) := cell_later hb3 (by simp [go_sem])
    have g1 : w3.cell? ⟨w2.heap.size, 1, none⟩ = some (.slice oR rn cR) := cell_later hb3 (by simp [go_sem])
    have HB3 := Lib.hid (bel_then (bel_new (Below.refl _ w2) _) hb3)
    clear hb3
    go_wp2_with fail
    refine (HM.out _ HB3.out).mono ?_
    rintro e w4 ⟨rfl, hb4⟩
    have HB4 := Lib.hid (bel_then HB3.out hb4)
    clear hb4
    go_wp2_with fail
    go_ret
    exact ⟨rfl, bel_then HR.out.2.2.2.2 HB4.out⟩
  · have e0 : ((rn : Int) == 0) = false := by simp; omega
    have hrn0 : ¬ (rn : Int) = 0 := by omega
    have hrn1 : decide ((rn : Int) = 0) = false := by simp; omega
    have hrn2 : decide (rn = 0) = false := by simp; omega
    have hrn4 : ¬ rn = 0 := h0
    have hrn5 : (rn == 0) = false := by simp; omega
    obtain ⟨i, hi, ei⟩ := u64_mod' a rn (by omega) (by omega)
    obtain ⟨j, hj, ej⟩ := u64_mod' b rn (by omega) (by omega)
    have ew : IntKind.u64.wrap (rn : Int) = (rn : Int) := IntWalk.u64_in _ (by omega)
    have ei2 : IntKind.i64.wrap (i : Int) = (i : Int) := IntWalk.i64_in _ (by omega)
    have ej2 : IntKind.i64.wrap (j : Int) = (j : Int) := IntWalk.i64_in _ (by omega)
    have i0 : (0 : Int) ≤ (i : Int) := by omega
    have i1 : (i : Int) < (rn : Int) := by omega
    have j0 : (0 : Int) ≤ (j : Int) := by omega
    have j1 : (j : Int) < (rn : Int) := by omega
    go_wp2_with fail
    refine (HM.out _ (bel_new (Below.refl _ w2) _)).mono ?_
    rintro e w3 ⟨rfl, hb3⟩
    have g0 : w3.cell? ⟨w2.heap.size, 0, none⟩ = some (.slice ot nt ct) := cell_later hb3 (by simp [go_sem])
    have g1 : w3.cell? ⟨w2.heap.size, 1, none⟩ = some (.slice oR rn cR) := cell_later hb3 (by simp [go_sem])
    have HB3 := Lib.hid (bel_then (bel_new (Below.refl _ w2) _) hb3)
    clear hb3
    obtain ⟨r, hr⟩ : ∃ r, R[i]? = some r := ⟨_, List.getElem?_eq_getElem (by have := HR.out.1; omega)⟩
    obtain ⟨s, hs⟩ : ∃ s, R[j]? = some s := ⟨_, List.getElem?_eq_getElem (by have := HR.out.1; omega)⟩
    obtain ⟨b1, f1, q1, so, sc, E1, hl1, hst1, u0, u1, u2⟩ := (HR.out.2.1.moved HB3.out).get hr
    obtain ⟨b2, f2, q2, to2, tc, E2, hl2, hst2, v0, v1, v2⟩ := (HR.out.2.1.moved HB3.out).get hs
    rw [← HR.out.1] at E1 E2
    cases E1
    cases E2
    have hgr := HR.out.2.2.1 r (List.mem_of_getElem? hr)
    have hgs := HR.out.2.2.1 s (List.mem_of_getElem? hs)
    obtain ⟨rm, hrm⟩ : ∃ rm, rm = r.steps.length := ⟨_, rfl⟩
    obtain ⟨sm, hsm⟩ : ∃ sm, sm = s.steps.length := ⟨_, rfl⟩
    have hrm2 : 1 ≤ rm ∧ rm ≤ 2 := by have := hgr.len; omega
    have hsm2 : 1 ≤ sm ∧ sm ≤ 2 := by have := hgs.len; omega
    have HST := Lib.hid (And.intro hst1 (And.intro hst2 (And.intro hgr (And.intro hgs (And.intro hrm hsm)))))
    rw [← hrm] at u2
    rw [← hsm] at v2
    obtain ⟨rc, hrc⟩ : ∃ z, z = r.cls := ⟨_, rfl⟩
    obtain ⟨rf, hrf⟩ : ∃ z, z = r.free := ⟨_, rfl⟩
    obtain ⟨sc2, hsc2⟩ : ∃ z, z = s.cls := ⟨_, rfl⟩
    obtain ⟨sf, hsf⟩ : ∃ z, z = s.free := ⟨_, rfl⟩
    rw [← hrc] at u0
    rw [← hrf] at u1
    rw [← hsc2] at v0
    rw [← hsf] at v1
    have HB3s := hp_lt3 g0
    clear hst1 hst2 hgr hgs hrm hsm hr hs hrc hrf hsc2 hsf h0
    go_upto_region 4 with (fail)
    go_cut [8, 9] (fun s8 s9 wx => ∃ p8 p9 : Nat, s8 = .pointer (some ⟨p8, 0, none⟩) ∧ s9 = .pointer (some ⟨p9, 0, none⟩) ∧ wx.heap[p8]? = some (.cells #[.int .i64 rc, .bool rf, .slice so rm sc] 38 (0, 0)) ∧ wx.heap[p9]? = some (.cells #[.int .i64 sc2, .bool sf, .slice to2 sm tc] 38 (0, 0)) ∧ Below w3.heap.size w3 wx)
    case first =>
      go_region_held3 (fun w' => w'.cell? ⟨w2.heap.size, 1, none⟩ = some (.slice (some ⟨b1, f1, none⟩) rn cR) ∧ w'.cell? ⟨b1, f1 + i * 3, none⟩ = some (.int .i64 rc) ∧ w'.cell? ⟨b1, f1 + i * 3 + 1, none⟩ = some (.bool rf) ∧ w'.cell? ⟨b1, f1 + i * 3 + 2, none⟩ = some (.slice so rm sc) ∧
          w'.cell? ⟨b1, f1 + j * 3, none⟩ = some (.int .i64 sc2) ∧ w'.cell? ⟨b1, f1 + j * 3 + 1, none⟩ = some (.bool sf) ∧ w'.cell? ⟨b1, f1 + j * 3 + 2, none⟩ = some (.slice to2 sm tc))
        (first | trivial | exact keep7 (by repeat (first | exact Below.refl _ _ | refine Below.drew ?_ | refine bel_new ?_ _ | refine Below.setCell ?_ (by simp <;> omega) _)) g1 u0 u1 u2 v0 v1 v2) (fail)
      all_goals (go_wp2_with fail)
      all_goals go_meet
      all_goals (exact ⟨_, _, rfl, rfl, by first | exact al_fst _ _ _ | exact al_snd _ _ _, by first | exact al_snd _ _ _ | exact al_fst _ _ _, by repeat (first | exact Below.refl _ _ | refine Below.drew ?_ | refine bel_new ?_ _)⟩)
    case rest =>
      obtain ⟨p8, p9, rfl, rfl, h8, h9, hb4⟩ := hcut
      have HB4 := Lib.hid (bel_then HB3.out hb4)
      obtain ⟨k, rfl⟩ : ∃ k, rm = k + 1 := ⟨rm - 1, by omega⟩
      obtain ⟨m, rfl⟩ : ∃ m, sm = m + 1 := ⟨sm - 1, by omega⟩
      obtain ⟨st, hst⟩ : ∃ st, r.steps[k]? = some st := ⟨_, List.getElem?_eq_getElem (by have := HST.out.2.2.2.2.1; omega)⟩
      obtain ⟨su, hsu⟩ : ∃ su, s.steps[0]? = some su := ⟨_, List.getElem?_eq_getElem (by have := HST.out.2.2.2.2.2; omega)⟩
      obtain ⟨b3, f3, q3, co3, cc3, no3, nc3, eo3, ec3, lo3, lc3, E3, hl3, -, hpt, -, y0, y1, y2, y3⟩ := (HST.out.1.moved hb4).get hst
      obtain ⟨b4, f4, q4, co4, cc4, no4, nc4, eo4, ec4, lo4, lc4, E4, hl4, -, hqt, -, z0, z1, z2, z3⟩ := (HST.out.2.1.moved hb4).get hsu
      rw [← HST.out.2.2.2.2.1] at E3
      rw [← HST.out.2.2.2.2.2] at E4
      cases E3
      cases E4
      have hpg := (HST.out.2.2.1.st k st hst).p
      have hqg := (HST.out.2.2.2.1.st 0 su hsu).p
      obtain ⟨p, hp⟩ : ∃ p, p = st.p := ⟨_, rfl⟩
      obtain ⟨q, hq⟩ : ∃ q, q = su.p := ⟨_, rfl⟩
      rw [← hp] at hpt hpg y0 y1 y2 y3
      rw [← hq] at hqt hqg z0 z1 z2 z3
      obtain ⟨pn, hpn⟩ : ∃ x, x = p.names.length := ⟨_, rfl⟩
      obtain ⟨pe, hpe⟩ : ∃ x, x = p.ends.length := ⟨_, rfl⟩
      obtain ⟨pl, hpl⟩ : ∃ x, x = p.parts.length := ⟨_, rfl⟩
      obtain ⟨qn, hqn⟩ : ∃ x, x = q.names.length := ⟨_, rfl⟩
      obtain ⟨qe, hqe⟩ : ∃ x, x = q.ends.length := ⟨_, rfl⟩
      obtain ⟨ql, hql⟩ : ∃ x, x = q.parts.length := ⟨_, rfl⟩
      rw [← hpn, ← hpe, ← hpl] at hpt
      rw [← hqn, ← hqe, ← hql] at hqt
      rw [← hpn] at y1
      rw [← hpe] at y2
      rw [← hpl] at y3
      rw [← hqn] at z1
      rw [← hqe] at z2
      rw [← hql] at z3
      have HPQ := Lib.hid (And.intro hpt (And.intro hqt (And.intro hpg hqg)))
      clear hp hq hpn hpe hpl hqn hqe hql hpt hqt hpg hqg hst hsu
      have h82 : wc.cell? ⟨p8, 2, none⟩ = some (.slice (some ⟨b3, f3, none⟩) (k + 1) sc) := by simp [World.cell?, h8]
      have h92 : wc.cell? ⟨p9, 2, none⟩ = some (.slice (some ⟨b4, f4, none⟩) (m + 1) tc) := by simp [World.cell?, h9]
      have hk0 : (0 : Int) ≤ (k : Int) := by omega
      have hk1 : (k : Int) < (k : Int) + 1 := by omega
      have hk2 : IntKind.i64.wrap ((k : Int) + 1 - 1) = (k : Int) := by rw [IntWalk.i64_in _ (by omega)]; omega
      have hk3 : IntKind.i64.wrap (k : Int) = (k : Int) := IntWalk.i64_in _ (by omega)
      have hk4 : wrap64 ((k : Int) + 1 - 1) = (k : Int) := by rw [IntWalk.wrap64_in _ (by omega)]; omega
      have hk5 : wrap64 (k : Int) = (k : Int) := IntWalk.wrap64_in _ (by omega)
      have hk6 : ((k + 1 : Nat) : Int) = (k : Int) + 1 := by omega
      have hm1 : (0 : Int) < (m : Int) + 1 := by omega
      simp only [Nat.zero_mul, Nat.add_zero] at z0 z1 z2 z3
      clear h8 h9 g0 g1 u0 u1 u2 v0 v1 v2
      go_upto_region 5 with (fail)
      go_cut [10, 11] (fun s10 s11 wx => ∃ p10 p11 : Nat, s10 = .pointer (some ⟨p10, 0, none⟩) ∧ s11 = .pointer (some ⟨p11, 0, none⟩) ∧ wx.heap[p10]? = some (.cells #[.int .i64 p.kind, .slice no3 pn nc3, .slice eo3 pe ec3, .slice lo3 pl lc3] 43 (0, 0)) ∧
        wx.heap[p11]? = some (.cells #[.int .i64 q.kind, .slice no4 qn nc4, .slice eo4 qe ec4, .slice lo4 ql lc4] 43 (0, 0)) ∧ Below wc.heap.size wc wx)
      case first =>
        go_region_held3 (fun w' => (w'.cell? ⟨p8, 2, none⟩ = some (.slice (some ⟨b3, f3, none⟩) (k + 1) sc) ∧ w'.cell? ⟨p9, 2, none⟩ = some (.slice (some ⟨b4, f4, none⟩) (m + 1) tc)) ∧
            w'.cell? ⟨b3, f3 + k * 5 + 1, none⟩ = some (.int .i64 p.kind) ∧ w'.cell? ⟨b3, f3 + k * 5 + 2, none⟩ = some (.slice no3 pn nc3) ∧ w'.cell? ⟨b3, f3 + k * 5 + 3, none⟩ = some (.slice eo3 pe ec3) ∧ w'.cell? ⟨b3, f3 + k * 5 + 4, none⟩ = some (.slice lo3 pl lc3) ∧
            w'.cell? ⟨b4, f4 + 1, none⟩ = some (.int .i64 q.kind) ∧ w'.cell? ⟨b4, f4 + 2, none⟩ = some (.slice no4 qn nc4) ∧ w'.cell? ⟨b4, f4 + 3, none⟩ = some (.slice eo4 qe ec4) ∧ w'.cell? ⟨b4, f4 + 4, none⟩ = some (.slice lo4 ql lc4))
          (first | trivial | exact keep10 (by repeat (first | exact Below.refl _ _ | refine Below.drew ?_ | refine bel_new ?_ _ | refine Below.setCell ?_ (by simp <;> omega) _)) h82 h92 y0 y1 y2 y3 z0 z1 z2 z3) (fail)
        all_goals (go_wp2_with fail)
        all_goals go_meet
        all_goals (exact ⟨_, _, rfl, rfl, by first | exact al_fst _ _ _ | exact al_snd _ _ _, by first | exact al_snd _ _ _ | exact al_fst _ _ _, by repeat (first | exact Below.refl _ _ | refine Below.drew ?_ | refine bel_new ?_ _)⟩)
      case rest =>
        obtain ⟨p10, p11, rfl, rfl, h10, h11, hb5⟩ := hcut
        have HB5 := Lib.hid (bel_then HB4.out hb5)
        obtain ⟨ks, hks⟩ : ∃ x, x = p.size := ⟨_, rfl⟩
        obtain ⟨kd, hkd⟩ : ∃ x, x = p.dep := ⟨_, rfl⟩
        obtain ⟨em, hem⟩ : ∃ x, x = p.emp := ⟨_, rfl⟩
        obtain ⟨sb, hsb⟩ : ∃ x, x = p.same q := ⟨_, rfl⟩
        have hsz := fits_small HPQ.out.2.2.1.fits
        have HC1 := Lib.hid (show ∀ w', Below wc.heap.size wc w' → Calls Try.prog 19 #[.agg #[.int .i64 p.kind, .slice no3 pn nc3, .slice eo3 pe ec3, .slice lo3 pl lc3]] w' fun x w'' => x = .returned (.tuple #[.int .i64 (ks : Nat), .int .i64 (kd : Nat)]) ∧ Below w'.heap.size w' w'' from fun w' hb => by
          have := gramCount_any p _ _ _ w' (HPQ.out.1.moved (bel_then hb5 hb)) HPQ.out.2.2.1.fit (by omega)
          rw [(count_is p).1, (count_is p).2, ← hks, ← hkd] at this; exact this)
        have HC2 := Lib.hid (show ∀ w', Below wc.heap.size wc w' → Calls Try.prog 20 #[.agg #[.int .i64 p.kind, .slice no3 pn nc3, .slice eo3 pe ec3, .slice lo3 pl lc3]] w' fun x w'' => x = .returned (.tuple #[.int .i64 (ks : Nat), .int .i64 (kd : Nat)]) ∧ Below w'.heap.size w' w'' from fun w' hb => by
          have := rcnt_all w' p.size p _ _ _ w' (Nat.le_refl _) (by omega) HPQ.out.2.2.1.fit (HPQ.out.1.moved (bel_then hb5 hb)) (Below.refl _ _)
          rw [← hks, ← hkd] at this; exact this)
        have HE1 := Lib.hid (show ∀ w', Below wc.heap.size wc w' → Calls Try.prog 21 #[.agg #[.int .i64 p.kind, .slice no3 pn nc3, .slice eo3 pe ec3, .slice lo3 pl lc3]] w' fun x w'' => x = .returned (.bool em) ∧ Below w'.heap.size w' w'' from fun w' hb => by
          have := gramEmpty_any p _ _ _ w' (HPQ.out.1.moved (bel_then hb5 hb)) HPQ.out.2.2.1.fit
          rw [← hem] at this; exact this)
        have HE2 := Lib.hid (show ∀ w', Below wc.heap.size wc w' → Calls Try.prog 22 #[.agg #[.int .i64 p.kind, .slice no3 pn nc3, .slice eo3 pe ec3, .slice lo3 pl lc3]] w' fun x w'' => x = .returned (.bool em) ∧ Below w'.heap.size w' w'' from fun w' hb => by
          have := remp_all w' p.size p _ _ _ w' (Nat.le_refl _) HPQ.out.2.2.1.fit (HPQ.out.1.moved (bel_then hb5 hb)) (Below.refl _ _)
          rw [remp_emp p.size p (Nat.le_refl _) HPQ.out.2.2.1.ok, ← hem] at this; exact this)
        have HS1 := Lib.hid (show ∀ w', Below wc.heap.size wc w' → Calls Try.prog 23 #[.agg #[.int .i64 p.kind, .slice no3 pn nc3, .slice eo3 pe ec3, .slice lo3 pl lc3], .agg #[.int .i64 q.kind, .slice no4 qn nc4, .slice eo4 qe ec4, .slice lo4 ql lc4]] w' fun x w'' => x = .returned (.bool sb) ∧ Below w'.heap.size w' w'' from fun w' hb => by
          have := samePat_any p q _ _ _ _ _ _ w' (HPQ.out.1.moved (bel_then hb5 hb)) (HPQ.out.2.1.moved (bel_then hb5 hb)) HPQ.out.2.2.1.fit HPQ.out.2.2.2.fit
          rw [← hsb] at this; exact this)
        have HS2 := Lib.hid (show ∀ w', Below wc.heap.size wc w' → Calls Try.prog 24 #[.agg #[.int .i64 p.kind, .slice no3 pn nc3, .slice eo3 pe ec3, .slice lo3 pl lc3], .agg #[.int .i64 q.kind, .slice no4 qn nc4, .slice eo4 qe ec4, .slice lo4 ql lc4]] w' fun x w'' => x = .returned (.bool sb) ∧ Below w'.heap.size w' w'' from fun w' hb => by
          have := rsame_all w' p.size p q _ _ _ _ _ _ w' (Nat.le_refl _) HPQ.out.2.2.1.fit HPQ.out.2.2.2.fit (HPQ.out.1.moved (bel_then hb5 hb)) (HPQ.out.2.1.moved (bel_then hb5 hb)) (Below.refl _ _)
          rw [← hsb] at this; exact this)
        have HS3 := Lib.hid (show ∀ w', Below wc.heap.size wc w' → Calls Try.prog 23 #[.agg #[.int .i64 p.kind, .slice no3 pn nc3, .slice eo3 pe ec3, .slice lo3 pl lc3], .agg #[.int .i64 p.kind, .slice no3 pn nc3, .slice eo3 pe ec3, .slice lo3 pl lc3]] w' fun x w'' => x = .returned (.bool true) ∧ Below w'.heap.size w' w'' from fun w' hb => by
          have := samePat_any p p _ _ _ _ _ _ w' (HPQ.out.1.moved (bel_then hb5 hb)) (HPQ.out.1.moved (bel_then hb5 hb)) HPQ.out.2.2.1.fit HPQ.out.2.2.1.fit
          rw [PT.same_refl p] at this; exact this)
        have c0 : wc.cell? ⟨p10, 0, none⟩ = some (.int .i64 p.kind) ∧ wc.cell? ⟨p10, 1, none⟩ = some (.slice no3 pn nc3) ∧ wc.cell? ⟨p10, 2, none⟩ = some (.slice eo3 pe ec3) ∧ wc.cell? ⟨p10, 3, none⟩ = some (.slice lo3 pl lc3) := by simp [World.cell?, h10]
        have d0 : wc.cell? ⟨p11, 0, none⟩ = some (.int .i64 q.kind) ∧ wc.cell? ⟨p11, 1, none⟩ = some (.slice no4 qn nc4) ∧ wc.cell? ⟨p11, 2, none⟩ = some (.slice eo4 qe ec4) ∧ wc.cell? ⟨p11, 3, none⟩ = some (.slice lo4 ql lc4) := by simp [World.cell?, h11]
        obtain ⟨c0, c1, c2, c3⟩ := c0
        obtain ⟨d0, d1, d2, d3⟩ := d0
        have HCD := Lib.hid (And.intro c0 (And.intro c1 (And.intro c2 (And.intro c3 (And.intro d0 (And.intro d1 (And.intro d2 d3)))))))
        clear hks hkd hem hsb hsz hb5 h10 h11 h82 h92 y0 y1 y2 y3 z0 z1 z2 z3 d0 d1 d2 d3
        go_wp2_with fail
        refine (HC1.out _ (Below.refl _ _)).mono ?_
        rintro e w6 ⟨rfl, hb6⟩
        replace c0 := cell_later hb6 c0
        replace c1 := cell_later hb6 c1
        replace c2 := cell_later hb6 c2
        replace c3 := cell_later hb6 c3
        go_wp2_with fail
        refine (HC2.out _ hb6).mono ?_
        rintro e w7 ⟨rfl, hb7'⟩
        have hb7 := bel_then hb6 hb7'
        clear hb6 hb7' c0 c1 c2 c3
        obtain ⟨c0, c1, c2, c3, d0, d1, d2, d3⟩ := keep8 hb7 HCD.out
        have HB7 := Lib.hid hb7
        clear hb7
        have x1 : ((ks : Int) == (ks : Int)) = true := by simp
        have x2 : ((kd : Int) == (kd : Int)) = true := by simp
        have x3 : (em == em) = true := by simp
        have x4 : (sb == sb) = true := by simp
        go_upto_region 8 with (fail)
        go_region_held3 (fun w' => w'.cell? ⟨p10, 0, none⟩ = some (.int .i64 p.kind) ∧ w'.cell? ⟨p10, 1, none⟩ = some (.slice no3 pn nc3) ∧ w'.cell? ⟨p10, 2, none⟩ = some (.slice eo3 pe ec3) ∧ w'.cell? ⟨p10, 3, none⟩ = some (.slice lo3 pl lc3) ∧
            w'.cell? ⟨p11, 0, none⟩ = some (.int .i64 q.kind) ∧ w'.cell? ⟨p11, 1, none⟩ = some (.slice no4 qn nc4) ∧ w'.cell? ⟨p11, 2, none⟩ = some (.slice eo4 qe ec4) ∧ w'.cell? ⟨p11, 3, none⟩ = some (.slice lo4 ql lc4))
          (first | trivial | exact keep8 (by first | assumption | exact HB7.out.drew | exact HB7.out) HCD.out)
          (first
            | (go_simp; go_at_call 8; refine (gtold_any _).mono ?_; rintro e w9 ⟨rfl, hb9⟩; have hB9 : Below wc.heap.size wc w9 := bel_then (by first | assumption | exact HB7.out.drew | exact HB7.out) hb9; clear hb9)
            | (go_simp; go_at_call 21; refine (HE1.out _ (by first | assumption | exact HB7.out.drew | exact HB7.out)).mono ?_; rintro e w9 ⟨rfl, hb9⟩; have hB9 : Below wc.heap.size wc w9 := bel_then (by first | assumption | exact HB7.out.drew | exact HB7.out) hb9; clear hb9)
            | (go_simp; go_at_call 22; refine (HE2.out _ (by first | assumption | exact HB7.out.drew | exact HB7.out)).mono ?_; rintro e w9 ⟨rfl, hb9⟩; have hB9 : Below wc.heap.size wc w9 := bel_then (by first | assumption | exact HB7.out.drew | exact HB7.out) hb9; clear hb9)
            | (go_simp; go_at_call 23; (first | with_reducible refine (HS1.out _ (by first | assumption | exact HB7.out.drew | exact HB7.out)).mono ?_ | with_reducible refine (HS3.out _ (by first | assumption | exact HB7.out.drew | exact HB7.out)).mono ?_); rintro e w9 ⟨rfl, hb9⟩; have hB9 : Below wc.heap.size wc w9 := bel_then (by first | assumption | exact HB7.out.drew | exact HB7.out) hb9; clear hb9)
            | (go_simp; go_at_call 24; refine (HS2.out _ (by first | assumption | exact HB7.out.drew | exact HB7.out)).mono ?_; rintro e w9 ⟨rfl, hb9⟩; have hB9 : Below wc.heap.size wc w9 := bel_then (by first | assumption | exact HB7.out.drew | exact HB7.out) hb9; clear hb9))
        all_goals (go_wp2_with fail)
        all_goals go_ret
        all_goals (exact ⟨rfl, bel_then HR.out.2.2.2.2 (bel_then HB5.out (by first | assumption | exact HB7.out.drew | exact HB7.out))⟩)
theorem gramPats_fin (L : List (List Int)) (vs : List Value) (lv : Value) (a b : Int) (w : World) (hL : RowsI w lv vs L) (hB : ∀ l ∈ L, l.length ≤ 17592186044416) (ha : (Lit.int .i64 a).wf = true) (hb : (Lit.int .i64 b).wf = true) :
    Calls Try.prog 4 #[lv, .int .i64 a, .int .i64 b] w fun e w' => e = .returned (.bool true) ∧ Below w.heap.size w w' := gramPats_walk make_ok L vs lv a b w hL hB
end Go.Proofs.Ytkmnigoikkffnaa
