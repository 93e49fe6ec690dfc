/- gobolaw11.pattern: the walk up to its switch; the goal there, as the walk finds it. -/
import Derived.Test.YtbanmggkfpnalaaGreatDoorGMkE
import Derived.Deep.RegionHeld3
set_option linter.unusedVariables false
set_option linter.unusedSimpArgs false
namespace Go.Proofs.YtbanmggkfpnalaaGreatDoor
open Go.RowKit Ru PT

set_option maxHeartbeats 20000000 in
set_option maxRecDepth 100000 in
noncomputable def patCore (D : Nat → Nat → Prop) (T : List TK) (l : List Int) (cl : Nat) (oi : Option Addr) (ci : Nat) (oc : Option Addr) (cc : Nat) (or : Option Addr) (cr : Nat) (I C R : List ByteArray) (w : World) :
    PSigma fun X : Prop => (∀ n v, v < 11 → D n v) →
      ∀ ol : Option Addr, Row w (.slice ol l.length cl) l.length (l.map (Value.int .i64)) → ME T w (.slice oi I.length ci) (.slice oc C.length cc) (.slice or R.length cr) I C R → X →
      Calls Tryz.prog 44 #[.slice ol l.length cl, .slice oi I.length ci, .slice oc C.length cc, .slice or R.length cr] w fun e w' => ∃ (p : PT) (nv ev pv : Value), e = .returned (.agg #[.int .i64 p.kind, nv, ev, pv]) ∧ KP (SZ w) w' (fun w2 => PtIs w2 p nv ev pv) ∧ PGood T p ∧ p = patF ⟨l, I, C, R⟩ ∧ Below w.heap.size w w' := by
  apply PSigma.mk
  case snd =>
  intro hall ol hl E H
  have HALL := Lib.hid hall
  obtain ⟨ip, hp0, hp1, hp2, hp3⟩ := infoPat
  have HE := Lib.hid E
  have HROWL := Lib.hid hl
  have HX := Lib.hid H
  clear E hl H hall
  go_enter Tryz.func44, Tryz.ntmps44
  go_wp2_with fail
  go_loopg [9, 10] 8 (fun g s9 s10 wx => ∃ (j : Nat) (o : Option Addr) (n c : Nat) (ps : List (PT × Value × Value × Value)), j + g = 8 ∧ s10 = .int .i64 (j : Int) ∧ s9 = .slice o n c ∧ SK T ⟨l, I, C, R⟩ w j o n c ps wx)
  case atStart => exact ⟨0, none, 0, 0, [], rfl, rfl, rfl, SK.start T ⟨l, I, C, R⟩ w⟩
  case round =>
    obtain ⟨j, o, n, c, ps, hjg, rfl, rfl, hS⟩ := hrel
    have HS := Lib.hid hS
    have hn8 : n ≤ 8 := by have h1 := hS.stk.len; have h2 := hS.len; simp at h1; omega
    clear hS
    by_cases hj : (j < l.length ∧ j < 8)
    · obtain ⟨k, hk⟩ : ∃ k, k = l.getD j 0 := ⟨_, rfl⟩
      obtain ⟨v, hv, ev⟩ := u64_mod' k 11 (by omega) (by omega)
      have ev1 : (IntKind.u64.wrap k).tmod 11 = (v : Int) := ev
      have ev2 : IntKind.i64.wrap (v : Int) = (v : Int) := IntWalk.i64_in _ (by omega)
      have HKE := Lib.hid hk
      have hd1 : decide ((j : Int) < (l.length : Int)) = true := by simp; omega
      have hd2 : decide ((j : Int) < 8) = true := by simp; omega
      obtain ⟨b, off, rfl, hk0⟩ : ∃ b off, ol = some ⟨b, off, none⟩ ∧ wr.cell? ⟨b, off + j, none⟩ = some (.int .i64 k) := by
        obtain ⟨o', cap', e, hc, hm, hr⟩ := HROWL.out.below HS.out.bel
        cases e
        rcases hr with ⟨h0, -⟩ | ⟨b, off, rfl, hlt, hcell⟩
        · omega
        · exact ⟨b, off, rfl, hcell j _ (by rw [hk]; exact getElem?_ints hj.1)⟩
      have hj8 := hj.2
      have hjl : (j : Int) < (l.length : Int) := by omega
      cases gk with
      | zero => omega
      | succ g =>
      clear hk ev hj
      go_upto_region 5 with (fail)
      go_quiet (fail)
      have HQ := Lib.hid (HS.out.moved (below_drewN (Below.refl _ _) nq))
      generalize wr.drewN nq = wq at HQ ⊢
      clear HS HROWL
      have hcase := HALL.out n v hv
      clear HALL
      rename_i Q0 K0 A0 J0 K1 A1 A2 K2 A3 K3 A4
      revert ip HE Q0 K0 wr u11 u12 u13 u16 u17 u18 u19 u20 u21 u22 u23 u24 u25 u26 u27 u28 u29 u30 u31 u32 u33 u34 u35 u36 u37 u38 u39 u40 u41 u42 u43 u44 u45 u46 u47 u48 u49 u50 u51 u52 u53 u54 u55 u56 u57 u58 u59 u60 u61 u62 u63 u64 u65 u66 u67 u68 u69 u70 u71 u72 u73 u74 u75 u76 u77 u78 u79 u80 u81 u82 u83 u84 u85 u86 u87 u88 u89 u90 u91 u92 u93 u94 u95 u96 u97 u98 u99 u100 u101 u102 u103 u104 u105 u106 u107 u108 u109 u110 u111 u112 u113 u114 u115 u116 u117 u118 u119 u120 u121 u122 u123 u124 u125 u126 u127 u128 u129 u130 u131 u132 u133 u134 u135 u136 u137 u138 u139 u140 u141 u142 u143 u144 u145 u146 u147 u148 u149 u150 u151 u152 u153 u154 u155 u156 u157 u158 u159 u160 u161 u162 u163 u164 u165 u166 u167 u168 u169 u170 u171 u172 u173 u174 u175 u176 u177 u178 u179 u180 u181 u182 u183 u184 u185 u186 u187 u188 u189 u190 u191 u192 u193 J0 K1 j o n c ps k v b off g K2 K3 nq wq
      exact HX.out
    · --exit
      have hd : (¬ j < l.length) ∨ (j < l.length ∧ j = 8) := by omega
      have hjn : j ≤ 8 := by omega
      have hS := HS.out
      have hrb := hS.rb
      have hlt := hS.lt
      clear hj
      have r0 : wr.cell? ⟨w.heap.size, 0, none⟩ = some (.int .i64 0) ∧ wr.cell? ⟨w.heap.size, 1, none⟩ = some (.slice none 0 0) ∧ wr.cell? ⟨w.heap.size, 2, none⟩ = some (.slice none 0 0) ∧ wr.cell? ⟨w.heap.size, 3, none⟩ = some (.slice none 0 0) := by simp [World.cell?, hrb]
      have r1 : wr.frozen? ⟨w.heap.size, 0, none⟩ = false ∧ wr.frozen? ⟨w.heap.size, 1, none⟩ = false ∧ wr.frozen? ⟨w.heap.size, 2, none⟩ = false ∧ wr.frozen? ⟨w.heap.size, 3, none⟩ = false := by simp [World.frozen?, hrb]
      obtain ⟨r00, r01, r02, r03⟩ := r0
      obtain ⟨r10, r11, r12, r13⟩ := r1
      clear hS
      rcases hd with d1 | ⟨d1, rfl⟩
      · have d2 : decide (j < l.length) = false := by simpa using d1
        have d3 : ¬ (j : Int) < (l.length : Int) := by omega
        have d4 : decide ((j : Int) < (l.length : Int)) = false := by simpa using d1
        rcases Nat.eq_zero_or_pos n with rfl | hn0
        · have HB := Lib.hid HS.out.bel
          go_wp2_with fail
          simp [bodyPost, results, Tryz.results44, go_sem, r00, r01, r02, r03, r10, r11, r12, r13, World.cell?_setCell_same, hrb]
          exact ⟨.mk 4 [] [] [], _, _, _, ⟨rfl, rfl, rfl, rfl⟩, fun w2 _ => pt_kind 4 w2, pgood_well T, HS.out.void hjn (by first | exact .inr rfl | exact .inl (by show l.length ≤ j; omega)), (((HB.out.setCell (Nat.le_refl _) _).setCell (Nat.le_refl _) _).setCell (Nat.le_refl _) _).setCell (Nat.le_refl _) _⟩
        · obtain ⟨g5, rfl, hg1, hg2, hnc, hfz, hcl⟩ := HS.out.own_cells hn0
          obtain ⟨⟨qp, qn, qe, ql⟩, hq⟩ : ∃ q, ps[0]? = some q := ⟨ps[0]'(by have := HS.out.len; omega), by simp⟩
          obtain ⟨⟨o1, c1, e1⟩, ⟨o2, c2, e2⟩, ⟨o3, c3, e3⟩⟩ := (HS.out.own.keep _ (List.mem_of_getElem? hq)).here.form
          dsimp only at e1 e2 e3
          subst e1 e2 e3
          obtain ⟨x0, x1, x2, x3⟩ := hcl 0 _ hq
          simp only [Nat.zero_mul, Nat.zero_add] at x0 x1 x2 x3
          have hF := FK.start HS.out hq hg1 hg2 hcl
          have e0 : ((n : Int) == 0) = false := by simp; omega
          have hn1 : (0 : Int) < (n : Int) := by omega
          have HF := Lib.hid hF
          have HLT := Lib.hid (And.intro hg1 hg2)
          clear hF hfz hcl
          go_wp2_with fail
          obtain ⟨pb, hpb⟩ : ∃ pb, pb = wr.heap.size := ⟨_, rfl⟩
          rw [← hpb] at HF ⊢
          have hpbr : w.heap.size < pb := by omega
          clear hpb x0 x1 x2 x3 r00 r01 r02 r03 r10 r11 r12 r13 hrb hlt hg1 hg2
          go_loopg [15] (n - 1) (fun g s15 wx => ∃ (i : Nat) (p : PT) (nv ev lv : Value), i + g = n ∧ 1 ≤ i ∧ s15 = .int .i64 (i : Int) ∧ FK T ⟨l, I, C, R⟩ w j n g5 pb ps i p nv ev lv wx)
          case atStart => exact ⟨1, _, _, _, _, by omega, by omega, rfl, HF.out⟩
          case round =>
            obtain ⟨i, p, nv, ev, lv, hig, hi1, rfl, hK⟩ := hrel
            obtain ⟨⟨o4, c4, rfl⟩, ⟨o5, c5, rfl⟩, ⟨o6, c6, rfl⟩⟩ := hK.kp.here.form
            have HK := Lib.hid hK
            have hp := hK.hp
            have hpl := hp_lt hp
            have hrb := hK.rb
            have hgp := hK.gp
            clear hK
            have p0 : wr.cell? ⟨pb, 0, none⟩ = some (.int .i64 p.kind) ∧ wr.cell? ⟨pb, 1, none⟩ = some (.slice o4 p.names.length c4) ∧ wr.cell? ⟨pb, 2, none⟩ = some (.slice o5 p.ends.length c5) ∧ wr.cell? ⟨pb, 3, none⟩ = some (.slice o6 p.parts.length c6) := by simp [World.cell?, hp]
            have f0 : wr.frozen? ⟨pb, 0, none⟩ = false ∧ wr.frozen? ⟨pb, 1, none⟩ = false ∧ wr.frozen? ⟨pb, 2, none⟩ = false ∧ wr.frozen? ⟨pb, 3, none⟩ = false := by simp [World.frozen?, hp]
            obtain ⟨p0, p1, p2, p3⟩ := p0
            obtain ⟨f0, f1, f2, f3⟩ := f0
            cases gk with
            | zero =>
              obtain rfl : i = n := by omega
              have q0 : wr.cell? ⟨w.heap.size, 0, none⟩ = some (.int .i64 0) ∧ wr.cell? ⟨w.heap.size, 1, none⟩ = some (.slice none 0 0) ∧ wr.cell? ⟨w.heap.size, 2, none⟩ = some (.slice none 0 0) ∧ wr.cell? ⟨w.heap.size, 3, none⟩ = some (.slice none 0 0) := by simp [World.cell?, hrb]
              have q1 : wr.frozen? ⟨w.heap.size, 0, none⟩ = false ∧ wr.frozen? ⟨w.heap.size, 1, none⟩ = false ∧ wr.frozen? ⟨w.heap.size, 2, none⟩ = false ∧ wr.frozen? ⟨w.heap.size, 3, none⟩ = false := by simp [World.frozen?, hrb]
              obtain ⟨q00, q01, q02, q03⟩ := q0
              obtain ⟨q10, q11, q12, q13⟩ := q1
              go_wp2_with fail
              simp [bodyPost, results, Tryz.results44, go_sem, q00, q01, q02, q03, q10, q11, q12, q13, hrb]
              have hK := HK.out
              refine ⟨p, _, _, _, ⟨rfl, rfl, rfl, rfl⟩, (hK.kp.to (((((Ag.refl _ _).setCell (fun h => h.1.2 rfl) _).setCell (fun h => h.1.2 rfl) _).setCell (fun h => h.1.2 rfl) _).setCell (fun h => h.1.2 rfl) _)).sub (fun k _ hk => hk.1.1), Fld.done hK.stk hjn (by have := hK.fld; simpa [hK.len] using this), Fld.full hK.stk hjn (by first | exact .inr rfl | exact .inl (by show l.length ≤ j; omega)) (by have := hK.fld; simpa [hK.len] using this), (((hK.bel.setCell (Nat.le_refl _) _).setCell (Nat.le_refl _) _).setCell (Nat.le_refl _) _).setCell (Nat.le_refl _) _⟩
            | succ g =>
              have hin : i < n := by omega
              obtain ⟨⟨qp, qn, qe, ql⟩, hq⟩ : ∃ q, ps[i]? = some q := ⟨ps[i]'(by have := HK.out.len; omega), by simp⟩
              obtain ⟨⟨o7, c7, e1⟩, ⟨o8, c8, e2⟩, ⟨o9, c9, e3⟩⟩ := (HK.out.el _ (List.mem_of_getElem? hq)).here.form
              dsimp only at e1 e2 e3
              subst e1 e2 e3
              obtain ⟨y0, y1, y2, y3⟩ := HK.out.cells i _ hq
              have t1 : decide (i < n) = true := by simp; omega
              have t2 : (i : Int) < (n : Int) := by omega
              have n0 : ¬ g5 = wr.heap.size := by omega
              have n1 : g5 < wr.heap.size := by omega
              have n2 : ¬ pb = wr.heap.size := by omega
              have HI := Lib.hid (And.intro hi1 hq)
              clear hin hq hi1
              go_upto_region 29 with (fail)
              go_region_law (first | (fail))
              all_goals (
                obtain ⟨w5, hw5⟩ : ∃ w5, w5 = ((((wr.setCell ⟨pb, 0, none⟩ (.int .i64 5)).setCell ⟨pb, 1, none⟩ (.slice none 0 0)).setCell ⟨pb, 2, none⟩ (.slice none 0 0)).setCell ⟨pb, 3, none⟩ (.slice (some ⟨wr.heap.size, 0, none⟩) 2 2)).alloc (.cells #[.int .i64 p.kind, .slice o4 p.names.length c4, .slice o5 p.ends.length c5, .slice o6 p.parts.length c6, .int .i64 qp.kind, .slice o7 qp.names.length c7, .slice o8 qp.ends.length c8, .slice o9 qp.parts.length c9] 47) := ⟨_, rfl⟩
                rw [← hw5]
                have hK5 := HK.out.next HI.out.1 HI.out.2 (hw5.trans (set4_alloc hpl).symm)
                have HK5 := Lib.hid (hK5.moved (Below.refl _ _).drew)
                clear hK5 hw5
                go_wp2
                go_roundg g
                case measure => omega
                case rel => exact ⟨i + 1, _, _, _, _, by omega, by omega, by simp, HK5.out⟩)
      · have d4 : decide (8 < l.length) = true := by simpa using d1
        have d3 : (8 : Int) < (l.length : Int) := by omega
        rcases Nat.eq_zero_or_pos n with rfl | hn0
        · have HB := Lib.hid HS.out.bel
          go_wp2_with fail
          simp [bodyPost, results, Tryz.results44, go_sem, r00, r01, r02, r03, r10, r11, r12, r13, World.cell?_setCell_same, hrb]
          exact ⟨.mk 4 [] [] [], _, _, _, ⟨rfl, rfl, rfl, rfl⟩, fun w2 _ => pt_kind 4 w2, pgood_well T, HS.out.void hjn (by first | exact .inr rfl | exact .inl (by show l.length ≤ j; omega)), (((HB.out.setCell (Nat.le_refl _) _).setCell (Nat.le_refl _) _).setCell (Nat.le_refl _) _).setCell (Nat.le_refl _) _⟩
        · obtain ⟨g5, rfl, hg1, hg2, hnc, hfz, hcl⟩ := HS.out.own_cells hn0
          obtain ⟨⟨qp, qn, qe, ql⟩, hq⟩ : ∃ q, ps[0]? = some q := ⟨ps[0]'(by have := HS.out.len; omega), by simp⟩
          obtain ⟨⟨o1, c1, e1⟩, ⟨o2, c2, e2⟩, ⟨o3, c3, e3⟩⟩ := (HS.out.own.keep _ (List.mem_of_getElem? hq)).here.form
          dsimp only at e1 e2 e3
          subst e1 e2 e3
          obtain ⟨x0, x1, x2, x3⟩ := hcl 0 _ hq
          simp only [Nat.zero_mul, Nat.zero_add] at x0 x1 x2 x3
          have hF := FK.start HS.out hq hg1 hg2 hcl
          have e0 : ((n : Int) == 0) = false := by simp; omega
          have hn1 : (0 : Int) < (n : Int) := by omega
          have HF := Lib.hid hF
          have HLT := Lib.hid (And.intro hg1 hg2)
          clear hF hfz hcl
          go_wp2_with fail
          obtain ⟨pb, hpb⟩ : ∃ pb, pb = wr.heap.size := ⟨_, rfl⟩
          rw [← hpb] at HF ⊢
          have hpbr : w.heap.size < pb := by omega
          clear hpb x0 x1 x2 x3 r00 r01 r02 r03 r10 r11 r12 r13 hrb hlt hg1 hg2
          go_loopg [15] (n - 1) (fun g s15 wx => ∃ (i : Nat) (p : PT) (nv ev lv : Value), i + g = n ∧ 1 ≤ i ∧ s15 = .int .i64 (i : Int) ∧ FK T ⟨l, I, C, R⟩ w 8 n g5 pb ps i p nv ev lv wx)
          case atStart => exact ⟨1, _, _, _, _, by omega, by omega, rfl, HF.out⟩
          case round =>
            obtain ⟨i, p, nv, ev, lv, hig, hi1, rfl, hK⟩ := hrel
            obtain ⟨⟨o4, c4, rfl⟩, ⟨o5, c5, rfl⟩, ⟨o6, c6, rfl⟩⟩ := hK.kp.here.form
            have HK := Lib.hid hK
            have hp := hK.hp
            have hpl := hp_lt hp
            have hrb := hK.rb
            have hgp := hK.gp
            clear hK
            have p0 : wr.cell? ⟨pb, 0, none⟩ = some (.int .i64 p.kind) ∧ wr.cell? ⟨pb, 1, none⟩ = some (.slice o4 p.names.length c4) ∧ wr.cell? ⟨pb, 2, none⟩ = some (.slice o5 p.ends.length c5) ∧ wr.cell? ⟨pb, 3, none⟩ = some (.slice o6 p.parts.length c6) := by simp [World.cell?, hp]
            have f0 : wr.frozen? ⟨pb, 0, none⟩ = false ∧ wr.frozen? ⟨pb, 1, none⟩ = false ∧ wr.frozen? ⟨pb, 2, none⟩ = false ∧ wr.frozen? ⟨pb, 3, none⟩ = false := by simp [World.frozen?, hp]
            obtain ⟨p0, p1, p2, p3⟩ := p0
            obtain ⟨f0, f1, f2, f3⟩ := f0
            cases gk with
            | zero =>
              obtain rfl : i = n := by omega
              have q0 : wr.cell? ⟨w.heap.size, 0, none⟩ = some (.int .i64 0) ∧ wr.cell? ⟨w.heap.size, 1, none⟩ = some (.slice none 0 0) ∧ wr.cell? ⟨w.heap.size, 2, none⟩ = some (.slice none 0 0) ∧ wr.cell? ⟨w.heap.size, 3, none⟩ = some (.slice none 0 0) := by simp [World.cell?, hrb]
              have q1 : wr.frozen? ⟨w.heap.size, 0, none⟩ = false ∧ wr.frozen? ⟨w.heap.size, 1, none⟩ = false ∧ wr.frozen? ⟨w.heap.size, 2, none⟩ = false ∧ wr.frozen? ⟨w.heap.size, 3, none⟩ = false := by simp [World.frozen?, hrb]
              obtain ⟨q00, q01, q02, q03⟩ := q0
              obtain ⟨q10, q11, q12, q13⟩ := q1
              go_wp2_with fail
              simp [bodyPost, results, Tryz.results44, go_sem, q00, q01, q02, q03, q10, q11, q12, q13, hrb]
              have hK := HK.out
              refine ⟨p, _, _, _, ⟨rfl, rfl, rfl, rfl⟩, (hK.kp.to (((((Ag.refl _ _).setCell (fun h => h.1.2 rfl) _).setCell (fun h => h.1.2 rfl) _).setCell (fun h => h.1.2 rfl) _).setCell (fun h => h.1.2 rfl) _)).sub (fun k _ hk => hk.1.1), Fld.done hK.stk hjn (by have := hK.fld; simpa [hK.len] using this), Fld.full hK.stk hjn (by first | exact .inr rfl | exact .inl (by show l.length ≤ j; omega)) (by have := hK.fld; simpa [hK.len] using this), (((hK.bel.setCell (Nat.le_refl _) _).setCell (Nat.le_refl _) _).setCell (Nat.le_refl _) _).setCell (Nat.le_refl _) _⟩
            | succ g =>
              have hin : i < n := by omega
              obtain ⟨⟨qp, qn, qe, ql⟩, hq⟩ : ∃ q, ps[i]? = some q := ⟨ps[i]'(by have := HK.out.len; omega), by simp⟩
              obtain ⟨⟨o7, c7, e1⟩, ⟨o8, c8, e2⟩, ⟨o9, c9, e3⟩⟩ := (HK.out.el _ (List.mem_of_getElem? hq)).here.form
              dsimp only at e1 e2 e3
              subst e1 e2 e3
              obtain ⟨y0, y1, y2, y3⟩ := HK.out.cells i _ hq
              have t1 : decide (i < n) = true := by simp; omega
              have t2 : (i : Int) < (n : Int) := by omega
              have n0 : ¬ g5 = wr.heap.size := by omega
              have n1 : g5 < wr.heap.size := by omega
              have n2 : ¬ pb = wr.heap.size := by omega
              have HI := Lib.hid (And.intro hi1 hq)
              clear hin hq hi1
              go_upto_region 29 with (fail)
              go_region_law (first | (fail))
              all_goals (
                obtain ⟨w5, hw5⟩ : ∃ w5, w5 = ((((wr.setCell ⟨pb, 0, none⟩ (.int .i64 5)).setCell ⟨pb, 1, none⟩ (.slice none 0 0)).setCell ⟨pb, 2, none⟩ (.slice none 0 0)).setCell ⟨pb, 3, none⟩ (.slice (some ⟨wr.heap.size, 0, none⟩) 2 2)).alloc (.cells #[.int .i64 p.kind, .slice o4 p.names.length c4, .slice o5 p.ends.length c5, .slice o6 p.parts.length c6, .int .i64 qp.kind, .slice o7 qp.names.length c7, .slice o8 qp.ends.length c8, .slice o9 qp.parts.length c9] 47) := ⟨_, rfl⟩
                rw [← hw5]
                have hK5 := HK.out.next HI.out.1 HI.out.2 (hw5.trans (set4_alloc hpl).symm)
                have HK5 := Lib.hid (hK5.moved (Below.refl _ _).drew)
                clear hK5 hw5
                go_wp2
                go_roundg g
                case measure => omega
                case rel => exact ⟨i + 1, _, _, _, _, by omega, by omega, by simp, HK5.out⟩)
end Go.Proofs.YtbanmggkfpnalaaGreatDoor
