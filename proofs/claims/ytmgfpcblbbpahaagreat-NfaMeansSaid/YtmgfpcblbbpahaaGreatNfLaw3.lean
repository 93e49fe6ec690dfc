/- gobolaw7.NfaMeans: the walk. -/
import Derived.Test.YtmgfpcblbbpahaaGreatNfMns
import Derived.IntWalk
set_option linter.unusedVariables false
set_option linter.unusedSimpArgs false
namespace Go.Proofs.YtmgfpcblbbpahaaGreat
open Go.RowKit Ru

theorem elemI32 : Tryz.prog.elem 35 = 21 := by kernel_rfl
theorem undI32 : Tryz.prog.underlying 35 = some (.slice (Tryz.prog.elem 35)) := by rw [elemI32]; exact Tryz.underlying35
theorem sizeI32 (w' : World) : (sizeOf (Tryz.prog.elem 35)).run Tryz.prog w' = .ok 1 w' := by
  obtain ⟨i0, hi, hz0, hz1, hz2⟩ := infoI32
  rw [elemI32]; simp [sizeOf, run_typeInfo _ hi, hz1, go_sem]
theorem cut32_h (o : Option Addr) (cap n : Nat) (cs : List Value) (hcs : cs.length = n) (k : Nat) (hk : k ≤ n) (hc : n ≤ cap) : ∃ o1 c1,
    (∀ w' : World, (Instr.sliceAt 35 (.slice o n cap) none (some (.int .i64 k)) none).run Tryz.prog w' = .ok (.slice o1 k c1) w') ∧
      ∀ w', Row w' (.slice o n cap) n cs → Row w' (.slice o1 k c1) k (cs.take k) := by
  have e1 : ((k : Int)).toNat = k := by simp
  refine ⟨(if cap = 0 then o else o.map (·.add (0 * 1))), cap - 0, fun w' => ?_, fun w' hr => ?_⟩
  · rw [run_sliceAt_slice _ _ _ _ _ _ undI32, run_slice_h w' 35 o n cap undI32 .i64 (k : Int) (by omega) (by omega), sizeI32]
    rw [Result.andThen_ok, e1]
    unfold Go.sliced
    rw [Nat.sub_zero k]
  · have h := hr.sliced hcs (Nat.zero_le k) hk
    unfold Go.sliced at h
    simpa using h
namespace Nf
/-- how many of R are below j -/
def cntL (R : List Int) (j : Int) : Nat := (R.filter fun x => decide (x < j)).length
theorem cntL_asc : ∀ {R : List Int}, R.Pairwise (· < ·) → ∀ j : Int, (j ∈ R ↔ R[cntL R j]? = some j) ∧ cntL R (j + 1) = cntL R j + (if j ∈ R then 1 else 0) := by
  intro R
  induction R with
  | nil => intro _ j; simp [cntL]
  | cons x R ih =>
    intro h j
    rw [List.pairwise_cons] at h
    obtain ⟨i1, i2⟩ := ih h.2 j
    unfold cntL at i1 i2 ⊢
    by_cases hx : x < j
    · have hx1 : x < j + 1 := by omega
      have hne : ¬ j = x := by omega
      rw [List.filter_cons_of_pos (by simpa using hx), List.filter_cons_of_pos (by simpa using hx1), List.length_cons, List.length_cons, List.getElem?_cons_succ, ← i1, i2]
      simp only [List.mem_cons, hne, false_or]
      exact ⟨trivial, by omega⟩
    · have hf : R.filter (fun x => decide (x < j)) = [] := List.filter_eq_nil_iff.2 fun y hy => by have := h.1 y hy; simp; omega
      have hf1 : R.filter (fun x => decide (x < j + 1)) = [] := List.filter_eq_nil_iff.2 fun y hy => by have := h.1 y hy; simp; omega
      have hR : j ∉ R := fun hj => by have := h.1 j hj; omega
      rw [List.filter_cons_of_neg (by simpa using hx), hf]
      by_cases hxj : x = j
      · subst hxj
        rw [List.filter_cons_of_pos (by simp; omega), hf1]
        simp
      · rw [List.filter_cons_of_neg (by simp; omega), hf1]
        have : ¬ j = x := fun e => hxj e.symm
        simp [hR, hxj, this]
theorem cntL_zero {R : List Int} (h : ∀ x ∈ R, 0 ≤ x) : cntL R 0 = 0 := by
  unfold cntL
  rw [List.filter_eq_nil_iff.2 fun y hy => by have := h y hy; simp; omega]; rfl
theorem cntL_all {R : List Int} {m : Int} (h : ∀ x ∈ R, x < m) : cntL R m = R.length := by
  unfold cntL
  rw [List.filter_eq_self.2 fun y hy => by simpa using h y hy]
theorem cntL_le (R : List Int) (j : Int) : cntL R j ≤ R.length := List.length_filter_le _ _
theorem clean_ex : ∀ (N : Nat) (e : RE), e.size ≤ N → e.prt = true → ∃ t, Shp e t ∧ t.clean := by
  intro N
  induction N with
  | zero => intro e h; have := e.size_pos; omega
  | succ N ih =>
    intro e h hp
    cases e with
    | mk k s l =>
      rw [RE.size_mk] at h
      rcases prt_cases hp with ⟨rfl, rfl⟩ | ⟨rfl, rfl⟩ | ⟨rfl, rfl, _⟩ | ⟨rfl, a, rfl, ha⟩ | ⟨hk, a, b, rfl, ha, hb⟩
      · exact ⟨.leaf 0 false, rfl, rfl⟩
      · exact ⟨.leaf 0 false, rfl, rfl⟩
      · exact ⟨.leaf 0 false, rfl, rfl⟩
      · rw [RE.sizes_cons, RE.sizes_nil] at h
        obtain ⟨t, h1, h2⟩ := ih a (by omega) ha
        exact ⟨.one 0 false t, ⟨a, rfl, h1⟩, rfl, h2⟩
      · rw [RE.sizes_cons, RE.sizes_cons, RE.sizes_nil] at h
        obtain ⟨t, h1, h2⟩ := ih a (by omega) ha
        obtain ⟨u, h3, h4⟩ := ih b (by omega) hb
        exact ⟨.two 0 false t u, ⟨a, b, rfl, h1, h3⟩, rfl, h2, h4⟩
theorem run_take (e : RE) (t : FT) (s : List Int) (n : Nat) : ∀ k, k ≤ n → runK e t (s.take n) k = runK e t s k := by
  intro k
  induction k with
  | zero => intro _; rfl
  | succ k ih =>
    intro h
    rw [runK, runK, ih (by omega)]
    congr 1
    rw [List.getD_eq_getElem?_getD, List.getD_eq_getElem?_getD, List.getElem?_take, if_pos (by omega)]
theorem is_rules (l : List RE) (hl : ∀ e ∈ l, e.may = true) (s : List Int) (k j : Nat) (e : RE) (he : l[j]? = some e) (t : FT) (ht : Shp e t) (hc : t.clean) :
    isF e t (s.take k) k = decide ((j : Int) ∈ gat (mE l) (onK (mS l) (mF l) s k)) := by
  have hex : ∀ i : Nat, ∃ u : FT, ∀ c, l[i]? = some c → Shp c u ∧ u.clean := fun i => by
    cases h : l[i]? with
    | none => exact ⟨.leaf 0 false, fun c hc => by cases hc⟩
    | some c =>
      obtain ⟨u, h1, h2⟩ := clean_ex c.size c (Nat.le_refl _) ((RE.may_iff c).1 (hl c (List.mem_of_getElem? h))).2.2
      exact ⟨u, fun d hd => by cases hd; exact ⟨h1, h2⟩⟩
  have hr := rules_is l hl s (fun i => if i = j then t else Classical.choose (hex i)) (fun i c hi => by
    by_cases h : i = j
    · subst h
      rw [he] at hi; cases hi
      simp only [if_true]
      exact ⟨ht, hc⟩
    · simp only [if_neg h]
      exact Classical.choose_spec (hex i) c hi) k j e he
  simp only [if_true] at hr
  have h2 : isF e t (s.take k) k = isF e t s k := by unfold isF; rw [run_take e t s k k (Nat.le_refl _)]
  rw [h2]
  by_cases h : (j : Int) ∈ gat (mE l) (onK (mS l) (mF l) s k)
  · rw [decide_eq_true h]; exact hr.1 h
  · rw [decide_eq_false h]
    cases hb : isF e t s k with
    | false => rfl
    | true => exact absurd (hr.2 hb) h
theorem gat_E (l : List RE) (hl : ∀ e ∈ l, e.may = true) (on : List Int) : ∀ x ∈ gat (mE l) on, 0 ≤ x ∧ x < (l.length : Int) := by
  have hp : ∀ e ∈ l, e.prt = true ∧ e.size ≤ 60 := fun e he => by
    have := (RE.may_iff e).1 (hl e he)
    exact ⟨this.2.2, this.1⟩
  have hok := bl_ok l hp l.length (Nat.le_refl _)
  rw [List.take_length] at hok
  exact gat_fit (mE l) on l.length hok.me
end Nf
set_option maxRecDepth 100000 in
set_option maxHeartbeats 8000000 in
theorem nfaMeans_walk (L : List (List Int)) (vs : List Value) (lv : Value) (a : List Int) (av : Value) (w : World) (hL : RowsI w lv vs L) (hz : ∀ l ∈ L, ∀ n ∈ l, (Lit.int .i64 n).wf = true)
    (ha : Row w av a.length (a.map (Value.int .i64))) (hza : ∀ n ∈ a, (Lit.int .i64 n).wf = true) :
    Calls Tryz.prog 4 #[lv, av] w fun e w' => e = .returned (.bool true) ∧ Below w.heap.size w w' := by
  have hres := res_any L vs lv w hL
  have HRES := Lib.hid hres
  have HA := Lib.hid ha
  clear hres hL hz ha hza
  go_enter Tryz.func4, Tryz.ntmps4
  go_wp2_with fail
  refine HRES.out.mono ?_
  rintro x w1 ⟨u1, rfl, hre, hb1⟩
  have hbu := build_any _ _ _ w1 hre (Nf.resL_fit L) (Nf.resL_takes L)
  have hrl := Nf.resL_all L
  have hrf := Nf.resL_fit L
  obtain ⟨l, hl⟩ : ∃ l, l = Nf.resL L := ⟨_, rfl⟩
  rw [← hl] at hre hbu hrl hrf
  obtain ⟨ol, cl, c1, c2, rfl, hall⟩ := hre.all
  rw [show (RE.mk 0 [] l).parts = l from rfl] at hall hbu ⊢
  have HB1 := Lib.hid hb1
  have HBU := Lib.hid hbu
  have HALL := Lib.hid hall
  have HRL := Lib.hid hrl
  have HRF := Lib.hid hrf
  have hl4 := hrl.2.2
  clear hre hb1 hbu hl hall hrl hrf
  go_wp2_with fail
  refine HBU.out.mono ?_
  rintro x w2 ⟨pb, so, fo, eo, co, sc, fc, ec, cc, ss, fs, es, rfl, hn, hb2, hpb⟩
  have HN := Lib.hid hn
  have HB2 := Lib.hid hb2
  clear hn hb2 hpb HBU HRES
  have htold := fun X => told7_any X
  have HT := Lib.hid htold
  clear htold
  have htx := text_any a 30 (by omega) av w2 ((HA.out.below HB1.out).below (HB2.out.mono (Nat.le_refl _)))
  have HTX := Lib.hid htx
  clear htx
  go_wp2_with fail
  refine HTX.out.mono ?_
  rintro x w3 ⟨u3, rfl, hu3, hb3⟩
  obtain ⟨s, hs⟩ : ∃ s, s = txF a 30 := ⟨_, rfl⟩
  have hsl : s.length ≤ 30 := by rw [hs]; unfold txF; simp; omega
  rw [← hs] at hu3
  obtain ⟨o3, c3, rfl⟩ := nf_slice hu3
  have HR3 := Lib.hid (Row.owned hu3)
  have HB3 := Lib.hid hb3
  clear hu3 hb3 hs HTX HA
  go_wp2_with fail
  have hrow0 := row_lit (w := w3) (cs := [.int .i64 0]) (n := 1) rfl (by omega)
  have hb0 : Below w3.heap.size w3 (w3.alloc (.cells #[.int .i64 0] 3)) := bel_new (Below.refl _ _) _
  obtain ⟨W, hW⟩ : ∃ W, W = w3.alloc (.cells #[.int .i64 0] 3) := ⟨_, rfl⟩
  rw [show (w3.alloc (.cells [Value.int .i64 0].toArray 3)) = W from hW.symm] at hrow0
  rw [← hW] at hb0 ⊢
  clear hW
  have HW0 := Lib.hid (And.intro hrow0 hb0)
  clear hrow0 hb0
  go_loopg [9, 10] (s.length + 1) (fun g s9 s10 wx => ∃ (k : Nat) (o : Option Addr) (n c : Nat), k + g = s.length + 1 ∧ s10 = .int .i64 (k : Int) ∧ s9 = .slice o n c ∧
    (k ≤ s.length → n = (Nf.onK (Nf.mS l) (Nf.mF l) s k).length ∧ Row wx (.slice o n c) n (ints1 (Nf.onK (Nf.mS l) (Nf.mF l) s k)) ∧ n ≤ 1000) ∧ Below w3.heap.size w3 wx)
  case atStart => exact ⟨0, _, 1, 1, by omega, rfl, rfl, fun _ => ⟨rfl, HW0.out.1, by omega⟩, HW0.out.2⟩
  case round =>
    obtain ⟨k, o, n, c, hk, rfl, rfl, hon, hbx⟩ := hrel
    have HBX := Lib.hid hbx
    clear hbx
    by_cases hlt : k ≤ s.length
    · obtain ⟨g1, hg1⟩ : ∃ g1, g1 + 1 = gk := ⟨gk - 1, by omega⟩
      have hd : decide ((k : Int) ≤ (s.length : Int)) = true := by simp; omega
      obtain ⟨hn1, hr1, hn2⟩ := hon hlt
      obtain ⟨on, hone⟩ : ∃ on, on = Nf.onK (Nf.mS l) (Nf.mF l) s k := ⟨_, rfl⟩
      rw [← hone] at hn1 hr1
      subst hn1
      have hru := rules_any (HN.out.moved (bel_then HB3.out HBX.out)) on o c hr1 (by omega)
      have HRU := Lib.hid hru
      have HR1 := Lib.hid hr1
      have HONE := Lib.hid hone
      clear hru hr1 hon hone
      go_wp2_with fail
      refine HRU.out.mono ?_
      rintro x w4 ⟨u4, rfl, hu4, hb4⟩
      obtain ⟨R, hR⟩ : ∃ R, R = Nf.gat (Nf.mE l) on := ⟨_, rfl⟩
      rw [← hR] at hu4
      obtain ⟨o4, c4, rfl⟩ := nf_slice hu4
      have hRr := Nf.gat_E l (fun e he => (HRL.out.1 e he).2.1) on
      rw [← hR] at hRr
      have hRa : R.Pairwise (· < ·) := by rw [hR]; exact Nf.ord_lt _
      have HR4 := Lib.hid (Row.owned hu4)
      have HB4 := Lib.hid hb4
      have HRR := Lib.hid (And.intro hRr hRa)
      have HRE := Lib.hid hR
      have hRl : R.length ≤ 4 := Nat.le_trans (asc_len hRa l.length hRr) hl4
      have hc0 := Nf.cntL_zero (R := R) (fun x hx => (hRr x hx).1)
      have hcm := Nf.cntL_all (R := R) (m := l.length) (fun x hx => (hRr x hx).2)
      have HCM := Lib.hid hcm
      have HC0 := Lib.hid hc0
      clear hu4 hb4 hRr hRa hR HRU hcm hc0
      go_wp2_with fail
      go_loopg [12, 13] l.length (fun g s12 s13 wy => ∃ j : Nat, j + g = l.length ∧ s13 = .int .i64 (j : Int) ∧ s12 = .int .i64 (Nf.cntL R j : Int) ∧ Below w4.heap.size w4 wy)
      case atStart => exact ⟨0, by omega, rfl, by rw [show ((0 : Nat) : Int) = 0 from rfl, HC0.out]; rfl, Below.refl _ _⟩
      case round =>
        obtain ⟨j, hj, rfl, rfl, hby⟩ := hrel
        have HBY := Lib.hid hby
        clear hby
        by_cases hjl : j < l.length
        · obtain ⟨g2, hg2⟩ : ∃ g2, g2 + 1 = gk := ⟨gk - 1, by omega⟩
          have hdj : (j : Int) < (l.length : Int) := by omega
          obtain ⟨e, he⟩ : ∃ e, l[j]? = some e := ⟨l[j], List.getElem?_eq_getElem hjl⟩
          obtain ⟨q, hq⟩ : ∃ q, q = Nf.cntL R (j : Int) := ⟨_, rfl⟩
          obtain ⟨m, hm⟩ : ∃ m, m = decide ((j : Int) ∈ R) := ⟨_, rfl⟩
          obtain ⟨hmem, hnx⟩ := Nf.cntL_asc HRR.out.2 (j : Int)
          have hqle := Nf.cntL_le R (j : Int)
          rw [← hq] at hmem hnx hqle ⊢
          have hBW := bel_then HB2.out (bel_then HB3.out (bel_then HBX.out (bel_then HB4.out HBY.out)))
          obtain ⟨hre, b, off, rfl, hbl, k0, k1, k3⟩ := HALL.out j e he
          obtain ⟨s1, hs1⟩ : ∃ s1, s1 = c1 j := ⟨_, rfl⟩
          obtain ⟨s2, hs2⟩ : ∃ s2, s2 = c2 j := ⟨_, rfl⟩
          rw [← hs1, ← hs2] at hre
          rw [← hs1] at k1
          rw [← hs2] at k3
          obtain ⟨⟨oo1, qq1, rfl⟩, ⟨oo2, qq2, rfl⟩⟩ := hre.form
          have hc3 : s.length ≤ c3 := by obtain ⟨o', c', e', h1, _⟩ := HR3.out; cases e'; exact h1
          obtain ⟨o5, c5, hcut, hcr⟩ := cut32_h o3 c3 s.length (i32R s) (by simp) k hlt hc3
          have hem : e.may = true := (HRL.out.1 e (List.mem_of_getElem? he)).2.1
          have hef : e.Fit := HRF.out.part he
          have htk : (s.take k).length = k := by simp; omega
          have his : ∀ X, Below wr.heap.size wr X → Calls Tryz.prog 16 #[.agg #[.int .i64 e.kind, .slice oo1 e.set.length qq1, .slice oo2 e.parts.length qq2], .slice o5 k c5] X fun x w' => x = .returned (.bool m) ∧ Below X.heap.size X w' := fun X hX => by
            have hrow := hcr X (((((HR3.out.below HBX.out).below HB4.out).below HBY.out)).below hX)
            refine (is_any e _ _ X (hre.moved (bel_then hBW hX)) hef hem (s.take k) (.slice o5 k c5) (by rw [htk]; unfold i32R; rw [List.map_take]; exact hrow) (by omega)).mono ?_
            rintro x w' ⟨⟨t, h1, h2, h3, rfl⟩, hb⟩
            refine ⟨?_, hb⟩
            rw [htk, Nf.is_rules l (fun e he => (HRL.out.1 e he).2.1) s k j e he t h1 h2, hm, HRE.out, HONE.out]
          obtain ⟨ι, K, hne, hkb, hks⟩ := kept_family wr
          have kS := hks _ (Below.refl wr.heap.size wr).drew
          have KB := Lib.hid hkb
          have HIS := Lib.hid fun i => calls_kept hkb hks (his (K i) (hkb i))
          have j0 : ∀ i, (K i).cell? ⟨b, off + j * 3, none⟩ = some (.int .i64 e.kind) := fun i => ((bel_then hBW (hkb i)).cell (p := ⟨b, off + j * 3, none⟩) hbl).trans k0
          have j1 : ∀ i, (K i).cell? ⟨b, off + j * 3 + 1, none⟩ = some (.slice oo1 e.set.length qq1) := fun i => ((bel_then hBW (hkb i)).cell (p := ⟨b, off + j * 3 + 1, none⟩) hbl).trans k1
          have j2 : ∀ i, (K i).cell? ⟨b, off + j * 3 + 2, none⟩ = some (.slice oo2 e.parts.length qq2) := fun i => ((bel_then hBW (hkb i)).cell (p := ⟨b, off + j * 3 + 2, none⟩) hbl).trans k3
          have hcase : (m = true ∧ (q : Int) < (R.length : Int) ∧ (∃ b4 f4, o4 = some ⟨b4, f4, none⟩ ∧ wr.cell? ⟨b4, f4 + q, none⟩ = some (.int .i64 (j : Int))) ∧ Nf.cntL R ((j : Int) + 1) = q + 1) ∨
              (m = false ∧ Nf.cntL R ((j : Int) + 1) = q ∧ (((q : Int) < (R.length : Int) ∧ ∃ b4 f4 z, o4 = some ⟨b4, f4, none⟩ ∧ wr.cell? ⟨b4, f4 + q, none⟩ = some (.int .i64 z) ∧ (z == (j : Int)) = false) ∨ ¬ ((q : Int) < (R.length : Int)))) := by
            by_cases hin : (j : Int) ∈ R
            · have h1 := hmem.1 hin
              have hql : q < R.length := (List.getElem?_eq_some_iff.1 h1).1
              rw [if_pos hin] at hnx
              refine .inl ⟨by rw [hm]; exact decide_eq_true hin, by omega, ?_, hnx⟩
              obtain ⟨b4, f4, h2, h3, h4⟩ := adrow_at HR4.out (i := q) (u := .int .i64 (j : Int)) (by show (R.map (Value.int .i64))[q]? = _; rw [List.getElem?_map, h1]; rfl) hql
              exact ⟨b4, f4, h2, (HBY.out.cell (p := ⟨b4, f4 + q, none⟩) h3).trans h4⟩
            · rw [if_neg hin, Nat.add_zero] at hnx
              refine .inr ⟨by rw [hm]; exact decide_eq_false hin, hnx, ?_⟩
              by_cases hql : q < R.length
              · refine .inl ⟨by omega, ?_⟩
                obtain ⟨b4, f4, h2, h3, h4⟩ := adrow_at HR4.out (i := q) (u := .int .i64 R[q]) (by show (R.map (Value.int .i64))[q]? = _; rw [List.getElem?_map, List.getElem?_eq_getElem hql]; rfl) hql
                refine ⟨b4, f4, R[q], h2, (HBY.out.cell (p := ⟨b4, f4 + q, none⟩) h3).trans h4, ?_⟩
                have : ¬ R[q] = (j : Int) := fun e1 => hin (hmem.2 (by rw [List.getElem?_eq_getElem hql, e1]))
                simpa using this
              · exact .inr (by omega)
          have hq4 : (q : Int) ≤ 4 := by omega
          have hj4 : (j : Int) ≤ 4 := by omega
          have hk30 : (k : Int) ≤ 30 := by omega
          have hks : (k : Int) ≤ (s.length : Int) := by omega
          clear hmem hnx hm hq hBW hre hs1 hs2 hcr his hkb hks hbl k0 k1 k3
          rcases hcase with ⟨rfl, hql, ⟨b4, f4, rfl, hcl⟩, hcn⟩ | ⟨rfl, hcn, (⟨hql, b4, f4, z, rfl, hcl, hzj⟩ | hql)⟩
          all_goals (
            have HCN := Lib.hid hcn
            clear hcn
            go_upto_region 18 with (fail)
            refine region_kept K (by kernel_rfl) (by kernel_rfl) kS ?_
            repeat (go_big_quiet_step (with_reducible exact HIS.out _))
            refine wpQuiet_nil ?_
            rintro _ ⟨iw, rfl⟩
            have HBK := Lib.hid (bel_then HBY.out (KB.out iw))
            go_wp2_with fail
            go_roundg g2
            case measure => omega
            case rel => exact ⟨j + 1, by omega, by simp, by rw [show ((j + 1 : Nat) : Int) = (j : Int) + 1 by omega, HCN.out] <;> simp, HBK.out⟩)
        · obtain rfl : j = l.length := by omega
          have hcm := HCM.out
          have hBW := bel_then HB3.out (bel_then HBX.out (bel_then HB4.out HBY.out))
          have hnr := HR1.out.below (bel_then HB4.out HBY.out)
          have HBZ := Lib.hid (bel_then HBX.out (bel_then HB4.out HBY.out))
          rw [hcm]
          by_cases hks : k < s.length
          · have hd2 : (k : Int) < (s.length : Int) := by omega
            obtain ⟨r, hr⟩ : ∃ r, r = s.getD k 0 := ⟨_, rfl⟩
            obtain ⟨b, off, rfl, hbl, hcl⟩ := adrow_at HR3.out (i := k) (u := .int .i32 r) (by show (s.map (Value.int .i32))[k]? = _; rw [List.getElem?_map, List.getElem?_eq_getElem hks, hr, List.getD_eq_getElem?_getD, List.getElem?_eq_getElem hks]; rfl) hks
            rw [← HBZ.out.cell (p := ⟨b, off + k, none⟩) hbl] at hcl
            have hnx := next_any (HN.out.moved hBW) on o c hnr (by omega) r
            have hon1 : nextL (Nf.mS l) (Nf.mF l) on r = Nf.onK (Nf.mS l) (Nf.mF l) s (k + 1) := by rw [Nf.onK, ← HONE.out, ← hr]
            have hlen : (nextL (Nf.mS l) (Nf.mF l) on r).length ≤ 1000 := Nat.le_trans (Nf.next_len _ _ HN.out.fit on r) HN.out.few
            rw [hon1] at hnx hlen
            have HNX := Lib.hid hnx
            clear hnx hon1 hr hBW hnr hcm hbl
            go_wp2_with fail
            refine HNX.out.mono ?_
            rintro x w6 ⟨u6, rfl, hu6, hb6⟩
            obtain ⟨o6, c6, rfl⟩ := nf_slice hu6
            have HR6 := Lib.hid (Row.owned hu6)
            have HB6 := Lib.hid (bel_then HBZ.out hb6)
            clear hu6 hb6 HNX
            go_wp2_with fail
            go_roundg g1
            case measure => omega
            case rel => exact ⟨k + 1, o6, _, c6, by omega, by simp, rfl, fun _ => ⟨rfl, HR6.out, hlen⟩, HB6.out⟩
          · have hd2 : ¬ ((k : Int) < (s.length : Int)) := by omega
            clear hBW hnr hcm
            go_wp2_with fail
            go_roundg g1
            case measure => omega
            case rel => exact ⟨k + 1, o, on.length, c, by omega, by simp, rfl, fun h => by omega, HBZ.out⟩
    · have hd : decide ((k : Int) ≤ (s.length : Int)) = false := by simp; omega
      clear hon
      go_wp2_with (go_at_call 10; refine (HT.out _).mono ?_; rintro x w9 ⟨rfl, hb9⟩)
      go_ret
      exact ⟨rfl, bel_then HB1.out (bel_then HB2.out (bel_then HB3.out (bel_then HBX.out hb9)))⟩
end Go.Proofs.YtmgfpcblbbpahaaGreat
