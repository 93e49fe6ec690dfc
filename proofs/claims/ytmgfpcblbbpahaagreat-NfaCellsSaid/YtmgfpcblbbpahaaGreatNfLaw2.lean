/- gobolaw7.NfaCells: the walk. -/
import Derived.Test.YtmgfpcblbbpahaaGreatNfLaw0
import Derived.IntWalk
import Derived.Deep.RegionHeld3
set_option linter.unusedVariables false
set_option linter.unusedSimpArgs false
namespace Go.Proofs.YtmgfpcblbbpahaaGreat
open Go.RowKit Ru

theorem pcs_pos (S : List (List Pc)) : ∀ q ∈ S.flatMap pcs, 0 ≤ q.1 ∧ q.1 < q.2 ∧ q.2 ≤ 1112064 := by
  intro q hq
  obtain ⟨s, hs, hq⟩ := List.mem_flatMap.1 hq
  have h1 := (pcs_nf s).pos q hq
  have h2 := pcs_bd s q hq
  omega
theorem plc_low {x : Int} (h0 : 0 ≤ x) (h1 : x < 55296) : plc x = x ∧ vlu x = x ∧ scal x = true := by
  refine ⟨?_, ?_, ?_⟩
  · unfold plc; rw [if_neg (by omega), if_pos h1]
  · unfold vlu; rw [if_pos h1]
  · rw [scal_iff]; omega
theorem has_low {s : List Pc} {x : Int} (h0 : 0 ≤ x) (h1 : x < 55296) : has s x = inB (pcs s) x := by
  obtain ⟨e1, e2, e3⟩ := plc_low h0 h1
  rw [Bool.eq_iff_iff, has_inR s e3, e1, inB_iff, pcs_in]
theorem cell_low {a b x : Int} (hb : 0 < b) (h0 : 0 ≤ x) (h1 : x < 55296) : (vlu a ≤ x ∧ x ≤ vlu (b - 1)) ↔ (a ≤ x ∧ x < b) := by
  obtain ⟨e1, e2, e3⟩ := plc_low h0 h1
  have h2 := @vlu_mono a x
  have h3 := @vlu_mono x (b - 1)
  rw [e2] at h2 h3
  rw [← h2, ← h3]
  omega
theorem cell_same {S : List (List Pc)} {c : Pc} (hc : c ∈ cutsF S) {x y : Int} (hx : 0 ≤ x ∧ x < 55296) (hy : 0 ≤ y ∧ y < 55296) (h1 : c.1 ≤ x ∧ x ≤ c.2) (h2 : c.1 ≤ y ∧ y ≤ c.2) : ∀ s ∈ S, has s x = has s y := by
  intro s hs
  unfold cutsF rngs at hc
  obtain ⟨⟨a, b⟩, hq, rfl⟩ := List.mem_map.1 hc
  have hA : ∀ q ∈ pcs s, q ∈ S.flatMap pcs := fun q hq => List.mem_flatMap.2 ⟨s, hs, hq⟩
  obtain ⟨hab, ha, hb, _, hin⟩ := cell_in (pcs_pos S) hA hq
  have k1 := (cell_low (by omega) hx.1 hx.2).1 h1
  have k2 := (cell_low (by omega) hy.1 hy.2).1 h2
  rw [has_low hx.1 hx.2, has_low hy.1 hy.2, hin x k1.1 k1.2, hin y k2.1 k2.2]
theorem cell_none {S : List (List Pc)} {x : Int} (hx : 0 ≤ x ∧ x < 55296) (h : ∀ c ∈ cutsF S, ¬ (c.1 ≤ x ∧ x ≤ c.2)) : ∀ s ∈ S, has s x = false := by
  intro s hs
  rw [has_low hx.1 hx.2]
  cases hb : inB (pcs s) x with
  | false => rfl
  | true =>
    exfalso
    obtain ⟨q, hq, h1, h2⟩ := (inB_iff _ _).1 hb
    have hP : inP (S.flatMap pcs) x := ⟨q, List.mem_flatMap.2 ⟨s, hs, hq⟩, h1, h2⟩
    obtain ⟨⟨a, b⟩, hc, h3, h4⟩ := (cut_union (pcs_pos S) x).2 hP
    have hab := (cell_in (pcs_pos S) (fun q hq => hq) hc)
    refine h (vlu a, vlu (b - 1)) ?_ ((cell_low (by omega) hx.1 hx.2).2 ⟨h3, h4⟩)
    unfold cutsF rngs
    exact List.mem_map.2 ⟨(a, b), hc, rfl⟩
theorem has_empty (r : Int) : has [] r = false := by unfold has; simp
theorem getD_has {S : List (List Pc)} {x y : Int} (h : ∀ s ∈ S, has s x = has s y) (i : Nat) : has (S.getD i []) x = has (S.getD i []) y := by
  rw [List.getD_eq_getElem?_getD]
  cases e : S[i]? with
  | none => simp only [Option.getD_none]; rw [has_empty, has_empty]
  | some s => exact h s (List.mem_of_getElem? e)
theorem next_same {S : List (List Pc)} {x y : Int} (h : ∀ s ∈ S, has s x = has s y) (F : List (List Int)) (l : List Int) : nextL S F l x = nextL S F l y := by
  unfold nextL
  refine List.filter_congr fun z _ => ?_
  rw [getD_has h]
theorem next_none {S : List (List Pc)} {x : Int} (h : ∀ s ∈ S, has s x = false) (F : List (List Int)) (l : List Int) : nextL S F l x = [] := by
  unfold nextL
  refine List.filter_eq_nil_iff.2 fun z _ => ?_
  rw [List.getD_eq_getElem?_getD]
  cases e : S[z.toNat]? with
  | none => simp only [Option.getD_none]; rw [has_empty]; simp
  | some s => simp only [Option.getD_some]; rw [h s (List.mem_of_getElem? e)]; simp
theorem gaps_len (P : List Pc) : ∀ l : List Int, (gaps P l).length ≤ l.length
  | [] => by simp [gaps]
  | [x] => by simp [gaps]
  | x :: y :: l => by
    have ih := gaps_len P (y :: l)
    unfold gaps
    split
    · simp at ih ⊢; omega
    · simp at ih ⊢; omega
theorem insD_len (x : Int) : ∀ l : List Int, (insD x l).length ≤ l.length + 1
  | [] => by simp [insD]
  | y :: l => by
    have ih := insD_len x l
    unfold insD
    split
    · simp
    · split
      · simp
      · simp; omega
theorem srtD_len (l : List Int) : (srtD l).length ≤ l.length := by
  have h : ∀ (l s : List Int), (l.foldl (fun s x => insD x s) s).length ≤ l.length + s.length := by
    intro l
    induction l with
    | nil => intro s; simp
    | cons x l ih =>
      intro s
      have h1 := ih (insD x s)
      have h2 := insD_len x s
      rw [List.foldl_cons, List.length_cons]; omega
  have := h l []
  simpa [srtD] using this
theorem ends_len : ∀ P : List Pc, (ends P).length = 2 * P.length
  | [] => rfl
  | q :: P => by simp [ends, ends_len P]; omega
theorem srt_len : ∀ l : List Pc, (srt l).length = l.length := by
  have hi : ∀ (p : Pc) (l : List Pc), (ins p l).length = l.length + 1 := by
    intro p l
    induction l with
    | nil => simp [ins]
    | cons q l ih => unfold ins; split <;> simp [ih]
  intro l
  induction l with
  | nil => rfl
  | cons p l ih => unfold srt; rw [hi, ih]; rfl
theorem pcs_len (s : List Pc) : (pcs s).length ≤ s.length := by
  unfold pcs raw
  refine Nat.le_trans (merge_len _) ?_
  rw [srt_len]
  exact Nat.le_trans (List.length_filter_le _ _) (by simp)
theorem cutsF_len (S : List (List Pc)) (K : Nat) (h : ∀ s ∈ S, s.length ≤ K) : (cutsF S).length ≤ 2 * (S.length * K) := by
  have hP : (S.flatMap pcs).length ≤ S.length * K := by
    induction S with
    | nil => simp
    | cons s S ih =>
      have h1 := ih (fun q hq => h q (by simp [hq]))
      have h2 := pcs_len s
      have h3 := h s (by simp)
      rw [List.flatMap_cons, List.length_append, List.length_cons, Nat.succ_mul]; omega
  unfold cutsF rngs cutF
  rw [List.length_map]
  have h1 := gaps_len (S.flatMap pcs) (srtD (ends (S.flatMap pcs)))
  have h2 := srtD_len (ends (S.flatMap pcs))
  rw [ends_len] at h2
  omega
namespace Nf
theorem sts_short : ∀ (N : Nat) (e : RE), e.size ≤ N → e.prt = true → ∀ s ∈ sts e, s.length ≤ 20 := by
  intro N
  induction N with
  | zero => intro e h; have := e.size_pos; omega
  | succ N ih =>
    intro e h hp
    cases e with
    | mk k s l =>
      rw [RE.size_mk] at h
      rw [sts_mk]
      rcases prt_cases hp with ⟨rfl, rfl⟩ | ⟨rfl, rfl⟩ | ⟨rfl, rfl, _, h20⟩ | ⟨rfl, a, rfl, ha⟩ | ⟨hk, a, b, rfl, ha, hb⟩
      · simp [stsL_nil]
      · simp [stsL_nil]
      · intro q hq
        rw [if_pos rfl, stsL_nil, List.mem_singleton] at hq
        subst hq; exact h20
      · rw [RE.sizes_cons, RE.sizes_nil] at h
        have := ih a (by omega) ha
        simpa [stsL_cons, stsL_nil] using this
      · rw [RE.sizes_cons, RE.sizes_cons, RE.sizes_nil] at h
        have h1 := ih a (by omega) ha
        have h2 := ih b (by omega) hb
        have k2 : ¬ k = 2 := by omega
        intro q hq
        rw [if_neg k2, stsL_cons, stsL_cons, stsL_nil, List.append_nil, List.mem_append] at hq
        exact hq.elim (h1 q) (h2 q)
theorem stsL_short (l : List RE) (hp : ∀ e ∈ l, e.prt = true) : ∀ s ∈ stsL l, s.length ≤ 20 := by
  induction l with
  | nil => rw [stsL_nil]; simp
  | cons e l ih =>
    intro s hs
    rw [stsL_cons, List.mem_append] at hs
    rcases hs with hs | hs
    · exact sts_short e.size e (Nat.le_refl _) (hp e (by simp)) s hs
    · exact ih (fun e he => hp e (by simp [he])) s hs
theorem mS_cells (l : List RE) (h : ∀ e ∈ l, e.may = true) (hl : l.length ≤ 16) : (cutsF (mS l)).length ≤ 40000 := by
  have hp : ∀ e ∈ l, e.prt = true ∧ e.size ≤ 60 := fun e he => by
    have := (RE.may_iff e).1 (h e he)
    exact ⟨this.2.2, this.1⟩
  have h1 : ∀ s ∈ mS l, s.length ≤ 20 := by
    intro s hs
    unfold mS at hs
    rcases List.mem_cons.1 hs with rfl | hs
    · simp
    · exact stsL_short l (fun e he => (hp e he).1) s hs
  have h2 := cutsF_len (mS l) 20 h1
  have h3 := stsL_size l hp
  have h4 : (mS l).length = 1 + (stsL l).length := by unfold mS; simp; omega
  omega
end Nf
end Go.Proofs.YtmgfpcblbbpahaaGreat

namespace Go.Proofs.YtmgfpcblbbpahaaGreat
open Go.RowKit Ru

set_option maxRecDepth 100000 in
set_option maxHeartbeats 8000000 in
theorem nfaCells_walk (L : List (List Int)) (vs : List Value) (lv : Value) (a : List Int) (av : Value) (r r2 : Int) (w : World) (hL : RowsI w lv vs L) (hz : ∀ l ∈ L, ∀ n ∈ l, (Lit.int .i64 n).wf = true)
    (ha : Row w av a.length (a.map (Value.int .i64))) (hza : ∀ n ∈ a, (Lit.int .i64 n).wf = true) (hr : (Lit.int .i64 r).wf = true) (hr2 : (Lit.int .i64 r2).wf = true) :
    Calls Tryz.prog 7 #[lv, av, .int .i64 r, .int .i64 r2] w fun e w' => e = .returned (.bool true) ∧ Below w.heap.size w w' := by
  have hres := res_any L vs lv w hL
  obtain ⟨oa, ca, rfl⟩ := Row.form ha
  have HRES := Lib.hid hres
  have HA := Lib.hid ha
  clear hres hL hz ha hza hr hr2
  go_enter Tryz.func7, Tryz.ntmps7
  go_wp2_with fail
  refine HRES.out.mono ?_
  rintro x w1 ⟨u1, rfl, hre, hb1⟩
  have hbu := build_any _ _ _ w1 hre (Nf.resL_fit L) (Nf.resL_takes L)
  have HB1 := Lib.hid hb1
  have HBU := Lib.hid hbu
  clear hre hb1 hbu
  go_wp2_with fail
  refine HBU.out.mono ?_
  rintro x w2 ⟨pb, so, fo, eo, co, sc, fc, ec, cc, ss, fs, es, rfl, hn, hb2, hpb⟩
  rw [show (RE.mk 0 [] (Nf.resL L)).parts = Nf.resL L from rfl] at hn
  obtain ⟨S, hS⟩ : ∃ S, S = Nf.mS (Nf.resL L) := ⟨_, rfl⟩
  obtain ⟨F, hF⟩ : ∃ F, F = Nf.mF (Nf.resL L) := ⟨_, rfl⟩
  rw [← hS, ← hF] at hn
  obtain ⟨C, hC⟩ : ∃ C, C = cutsF S := ⟨_, rfl⟩
  rw [← hC] at hn
  have HN := Lib.hid hn
  have HB2 := Lib.hid (bel_then HB1.out hb2)
  have HCS := Lib.hid (And.intro hC hS)
  clear hn hb2 hpb HBU HRES hS hF hC
  have htold := fun X => told7_any X
  have HT := Lib.hid htold
  clear htold
  by_cases h20 : (20 : Int) < (a.length : Int)
  · go_wp2_with (go_at_call 10; refine (HT.out _).mono ?_; rintro x w3 ⟨rfl, hb3⟩)
    go_ret
    exact ⟨rfl, bel_then HB2.out hb3⟩
  · obtain ⟨v, hv, ev⟩ := afu64_mod' r 5 (by omega) (by omega)
    have ev1 : (IntKind.u64.wrap r).tmod 5 = (v : Int) := ev
    have ev2 : IntKind.i64.wrap (v : Int) = (v : Int) := IntWalk.i64_in _ (by omega)
    clear ev
    obtain ⟨v2, hv2, ev⟩ := afu64_mod' r2 5 (by omega) (by omega)
    have ev3 : (IntKind.u64.wrap r2).tmod 5 = (v2 : Int) := ev
    have ev4 : IntKind.i64.wrap (v2 : Int) = (v2 : Int) := IntWalk.i64_in _ (by omega)
    clear ev
    have hCl : C.length ≤ 40000 := by rw [HCS.out.1, HCS.out.2]; exact Nf.mS_cells _ (fun e he => ((Nf.resL_all L).1 e he).2.1) (by have := (Nf.resL_all L).2.2; omega)
    have hce := cells_any HN.out (by omega)
    have HCE := Lib.hid hce
    clear hce
    go_wp2_with fail
    refine HCE.out.mono ?_
    rintro x w3 ⟨u3, rfl, hu3, hb3⟩
    obtain ⟨o3, c3, rfl⟩ := Row.form (Row.owned hu3)
    have HR3 := Lib.hid (Row.owned hu3)
    have HB3 := Lib.hid hb3
    clear hu3 hb3 HCE
    go_wp2_with fail
    obtain ⟨x, hx⟩ : ∃ x : Int, x = 97 + (v : Int) := ⟨_, rfl⟩
    obtain ⟨y, hy⟩ : ∃ y : Int, y = 97 + (v2 : Int) := ⟨_, rfl⟩
    rw [← hx, ← hy]
    have hxr : 0 ≤ x ∧ x < 55296 := by omega
    have hyr : 0 ≤ y ∧ y < 55296 := by omega
    have HXY := Lib.hid (And.intro hxr hyr)
    clear hx hy hxr hyr ev1 ev2 ev3 ev4 hv hv2
    go_loopg [14, 15, 16] C.length (fun g s14 s15 s16 wx => ∃ k : Nat, k + g = C.length ∧ s16 = .int .i64 (k : Int) ∧ (∃ sm inn : Bool, s14 = .bool sm ∧ s15 = .bool inn ∧ (sm = true → ∀ s ∈ S, has s x = has s y) ∧ (inn = false → ∀ c ∈ C.take k, ¬ (c.1 ≤ x ∧ x ≤ c.2))) ∧ Below w3.heap.size w3 wx)
    case atStart =>
      refine ⟨0, by omega, rfl, ⟨false, false, rfl, rfl, ?_, ?_⟩, Below.refl _ _⟩
      · intro h; cases h
      · intro _ c hc; rw [List.take_zero] at hc; cases hc
    case round =>
      obtain ⟨k, hk, rfl, ⟨sm, inn, rfl, rfl, hsm, hin⟩, hbx⟩ := hrel
      have HBX := Lib.hid hbx
      have HSM := Lib.hid hsm
      have HIN := Lib.hid hin
      clear hsm hin hbx
      by_cases hlt : k < C.length
      · obtain ⟨g1, hg1⟩ : ∃ g1, g1 + 1 = gk := ⟨gk - 1, by omega⟩
        have hd : (k : Int) < (C.length : Int) := by omega
        obtain ⟨⟨lo, hi⟩, hc⟩ : ∃ c, C[k]? = some c := ⟨C[k], List.getElem?_eq_getElem hlt⟩
        obtain ⟨b, off, cap', e, hbl, hcl⟩ := HR3.out.cells' (by omega)
        simp only [Value.slice.injEq, true_and] at e
        obtain ⟨rfl, rfl⟩ := e
        have hgd : C.getD k (0, 0) = (lo, hi) := by rw [List.getD, hc]; rfl
        have hfa := flatK_at .i32 C k hlt
        rw [hgd] at hfa
        have k0 := hcl _ _ hfa.1
        have k1 : w3.cell? ⟨b, off + k * 2 + 1, none⟩ = some (.int .i32 hi) := hcl _ _ hfa.2
        rw [← HBX.out.cell hbl] at k0
        rw [← HBX.out.cell hbl] at k1
        have hmem : (lo, hi) ∈ cutsF S := by rw [← HCS.out.1]; exact List.mem_of_getElem? hc
        have hstep : ∀ (sm' inn' : Bool), sm' = (sm || (decide (lo ≤ x ∧ x ≤ hi) && decide (lo ≤ y ∧ y ≤ hi))) → inn' = (inn || decide (lo ≤ x ∧ x ≤ hi)) → (sm' = true → ∀ s ∈ S, has s x = has s y) ∧ (inn' = false → ∀ c ∈ C.take (k + 1), ¬ (c.1 ≤ x ∧ x ≤ c.2)) := by
          rintro _ _ rfl rfl
          refine ⟨fun h => ?_, fun h c hc' => ?_⟩
          · rw [Bool.or_eq_true, Bool.and_eq_true, decide_eq_true_eq, decide_eq_true_eq] at h
            rcases h with h | h
            · exact HSM.out h
            · exact cell_same hmem HXY.out.1 HXY.out.2 h.1 h.2
          · rw [Bool.or_eq_false_iff, decide_eq_false_iff_not] at h
            rw [List.take_add_one, hc, List.mem_append] at hc'
            rcases hc' with hc' | hc'
            · exact HIN.out h.1 c hc'
            · simp at hc'; subst hc'; exact h.2
        have HST := Lib.hid hstep
        clear hstep hmem hfa hgd hc hcl
        go_upto_region 10 with (fail)
        go_cut [17, 18] (fun s17 s18 wx => s17 = .bool (decide (lo ≤ x ∧ x ≤ hi)) ∧ s18 = .bool (decide (lo ≤ y ∧ y ≤ hi)) ∧ Below wr.heap.size wr wx)
        case first =>
          by_cases hx1 : lo ≤ x
          · have dx : decide (lo ≤ x) = true := decide_eq_true hx1
            have ex : decide (lo ≤ x ∧ x ≤ hi) = decide (x ≤ hi) := by simp [hx1]
            by_cases hy1 : lo ≤ y
            · have dy : decide (lo ≤ y) = true := decide_eq_true hy1
              have ey : decide (lo ≤ y ∧ y ≤ hi) = decide (y ≤ hi) := by simp [hy1]
              go_quiet (fail)
              go_wp2_with fail
              go_meet
              exact ⟨by rw [ex], by rw [ey], below_drewN (Below.refl _ _) _⟩
            · have dy : decide (lo ≤ y) = false := decide_eq_false hy1
              have ey : decide (lo ≤ y ∧ y ≤ hi) = false := by simp [hy1]
              go_quiet (fail)
              go_wp2_with fail
              go_meet
              exact ⟨by rw [ex], by rw [ey], below_drewN (Below.refl _ _) _⟩
          · have dx : decide (lo ≤ x) = false := decide_eq_false hx1
            have ex : decide (lo ≤ x ∧ x ≤ hi) = false := by simp [hx1]
            by_cases hy1 : lo ≤ y
            · have dy : decide (lo ≤ y) = true := decide_eq_true hy1
              have ey : decide (lo ≤ y ∧ y ≤ hi) = decide (y ≤ hi) := by simp [hy1]
              go_quiet (fail)
              go_wp2_with fail
              go_meet
              exact ⟨by rw [ex], by rw [ey], below_drewN (Below.refl _ _) _⟩
            · have dy : decide (lo ≤ y) = false := decide_eq_false hy1
              have ey : decide (lo ≤ y ∧ y ≤ hi) = false := by simp [hy1]
              go_quiet (fail)
              go_wp2_with fail
              go_meet
              exact ⟨by rw [ex], by rw [ey], below_drewN (Below.refl _ _) _⟩
        case rest =>
          obtain ⟨rfl, rfl, hbc⟩ := hcut
          have HBC := Lib.hid (bel_then HBX.out hbc)
          obtain ⟨P, hP⟩ : ∃ P, P = decide (lo ≤ x ∧ x ≤ hi) := ⟨_, rfl⟩
          obtain ⟨Q, hQ⟩ : ∃ Q, Q = decide (lo ≤ y ∧ y ≤ hi) := ⟨_, rfl⟩
          have hst := HST.out
          rw [← hP, ← hQ] at hst ⊢
          have HS2 := Lib.hid hst
          clear hst hP hQ hbc HST HSM HIN k0 k1
          cases sm <;> cases inn <;> cases P <;> cases Q
          all_goals (
            go_wp2_with fail
            go_roundg g1
            case measure => omega
            case rel => exact ⟨k + 1, by omega, by simp, ⟨_, _, rfl, rfl, HS2.out _ _ rfl rfl⟩, HBC.out⟩)
      · obtain rfl : k = C.length := by omega
        rw [List.take_length] at HIN
        have hnx := next_any (HN.out.moved (bel_then HB3.out HBX.out)) a oa ca ((HA.out.below HB2.out).below (bel_then HB3.out HBX.out)) (by omega) x
        have HNX := Lib.hid hnx
        clear hnx
        go_wp2_with fail
        refine HNX.out.mono ?_
        rintro e w4 ⟨u4, rfl, hu4, hb4⟩
        have hny := next_any (HN.out.moved (bel_then HB3.out (bel_then HBX.out hb4))) a oa ca ((HA.out.below HB2.out).below (bel_then HB3.out (bel_then HBX.out hb4))) (by omega) y
        obtain ⟨o4, c4, rfl⟩ := nf_slice hu4
        have HR4 := Lib.hid (Row.owned hu4)
        have HB4 := Lib.hid hb4
        have HNY := Lib.hid hny
        clear hny hu4 hb4 HNX
        go_wp2_with fail
        refine HNY.out.mono ?_
        rintro e w5 ⟨u5, rfl, hu5, hb5⟩
        obtain ⟨o5, c5, rfl⟩ := nf_slice hu5
        have HR5 := Lib.hid (Row.owned hu5)
        have HB5 := Lib.hid hb5
        clear hu5 hb5 HNY
        have hlen : (nextL S F a x).length ≤ 1000 := Nat.le_trans (Nf.next_len S F HN.out.fit a x) HN.out.few
        have hsame : sm = true → nextL S F a y = nextL S F a x := fun h => (next_same (HSM.out h) F a).symm
        have hnone : inn = false → (((nextL S F a x).length : Int) == 0) = true := fun h => by
          rw [next_none (cell_none HXY.out.1 (by rw [← HCS.out.1]; exact HIN.out h)) F a]; rfl
        obtain ⟨X, hX⟩ : ∃ X, X = nextL S F a x := ⟨_, rfl⟩
        obtain ⟨Y, hY⟩ : ∃ Y, Y = nextL S F a y := ⟨_, rfl⟩
        rw [← hX] at hlen hsame hnone HR4 ⊢
        rw [← hY] at hsame HR5 ⊢
        have HSA := Lib.hid hsame
        have HNO := Lib.hid hnone
        clear hX hY hsame hnone HSM HIN
        cases sm <;> cases inn
        all_goals (
          first | (obtain h0 := HNO.out rfl) | skip
          first | (have HE := Lib.hid (HSA.out rfl)) | skip
          clear HSA HNO
          go_wp2_with (first
            | (go_at_call 10; refine (HT.out _).mono ?_; rintro x w9 ⟨rfl, hb9⟩; have HB9 := Lib.hid hb9; clear hb9)
            | (go_at_call 13; refine (ints7_same X _ _ _ ((HR4.out.below HB5.out).below HB9.out) (by have h := HR5.out.below HB9.out; rw [HE.out] at h ⊢; exact h) (by omega)).mono ?_; rintro x w10 ⟨rfl, hb10⟩; have HB10 := Lib.hid hb10; clear hb10))
          go_ret
          first
            | exact ⟨rfl, bel_then HB2.out (bel_then HB3.out (bel_then HBX.out (bel_then HB4.out (bel_then HB5.out (bel_then HB9.out HB10.out)))))⟩
            | exact ⟨rfl, bel_then HB2.out (bel_then HB3.out (bel_then HBX.out (bel_then HB4.out (bel_then HB5.out HB9.out))))⟩)
end Go.Proofs.YtmgfpcblbbpahaaGreat
