/- runes: RunesCells. -/
import Derived.Test.YtjhfncmeiaogaaaRuneLaw3
import Derived.Test.YtjhfncmeiaogaaaRuneMath5
import Derived.Test.YtjhfncmeiaogaaaRowCutS
set_option linter.unusedVariables false
set_option linter.unusedSimpArgs false
namespace Go.Proofs.Ytjhfncmeiaogaaa
open Go.RowKit Ru

theorem elemRanges : Try.prog.elem 47 = 59 := by kernel_rfl
theorem undRanges : Try.prog.underlying 47 = some (.slice (Try.prog.elem 47)) := by rw [elemRanges]; exact Try.underlying47
/-- 'l[i:i+1]' as a fact for a walk -/
theorem getD_one (l : List Pc) (i : Nat) (hi : i < l.length) : (l.drop i).take 1 = [l.getD i (0, 0)] := by
  rw [List.drop_eq_getElem_cons hi, List.take_succ_cons, List.take_zero]
  simp [List.getD, List.getElem?_eq_getElem hi]
theorem cut_one (o : Option Addr) (cap : Nat) (l : List Pc) (i : Nat) (hi : i < l.length) (hc : l.length ≤ cap) : ∃ o1 c1,
    (∀ w' : World, (Instr.sliceAt 47 (.slice o l.length cap) (some (.int .i64 i)) (some (.int .i64 ((i : Int) + 1))) none).run Try.prog w' = .ok (.slice o1 1 c1) w') ∧
      ∀ w', Row w' (.slice o l.length cap) l.length (flatK .i32 l) → Row w' (.slice o1 1 c1) 1 (flatK .i32 [l.getD i (0, 0)]) := by
  obtain ⟨i0, hi0, hz0, hz1, hz2⟩ := infoRange
  have e2 : ((i : Int) + 1).toNat = i + 1 := by omega
  have e1 : ((i : Int)).toNat = i := by omega
  have e4 : i + 1 - i = 1 := by omega
  refine ⟨(if cap = i then o else o.map (·.add (i * 2))), cap - i, fun w' => ?_, fun w' hr => ?_⟩
  · have hsz : (sizeOf (Try.prog.elem 47)).run Try.prog w' = .ok 2 w' := by
      rw [elemRanges]; simp [sizeOf, run_typeInfo _ hi0, hz1, go_sem]
    rw [run_sliceAt_slice _ _ _ _ _ _ undRanges, run_slice_lh w' 47 o l.length cap undRanges .i64 .i64 (i : Int) ((i : Int) + 1) (by omega) (by omega) (by omega), hsz]
    rw [Result.andThen_ok, e1, e2]
    unfold Go.sliced
    rw [e4]
  · have h := hr.slicedS (flatK_len _ _) (show i ≤ i + 1 by omega) (show i + 1 ≤ l.length by omega)
    rw [e4] at h
    have e3 : ((flatK .i32 l).drop (i * 2)).take (1 * 2) = flatK .i32 [l.getD i (0, 0)] := by
      rw [flatK_drop, flatK_take, getD_one l i hi]
    rw [e3] at h
    unfold Go.sliced at h
    rw [e4] at h
    exact h

theorem insD_le (x : Int) : ∀ l, (insD x l).length ≤ l.length + 1
  | [] => by simp [insD]
  | y :: l => by
    have := insD_le x l
    unfold insD
    split
    · simp
    · split
      · simp
      · simp only [List.length_cons]; omega
theorem srtD_le : ∀ (l s : List Int), (l.foldl (fun s x => insD x s) s).length ≤ l.length + s.length
  | [], s => by simp
  | x :: l, s => by
    have h1 := srtD_le l (insD x s)
    have h2 := insD_le x s
    simp only [List.foldl_cons, List.length_cons]; omega
theorem ends_le : ∀ P : List Pc, (ends P).length = 2 * P.length
  | [] => rfl
  | q :: P => by simp only [ends, List.length_cons, ends_le P]; omega
theorem cutF_le (P : List Pc) : (cutF P).length ≤ 2 * P.length := by
  have h1 := gaps_len P (srtD (ends P))
  have h2 := srtD_le (ends P) []
  have h3 := ends_le P
  unfold cutF
  unfold srtD at h1 ⊢
  simp only [List.length_nil] at h2
  omega

set_option maxHeartbeats 20000000 in
set_option maxRecDepth 1000000 in
theorem runesCells_walk (a : List Pc) (va : Value) (b : List Pc) (vb : Value) (w : World) (ha : Row w va a.length (flatK .i32 a)) (za : i32s a) (hb : Row w vb b.length (flatK .i32 b)) (zb : i32s b) :
    Calls Try.prog 13 #[va, vb] w fun e w' => e = .returned (.bool true) ∧ Below w.heap.size w w' := by
  obtain ⟨i0, hi, hz0, hz1, hz2⟩ := infoRange
  have Ha := Lib.hid ha
  have Hb := Lib.hid hb
  obtain ⟨oa, ca, rfl⟩ := ha.form
  obtain ⟨ob, cb, rfl⟩ := hb.form
  clear ha hb
  go_enter Try.func13, Try.ntmps13
  rcases Nat.lt_or_ge 30 a.length with hla | hla
  · have d1 : decide (a.length ≤ 30) = false := by simpa using hla
    go_wp2_with (first
      | (go_at_call_of 26 (Value.slice oa a.length ca); refine (few_any _ _ _ _ Ha.out).mono ?_; rintro e w' ⟨rfl, rfl⟩)
      | (go_at_call 27; refine (told5_any _).mono ?_; rintro e w2 ⟨rfl, hb⟩))
    go_ret
    exact ⟨rfl, hb⟩
  rcases Nat.lt_or_ge 30 b.length with hlb | hlb
  · have d1 : decide (a.length ≤ 30) = true := by simpa using hla
    have d2 : decide (b.length ≤ 30) = false := by simpa using hlb
    go_wp2_with (first
      | (go_at_call_of 26 (Value.slice oa a.length ca); refine (few_any _ _ _ _ Ha.out).mono ?_; rintro e w' ⟨rfl, rfl⟩)
      | (go_at_call 26; refine (few_any _ _ _ _ Hb.out).mono ?_; rintro e w' ⟨rfl, rfl⟩)
      | (go_at_call 27; refine (told5_any _).mono ?_; rintro e w2 ⟨rfl, hb⟩))
    go_ret
    exact ⟨rfl, hb⟩
  have d1 : decide (a.length ≤ 30) = true := by simpa using hla
  have d2 : decide (b.length ≤ 30) = true := by simpa using hlb
  go_upto_region 3 with (first
      | (go_at_call_of 26 (Value.slice oa a.length ca); refine (few_any _ _ _ _ Ha.out).mono ?_; rintro e w' ⟨rfl, rfl⟩)
      | (go_at_call 26; refine (few_any _ _ _ _ Hb.out).mono ?_; rintro e w' ⟨rfl, rfl⟩))
  clear d1 d2
  have HZ := Lib.hid (And.intro za zb)
  go_wp2_with fail
  have hv : Row (w.alloc (.cells #[.slice oa a.length ca, .slice ob b.length cb] 47)) (.slice (some ⟨w.heap.size, 0, none⟩) 2 2) 2 [.slice oa a.length ca, .slice ob b.length cb] :=
    Row.litV w 47 _ 2 _ rfl rfl (by decide)
  have hb3 := bel_new (Below.refl _ w) (.cells #[.slice oa a.length ca, .slice ob b.length cb] 47)
  have hrs : RowsR (w.alloc (.cells #[.slice oa a.length ca, .slice ob b.length cb] 47)) (.slice (some ⟨w.heap.size, 0, none⟩) 2 2) [.slice oa a.length ca, .slice ob b.length cb] [a, b] := by
    refine ⟨rfl, hv, fun i hi => ?_⟩
    match i, hi with
    | 0, _ => exact Ha.out.below hb3
    | 1, _ => exact Hb.out.below hb3
  have H3 := Lib.hid (And.intro hrs hb3)
  clear hrs hb3 hv
  refine (cutsR_any [a, b] _ _ _ H3.out.1 (fun l hl => by
    simp only [List.mem_cons, List.not_mem_nil, or_false] at hl
    rcases hl with rfl | rfl
    · exact HZ.out.1
    · exact HZ.out.2) (by simp) (fun l hl => by
    simp only [List.mem_cons, List.not_mem_nil, or_false] at hl
    rcases hl with rfl | rfl <;> omega)).mono ?_
  rintro e w1 ⟨u1, rfl, hown1, hb1⟩
  obtain ⟨P, hP⟩ : ∃ P, P = [a, b].flatMap pcs := ⟨_, rfl⟩
  have hPok : ∀ q ∈ P, 0 ≤ q.1 ∧ q.1 < q.2 ∧ q.2 ≤ 1112064 := by rw [hP]; exact flat_ok _
  have hPa : ∀ q ∈ pcs a, q ∈ P := fun q hq => by rw [hP]; simp [hq]
  have hPb : ∀ q ∈ pcs b, q ∈ P := fun q hq => by rw [hP]; simp [hq]
  have hPin : ∀ p, inP P p ↔ inR a p ∨ inR b p := fun p => by
    rw [hP]; simp only [List.flatMap_cons, List.flatMap_nil, List.append_nil]
    rw [inP_append, pcs_in, pcs_in]
  have hPl : P.length ≤ 60 := by
    have := pcs_le a; have := pcs_le b
    rw [hP]; simp only [List.flatMap_cons, List.flatMap_nil, List.append_nil, List.length_append]; omega
  obtain ⟨C, hC⟩ : ∃ C, C = cutF P := ⟨_, rfl⟩
  have hcl : cutsF [a, b] = rngs C := by unfold cutsF; rw [hC, hP]
  obtain ⟨L, hL⟩ : ∃ L, L = rngs C := ⟨_, rfl⟩
  rw [hcl, ← hL] at hown1
  have hLC : L.length = C.length := by rw [hL, rngs_len]
  have hCl : C.length ≤ 1000 := by
    have := cutF_le P; rw [hC]; omega
  have hCok : ∀ q ∈ C, 0 ≤ q.1 ∧ q.1 < q.2 ∧ q.2 ≤ 1112064 := by rw [hC]; exact cutF_ok' hPok
  have zL : i32s L := by rw [hL]; exact i32_rngs hCok
  have hnrm : nrm L = orF a b := nrm_ext fun p => by
    rw [hL, inR_rngs_ok hCok, hC, cut_union hPok, hPin, inR_append]
  have hcnt : cntF L = cntF (orF a b) := cntF_congr fun p => by
    rw [hL, inR_rngs_ok hCok, hC, cut_union hPok, hPin, inR_or]
  have hcell : ∀ i, i < L.length → ∃ s t xa xb, L.getD i (0, 0) = (vlu s, vlu (t - 1)) ∧ 0 ≤ s ∧ s < t ∧ t ≤ 1112064 ∧ cntF [L.getD i (0, 0)] = t - s ∧ cntF (andF [L.getD i (0, 0)] a) = (if xa = true then t - s else 0) ∧ cntF (andF [L.getD i (0, 0)] b) = (if xb = true then t - s else 0) ∧ (xa || xb) = true := by
    intro i hi
    have hiC : i < C.length := by omega
    have hm : C.getD i (0, 0) ∈ cutF P := by rw [← hC]; simp [List.getD, List.getElem?_eq_getElem hiC]
    have hLi : L.getD i (0, 0) = (vlu (C.getD i (0, 0)).1, vlu ((C.getD i (0, 0)).2 - 1)) := by
      rw [hL]; unfold rngs; simp [List.getD, List.getElem?_eq_getElem hiC]
    obtain ⟨q, hq⟩ : ∃ q, q = C.getD i (0, 0) := ⟨_, rfl⟩
    rw [← hq] at hm hLi
    obtain ⟨s, t⟩ := q
    obtain ⟨h1, h2, h3, h4, _⟩ := cell_in hPok (fun q hq => hq) hm
    have ha5 := (cell_in hPok hPa hm).2.2.2.2
    have hb5 := (cell_in hPok hPb hm).2.2.2.2
    refine ⟨s, t, inB (pcs a) s, inB (pcs b) s, hLi, h2, h1, h3, ?_, ?_, ?_, ?_⟩
    · rw [hLi]; exact cell_cnt h2 h1 h3
    · rw [hLi]; exact cell_and h2 h1 h3 a ha5
    · rw [hLi]; exact cell_and h2 h1 h3 b hb5
    · have h6 := (inB_iff _ _).1 h4
      rw [hPin, ← pcs_in, ← pcs_in, ← inB_iff, ← inB_iff] at h6
      rcases h6 with h6 | h6 <;> simp [h6]
  obtain ⟨o1, c1, rfl⟩ := owns_slice hown1
  have hcap : L.length ≤ c1 := by
    obtain ⟨_, _, e, h, _⟩ := Row.owned hown1
    simp only [Value.slice.injEq] at e; omega
  have H1 := Lib.hid (And.intro (Row.owned hown1) (And.intro (bel_then H3.out.2 hb1) (And.intro hcell (And.intro hnrm (And.intro hcnt zL)))))
  have hLl : L.length ≤ 1000 := by omega
  clear hown1 hb1 hP hPok hPa hPb hPin hPl hC hcl hL hLC hCl hCok zL hnrm hcnt hcell
  go_wp2_with fail
  have hB1 : Below w.heap.size w w1 := H1.out.2.1
  have za := HZ.out.1
  have zb := HZ.out.2
  go_loopw [6, 7] (fun u i wr => ∃ k : Nat, k ≤ L.length ∧ i = .int .i64 k ∧ wr.ownsRow w1.heap.size 59 2 u k (flatK .i32 (L.take k)) ∧ Below w1.heap.size w1 wr)
    (fun _ i _ => L.length - (intOf i).toNat)
  case atStart => exact ⟨0, Nat.zero_le _, rfl, World.ownsRow_nil _ _ _ _, Below.refl _ _⟩
  case round =>
    obtain ⟨k, hk, rfl, hown0, hbel⟩ := hrel
    by_cases hk2 : k < L.length
    · obtain ⟨o2, c2, hst, hrw⟩ := cut_one o1 c1 L k hk2 hcap
      obtain ⟨s, t, xa, xb, _, h0, h1, h2, hn, hx, hy, hor⟩ := H1.out.2.2.1 k hk2
      obtain ⟨G, hG⟩ : ∃ G, G = [L.getD k (0, 0)] := ⟨_, rfl⟩
      have hGl : G.length = 1 := by rw [hG]; rfl
      have zG : i32s G := by
        rw [hG]; intro q hq; simp only [List.mem_singleton] at hq; subst hq
        exact H1.out.2.2.2.2.2 _ (by simp [List.getD, List.getElem?_eq_getElem hk2])
      have HG := Lib.hid (show ∀ w', Row w' (.slice o1 L.length c1) L.length (flatK .i32 L) → Row w' (.slice o2 1 c2) G.length (flatK .i32 G) from fun w' h => by have := hrw w' h; rw [hG]; exact this)
      rw [← hG] at hn hx hy
      obtain ⟨X, hX⟩ : ∃ X, X = andF G a := ⟨_, rfl⟩
      obtain ⟨Y, hY⟩ : ∃ X, X = andF G b := ⟨_, rfl⟩
      have lX : X.length ≤ 1000 := by
        have := nt_le (orF (nt G) (nt a)); have := nrm_le (nt G ++ nt a); have := nt_le G; have := nt_le a
        rw [List.length_append] at *; rw [hX]; unfold andF orF at *; omega
      have lY : Y.length ≤ 1000 := by
        have := nt_le (orF (nt G) (nt b)); have := nrm_le (nt G ++ nt b); have := nt_le G; have := nt_le b
        rw [List.length_append] at *; rw [hY]; unfold andF orF at *; omega
      have zX : i32s X := by rw [hX]; exact i32_nt _
      have zY : i32s Y := by rw [hY]; exact i32_nt _
      rw [← hX] at hx
      rw [← hY] at hy
      obtain ⟨n, hn'⟩ : ∃ n, n = t - s := ⟨_, rfl⟩
      rw [← hn'] at hn hx hy
      have n0 : 0 < n := by omega
      have n1 : n ≤ 1112064 := by omega
      have nw : IntKind.i64.wrap (n + n) = n + n := iwrap (by omega)
      have nd : (n == 0) = false := by simp; omega
      have nd1 : (n != 0) = true := by simp; omega
      have nd2 : (n + n == 0) = false := by simp; omega
      have HX := Lib.hid (And.intro hX hY)
      have Hs := Lib.hid hG
      obtain ⟨b1, off, cap', e, hlt⟩ := H1.out.1.head (by omega)
      simp only [Value.slice.injEq, true_and] at e
      obtain ⟨rfl, rfl⟩ := e
      obtain ⟨_, c1', c2'⟩ := H1.out.1.pair hk2 rfl
      have hs := take_one L (0, 0) k hk2
      obtain ⟨q, hq⟩ : ∃ q, q = L.getD k (0, 0) := ⟨_, rfl⟩
      rw [← hq] at c1' c2' hs
      obtain ⟨lo, hi'⟩ := q
      simp only at c1' c2'
      have HQ := Lib.hid (And.intro hs (And.intro c1' c2'))
      clear hs c1' c2' hq hX hY hG hrw hn' h0 h1 h2
      have finish : True := trivial
      rcases (show (xa = true ∧ xb = true) ∨ (xa = true ∧ xb = false) ∨ (xa = false ∧ xb = true) by cases xa <;> cases xb <;> simp_all) with ⟨rfl, rfl⟩ | ⟨rfl, rfl⟩ | ⟨rfl, rfl⟩
      all_goals
        simp only [if_true, Bool.false_eq_true, if_false] at hx hy
        have HK := Lib.hid (And.intro hn (And.intro hx hy))
        clear hn hx hy hor
        go_upto_region 13 with (first
        | (go_at_call 37; refine (and_any _ _ _ _ _ (by first | exact Ha.out.below (by repeat (first | exact Below.refl _ _ | assumption | (refine Below.drew ?_) | (refine below_drewN ?_ _) | (refine bel_new ?_ _) | (refine bel_then ?_ (by assumption)))) | exact Hb.out.below (by repeat (first | exact Below.refl _ _ | assumption | (refine Below.drew ?_) | (refine below_drewN ?_ _) | (refine bel_new ?_ _) | (refine bel_then ?_ (by assumption)))) | exact (Row.owned (by assumption)).below (by repeat (first | exact Below.refl _ _ | assumption | (refine Below.drew ?_) | (refine below_drewN ?_ _) | (refine bel_new ?_ _) | (refine bel_then ?_ (by assumption)))) | exact HG.out _ (H1.out.1.below (by repeat (first | exact Below.refl _ _ | assumption | (refine Below.drew ?_) | (refine below_drewN ?_ _) | (refine bel_new ?_ _) | (refine bel_then ?_ (by assumption)))))) (by first | exact Ha.out.below (by repeat (first | exact Below.refl _ _ | assumption | (refine Below.drew ?_) | (refine below_drewN ?_ _) | (refine bel_new ?_ _) | (refine bel_then ?_ (by assumption)))) | exact Hb.out.below (by repeat (first | exact Below.refl _ _ | assumption | (refine Below.drew ?_) | (refine below_drewN ?_ _) | (refine bel_new ?_ _) | (refine bel_then ?_ (by assumption)))) | exact (Row.owned (by assumption)).below (by repeat (first | exact Below.refl _ _ | assumption | (refine Below.drew ?_) | (refine below_drewN ?_ _) | (refine bel_new ?_ _) | (refine bel_then ?_ (by assumption)))) | exact HG.out _ (H1.out.1.below (by repeat (first | exact Below.refl _ _ | assumption | (refine Below.drew ?_) | (refine below_drewN ?_ _) | (refine bel_new ?_ _) | (refine bel_then ?_ (by assumption)))))) (by assumption) (by assumption) (by omega) (by omega)).mono ?_; rintro e w2 ⟨u2, rfl, hown, hb⟩; (first | rw [← HX.out.1] at hown | rw [← HX.out.2] at hown); obtain ⟨o2, c2, rfl⟩ := owns_slice hown)
        | (go_at_call 41; refine (count_any _ _ _ (by first | exact Ha.out.below (by repeat (first | exact Below.refl _ _ | assumption | (refine Below.drew ?_) | (refine below_drewN ?_ _) | (refine bel_new ?_ _) | (refine bel_then ?_ (by assumption)))) | exact Hb.out.below (by repeat (first | exact Below.refl _ _ | assumption | (refine Below.drew ?_) | (refine below_drewN ?_ _) | (refine bel_new ?_ _) | (refine bel_then ?_ (by assumption)))) | exact (Row.owned (by assumption)).below (by repeat (first | exact Below.refl _ _ | assumption | (refine Below.drew ?_) | (refine below_drewN ?_ _) | (refine bel_new ?_ _) | (refine bel_then ?_ (by assumption)))) | exact HG.out _ (H1.out.1.below (by repeat (first | exact Below.refl _ _ | assumption | (refine Below.drew ?_) | (refine below_drewN ?_ _) | (refine bel_new ?_ _) | (refine bel_then ?_ (by assumption)))))) (by assumption) (by omega)).mono ?_; rintro e w2 ⟨rfl, hb⟩; (first | rw [HK.out.1] | rw [HK.out.2.1] | rw [HK.out.2.2])))
        have hB8 : Below wr.heap.size wr w2 := by repeat (first | exact Below.refl _ _ | assumption | (refine Below.drew ?_) | (refine below_drewN ?_ _) | (refine bel_new ?_ _) | (refine bel_then ?_ (by assumption)))
        have hB9 : Below w1.heap.size w1 w2 := bel_then hbel hB8
        have hown9 := owns_below hown0 hB8
        have cc1 := HQ.out.2.1
        have cc2 := HQ.out.2.2
        rw [← hB9.cell hlt] at cc1 cc2
        obtain ⟨o6, c6, rfl⟩ := owns_slice hown9
        have hszB := hB9.size
        clear hB8 hown0
        go_wp2_with (at_builtin; go_loud (refine wpList_append_row _ rfl _ _ 47 rfl w1.heap.size 59 i0 (.agg #[.int .i32 0, .int .i32 0]) 2 8 Try.underlying47 hi hz0 hz1 hz2 rfl (by decide) _ _ _ rfl (hown9.alloc _) _ 1 [.int .i32 lo, .int .i32 hi'] rfl (rowNew2 _ _ _ _ w2.heap.size rfl) rfl (by simp [Value.oneCell']) (by unfold maxLen; omega) (by omega) (by simp; omega) ?_); intro v' w3 hown3 hgrow3)
        have hB3 : Below w1.heap.size w1 w3 := bel_grown (bel_new hB9 _) hgrow3 (fun j hj => (hown9.lt j hj).1)
        have H9 := Lib.hid (And.intro hown3 hB3)
        clear hown3 hgrow3 hB3
        go_roundw
        case rel => exact ⟨k + 1, by omega, by go_num, by rw [HQ.out.1, flatK_append]; exact H9.out.1, H9.out.2⟩
        case measure => simp [intOf] <;> omega
    · have hkn : k = L.length := by omega
      subst hkn
      rw [List.take_length] at hown0
      have l2 := nrm_le (a ++ b)
      rw [List.length_append] at l2
      have zL := H1.out.2.2.2.2.2
      obtain ⟨O, hO⟩ : ∃ N, N = orF a b := ⟨_, rfl⟩
      have m2 : O.length ≤ 1000 := by rw [hO]; unfold orF; omega
      have z2 : i32s O := by rw [hO]; exact i32_nrm _
      have b3 := cntF_le O
      obtain ⟨cO, hcO⟩ : ∃ c, c = cntF O := ⟨_, rfl⟩
      rw [← hcO] at b3
      have HO := Lib.hid (And.intro (show nrm L = O by rw [hO]; exact H1.out.2.2.2.1) (And.intro (show orF a b = O from hO.symm) (And.intro (show cntF L = cO by rw [hcO, hO]; exact H1.out.2.2.2.2.1) (show cntF O = cO from hcO.symm))))
      have HG := Lib.hid (show ∀ w' : World, True → True from fun _ h => h)
      clear hO hcO l2
      obtain ⟨ol, cl, rfl⟩ := owns_slice hown0
      go_wp2_with (first
        | (go_at_call 27; refine (told5_any _).mono ?_; rintro e w2 ⟨rfl, hb⟩)
        | (go_at_call 31; refine (norm_any _ _ _ (by first | exact Ha.out.below (by repeat (first | exact Below.refl _ _ | assumption | (refine Below.drew ?_) | (refine below_drewN ?_ _) | (refine bel_new ?_ _) | (refine bel_then ?_ (by assumption)))) | exact Hb.out.below (by repeat (first | exact Below.refl _ _ | assumption | (refine Below.drew ?_) | (refine below_drewN ?_ _) | (refine bel_new ?_ _) | (refine bel_then ?_ (by assumption)))) | exact (Row.owned (by assumption)).below (by repeat (first | exact Below.refl _ _ | assumption | (refine Below.drew ?_) | (refine below_drewN ?_ _) | (refine bel_new ?_ _) | (refine bel_then ?_ (by assumption)))) | exact HG.out _ (H1.out.1.below (by repeat (first | exact Below.refl _ _ | assumption | (refine Below.drew ?_) | (refine below_drewN ?_ _) | (refine bel_new ?_ _) | (refine bel_then ?_ (by assumption)))))) (by assumption) (by omega)).mono ?_; rintro e w2 ⟨u2, rfl, hown, hb⟩; rw [HO.out.1] at hown; obtain ⟨o2, c2, rfl⟩ := owns_slice hown)
        | (go_at_call 35; refine (or_any _ _ _ _ _ (by first | exact Ha.out.below (by repeat (first | exact Below.refl _ _ | assumption | (refine Below.drew ?_) | (refine below_drewN ?_ _) | (refine bel_new ?_ _) | (refine bel_then ?_ (by assumption)))) | exact Hb.out.below (by repeat (first | exact Below.refl _ _ | assumption | (refine Below.drew ?_) | (refine below_drewN ?_ _) | (refine bel_new ?_ _) | (refine bel_then ?_ (by assumption)))) | exact (Row.owned (by assumption)).below (by repeat (first | exact Below.refl _ _ | assumption | (refine Below.drew ?_) | (refine below_drewN ?_ _) | (refine bel_new ?_ _) | (refine bel_then ?_ (by assumption)))) | exact HG.out _ (H1.out.1.below (by repeat (first | exact Below.refl _ _ | assumption | (refine Below.drew ?_) | (refine below_drewN ?_ _) | (refine bel_new ?_ _) | (refine bel_then ?_ (by assumption)))))) (by first | exact Ha.out.below (by repeat (first | exact Below.refl _ _ | assumption | (refine Below.drew ?_) | (refine below_drewN ?_ _) | (refine bel_new ?_ _) | (refine bel_then ?_ (by assumption)))) | exact Hb.out.below (by repeat (first | exact Below.refl _ _ | assumption | (refine Below.drew ?_) | (refine below_drewN ?_ _) | (refine bel_new ?_ _) | (refine bel_then ?_ (by assumption)))) | exact (Row.owned (by assumption)).below (by repeat (first | exact Below.refl _ _ | assumption | (refine Below.drew ?_) | (refine below_drewN ?_ _) | (refine bel_new ?_ _) | (refine bel_then ?_ (by assumption)))) | exact HG.out _ (H1.out.1.below (by repeat (first | exact Below.refl _ _ | assumption | (refine Below.drew ?_) | (refine below_drewN ?_ _) | (refine bel_new ?_ _) | (refine bel_then ?_ (by assumption)))))) (by assumption) (by assumption) (by omega) (by omega)).mono ?_; rintro e w2 ⟨u2, rfl, hown, hb⟩; rw [HO.out.2.1] at hown; obtain ⟨o2, c2, rfl⟩ := owns_slice hown)
        | (go_at_call 41; refine (count_any _ _ _ (by first | exact Ha.out.below (by repeat (first | exact Below.refl _ _ | assumption | (refine Below.drew ?_) | (refine below_drewN ?_ _) | (refine bel_new ?_ _) | (refine bel_then ?_ (by assumption)))) | exact Hb.out.below (by repeat (first | exact Below.refl _ _ | assumption | (refine Below.drew ?_) | (refine below_drewN ?_ _) | (refine bel_new ?_ _) | (refine bel_then ?_ (by assumption)))) | exact (Row.owned (by assumption)).below (by repeat (first | exact Below.refl _ _ | assumption | (refine Below.drew ?_) | (refine below_drewN ?_ _) | (refine bel_new ?_ _) | (refine bel_then ?_ (by assumption)))) | exact HG.out _ (H1.out.1.below (by repeat (first | exact Below.refl _ _ | assumption | (refine Below.drew ?_) | (refine below_drewN ?_ _) | (refine bel_new ?_ _) | (refine bel_then ?_ (by assumption)))))) (by assumption) (by omega)).mono ?_; rintro e w2 ⟨rfl, hb⟩; (first | rw [HO.out.2.2.1] | rw [HO.out.2.2.2]))
        | (go_at_call 43; refine (same_any _ _ _ _ _ (by first | exact Ha.out.below (by repeat (first | exact Below.refl _ _ | assumption | (refine Below.drew ?_) | (refine below_drewN ?_ _) | (refine bel_new ?_ _) | (refine bel_then ?_ (by assumption)))) | exact Hb.out.below (by repeat (first | exact Below.refl _ _ | assumption | (refine Below.drew ?_) | (refine below_drewN ?_ _) | (refine bel_new ?_ _) | (refine bel_then ?_ (by assumption)))) | exact (Row.owned (by assumption)).below (by repeat (first | exact Below.refl _ _ | assumption | (refine Below.drew ?_) | (refine below_drewN ?_ _) | (refine bel_new ?_ _) | (refine bel_then ?_ (by assumption)))) | exact HG.out _ (H1.out.1.below (by repeat (first | exact Below.refl _ _ | assumption | (refine Below.drew ?_) | (refine below_drewN ?_ _) | (refine bel_new ?_ _) | (refine bel_then ?_ (by assumption)))))) (by first | exact Ha.out.below (by repeat (first | exact Below.refl _ _ | assumption | (refine Below.drew ?_) | (refine below_drewN ?_ _) | (refine bel_new ?_ _) | (refine bel_then ?_ (by assumption)))) | exact Hb.out.below (by repeat (first | exact Below.refl _ _ | assumption | (refine Below.drew ?_) | (refine below_drewN ?_ _) | (refine bel_new ?_ _) | (refine bel_then ?_ (by assumption)))) | exact (Row.owned (by assumption)).below (by repeat (first | exact Below.refl _ _ | assumption | (refine Below.drew ?_) | (refine below_drewN ?_ _) | (refine bel_new ?_ _) | (refine bel_then ?_ (by assumption)))) | exact HG.out _ (H1.out.1.below (by repeat (first | exact Below.refl _ _ | assumption | (refine Below.drew ?_) | (refine below_drewN ?_ _) | (refine bel_new ?_ _) | (refine bel_then ?_ (by assumption)))))) (by omega) (by omega)).mono ?_; rintro e w2 ⟨rfl, hb⟩))
      go_ret
      exact ⟨by simp, by repeat (first | exact Below.refl _ _ | assumption | (refine Below.drew ?_) | (refine below_drewN ?_ _) | (refine bel_new ?_ _) | (refine bel_then ?_ (by assumption)))⟩
end Go.Proofs.Ytjhfncmeiaogaaa
