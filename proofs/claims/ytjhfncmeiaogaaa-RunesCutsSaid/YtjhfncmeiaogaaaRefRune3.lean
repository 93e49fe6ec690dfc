/- runes, the reference: pick. -/
import Derived.Test.YtjhfncmeiaogaaaRefRune2
import Derived.Deep.DeepCutAuto
set_option linter.unusedVariables false
set_option linter.unusedSimpArgs false
namespace Go.Proofs.Ytjhfncmeiaogaaa
open Go.RowKit Ru

namespace Ru
/-- the ends of what is picked from -/
theorem cut2_step (a b : List Pc) (ha : ∀ q ∈ a, 0 ≤ q.1 ∧ q.1 < q.2 ∧ q.2 ≤ 1112064) (hb : ∀ q ∈ b, 0 ≤ q.1 ∧ q.1 < q.2 ∧ q.2 ≤ 1112064) (k : Nat) (hk : k + 1 < (cut2 a b).length) :
    0 ≤ (cut2 a b).getD k 0 ∧ (cut2 a b).getD k 0 < (cut2 a b).getD (k + 1) 0 ∧ (cut2 a b).getD (k + 1) 0 ≤ 1112064 := by
  obtain ⟨h1, _, h3, h4, h5⟩ := cut2_facts a b ha hb
  have hl := h1.get k (k + 1) (by omega) hk
  refine ⟨?_, hl, ?_⟩
  · by_cases e : k = 0
    · rw [e, h4]; omega
    · have := h1.get 0 k (by omega) (by omega); omega
  · by_cases e : k + 1 = (cut2 a b).length - 1
    · rw [e, h5]; omega
    · have := h1.get (k + 1) ((cut2 a b).length - 1) (by omega) (by omega); omega
theorem rngs_app (p q : List Pc) : rngs (p ++ q) = rngs p ++ rngs q := by simp [rngs]
theorem cut2_len (a b : List Pc) : (cut2 a b).length ≤ 2 * (a.length + b.length + 1) := by
  have h := srtD_len (ends ((0, 1112064) :: (a ++ b))) []
  have h2 := ends_len ((0, 1112064) :: (a ++ b))
  unfold cut2 srtD
  simp only [List.length_cons, List.length_append, List.length_nil] at h h2
  omega
theorem runsT_len (f : Int → Bool) (c : List Int) : ∀ i, (runsT f c i).length ≤ i
  | 0 => by simp [runsT]
  | i + 1 => by
    have h := runsT_len f c i
    unfold runsT
    split
    · split
      · unfold ext
        split
        · omega
        · rename_i q hq
          have : (runsT f c i) ≠ [] := fun e => by rw [e] at hq; simp at hq
          have := List.length_pos_iff.2 this
          simp; omega
      · simp; omega
    · omega
end Ru

set_option maxHeartbeats 8000000 in
set_option maxRecDepth 1000000 in
theorem refPick_any (A B : List Pc) (va vb : Value) (how : Int) (g : Bool → Bool → Bool) (w : World) (ha : Row w va A.length (flatK .i64 A)) (hb : Row w vb B.length (flatK .i64 B))
    (okA : ∀ q ∈ A, 0 ≤ q.1 ∧ q.1 < q.2 ∧ q.2 ≤ 1112064) (okB : ∀ q ∈ B, 0 ≤ q.1 ∧ q.1 < q.2 ∧ q.2 ≤ 1112064) (nA : A.length ≤ 10000) (nB : B.length ≤ 10000)
    (hg : (how = 1 ∧ g = fun x _ => x) ∨ (how = 3 ∧ g = fun x y => x || y) ∨ (how = 4 ∧ g = fun x y => x && y) ∨ (how = 5 ∧ g = fun x _ => !x)) :
    Calls Try.prog 55 #[va, vb, .int .i64 how] w fun e w' => ∃ u, e = .returned u ∧
      w'.ownsRow w.heap.size 59 2 u (pickP (fun x => g (inB A x) (inB B x)) A B).length (flatK .i32 (rngs (pickP (fun x => g (inB A x) (inB B x)) A B))) ∧ Below w.heap.size w w' := by
  obtain ⟨i0, hi, hz0, hz1, hz2⟩ := infoCell
  obtain ⟨i1, ki, kz0, kz1, kz2⟩ := infoRange
  have Ha := Lib.hid ha
  have Hb := Lib.hid hb
  have Hg := Lib.hid hg
  have Hok := Lib.hid (And.intro okA okB)
  clear ha hb hg okA okB
  have hown0 := World.ownsRow_lit (e := 85) (base := w.heap.size) (size := 2) w #[.int .i64 0, .int .i64 1112064] 1 (Nat.le_refl _) (by decide) rfl
  go_enter Try.func55, Try.ntmps55
  go_upto_region 2 with (first
    | (at_builtin; refine wpList_append_row _ (by rfl) _ _ 76 rfl w.heap.size 85 i0 (.agg #[.int .i64 0, .int .i64 0]) 2 16 Try.underlying76 hi hz0 hz1 hz2 rfl (by decide) _ 1 [.int .i64 0, .int .i64 1112064] rfl hown0 va A.length (flatK .i64 A) rfl (Ha.out.below (bel_new (Below.refl _ _) _)) (flatK_len _ _) (flatK_one _ _) (by unfold maxLen; omega) (by omega) (by simp) ?_; intro v1 w1 hown1 hg1; have hB1 : Below w.heap.size w w1 := ((Below.refl w.heap.size w).alloc (Nat.le_refl _) _).grown hg1 (by simp) (fun j hj => (hown0.lt j hj).1))
    | (at_builtin; refine wpList_append_row _ (by rfl) _ _ 76 rfl w.heap.size 85 i0 (.agg #[.int .i64 0, .int .i64 0]) 2 16 Try.underlying76 hi hz0 hz1 hz2 rfl (by decide) v1 (1 + A.length) ([.int .i64 0, .int .i64 1112064] ++ flatK .i64 A) rfl hown1 vb B.length (flatK .i64 B) rfl (Hb.out.below hB1) (flatK_len _ _) (flatK_one _ _) (by unfold maxLen; omega) (by omega) (by have := hB1.size; simp at this ⊢; omega) ?_; intro v2 w2 hown2 hg2; have hB2 : Below w.heap.size w w2 := bel_grown hB1 hg2 (fun j hj => (hown1.lt j hj).1)))
  have hT : w2.ownsRow w.heap.size 85 2 v2 ((0, 1112064) :: (A ++ B) : List Pc).length (flatK .i64 ((0, 1112064) :: (A ++ B))) := by
    have e1 : ((0, 1112064) :: (A ++ B) : List Pc).length = 1 + A.length + B.length := by simp; omega
    have e2 : flatK .i64 ((0, 1112064) :: (A ++ B)) = [.int .i64 0, .int .i64 1112064] ++ flatK .i64 A ++ flatK .i64 B := by
      rw [flatK_cons, flatK_append]; simp
    rw [e1, e2]; exact hown2
  clear hown0 hown1 hg1 hB1 hown2 hg2
  go_wp2_with fail
  refine (refCuts_any ((0, 1112064) :: (A ++ B)) _ _ (Row.owned hT) (by simp; omega)).mono ?_
  rintro e w3 ⟨u3, rfl, hown3, hb3⟩
  have hB3 : Below w.heap.size w w3 := bel_then hB2 hb3
  have hcl := cut2_len A B
  have hc2 := (cut2_facts A B Hok.out.1 Hok.out.2).2.2.1
  have hst := cut2_step A B Hok.out.1 Hok.out.2
  obtain ⟨f, hf⟩ : ∃ f : Int → Bool, f = fun x => g (inB A x) (inB B x) := ⟨_, rfl⟩
  obtain ⟨C, hC⟩ : ∃ C, C = cut2 A B := ⟨_, rfl⟩
  have hown3' : w3.ownsRow w2.heap.size 3 1 u3 C.length (C.map (Value.int .i64)) := by rw [hC]; exact hown3
  have hpk : pickP (fun x => g (inB A x) (inB B x)) A B = runsT f C (C.length - 1) := by unfold pickP; rw [hf, hC]
  rw [← hC] at hcl hc2 hst
  have HP := Lib.hid hpk
  obtain ⟨gc, cc, rfl⟩ := Joins.ownsRow_form hown3' (by omega)
  have hcell := fun (m : Nat) (hm : m < C.length) => cell_add (hown3'.cells rfl) m (.int .i64 (C.getD m 0)) (by simp [List.getD, List.getElem?_eq_getElem hm])
  have hgc := (hown3'.lt gc rfl).2
  have hris : Ris (-1) C := by rw [hC]; exact (cut2_facts A B Hok.out.1 Hok.out.2).1
  have HC := Lib.hid (And.intro hst (And.intro hcell hris))
  have HF := Lib.hid hf
  clear hT hB2 hb3 hown3 hown3' hC hpk hst hcell hf hris
  go_wp2_with fail
  go_loopw [9, 10, 11] (fun u op i wr => ∃ k : Nat, k + 1 ≤ C.length ∧ i = .int .i64 k ∧ op = .bool (opn f C k) ∧ wr.ownsRow w3.heap.size 59 2 u (runsT f C k).length (flatK .i32 (rngs (runsT f C k))) ∧ Below w3.heap.size w3 wr)
    (fun _ _ i _ => C.length - (intOf i).toNat)
  case atStart => exact ⟨0, by omega, rfl, rfl, World.ownsRow_nil _ _ _ _, Below.refl _ _⟩
  case round =>
    obtain ⟨k, hk, rfl, rfl, hown, hbel⟩ := hrel
    have hrl := runsT_len f C k
    have hw1 : IntKind.i64.wrap ((k : Int) + 1) = (k : Int) + 1 := iwrap (by omega)
    have hk4 : k < C.length := by omega
    by_cases hk2 : k + 1 < C.length
    · have hk3 : (k : Int) + 1 < (C.length : Int) := by omega
      have kx := HC.out.2.1 k (by omega)
      have ky := HC.out.2.1 (k + 1) hk2
      rw [← hbel.cell hgc] at kx ky
      obtain ⟨b0, b1, b2⟩ := HC.out.1 k hk2
      obtain ⟨x, hx⟩ : ∃ x, x = C.getD k 0 := ⟨_, rfl⟩
      obtain ⟨y, hy⟩ : ∃ y, y = C.getD (k + 1) 0 := ⟨_, rfl⟩
      rw [← hx] at kx b0 b1
      rw [← hy] at ky b1 b2
      have hBw : Below w.heap.size w wr := bel_then hB3 hbel
      have hfx : f x = g (inB A x) (inB B x) := by rw [HF.out]
      obtain ⟨xa, hxa⟩ : ∃ xa, xa = inB A x := ⟨_, rfl⟩
      obtain ⟨xb, hxb⟩ : ∃ xa, xa = inB B x := ⟨_, rfl⟩
      rw [← hxa, ← hxb] at hfx
      have HX := Lib.hid (And.intro hx (And.intro hy (And.intro hxa (And.intro hxb hfx))))
      clear hx hy hxa hxb hfx
      go_wp2_with fail
      go_region_held3 (fun w' => w'.cell? ⟨gc, k, none⟩ = some (.int .i64 x))
        (first | (simp [go_sem, *]; done) | go_keep)
        (first
        | (go_at_call_of 65 va; refine (refIn_any A _ _ _ (Ha.out.below (by repeat (first | exact Below.refl _ _ | assumption | (refine Below.drew ?_) | (refine below_drewN ?_ _) | (refine bel_new ?_ _) | (refine bel_then ?_ (by assumption))))) (by omega)).mono ?_; rintro e w' ⟨rfl, rfl⟩; rw [← HX.out.2.2.1])
        | (go_at_call 65; refine (refIn_any B _ _ _ (Hb.out.below (by repeat (first | exact Below.refl _ _ | assumption | (refine Below.drew ?_) | (refine below_drewN ?_ _) | (refine bel_new ?_ _) | (refine bel_then ?_ (by assumption))))) (by omega)).mono ?_; rintro e w' ⟨rfl, rfl⟩; rw [← HX.out.2.2.2.1]))
      go_upto_region 9 with (fail)
      go_cut [14] (fun s14 wx => s14 = .bool (g xa xb) ∧ Below wr.heap.size wr wx)
      case first =>
        clear kx ky b0 b1 b2 hown
        rcases Hg.out with ⟨rfl, rfl⟩ | ⟨rfl, rfl⟩ | ⟨rfl, rfl⟩ | ⟨rfl, rfl⟩ <;> cases xa <;> cases xb
        all_goals
          go_wp2_with fail
          go_meet
          exact ⟨rfl, by repeat (first | exact Below.refl _ _ | assumption | (refine Below.drew ?_) | (refine below_drewN ?_ _) | (refine bel_new ?_ _) | (refine bel_then ?_ (by assumption)))⟩
      case rest =>
        obtain ⟨rfl, hbq⟩ := hcut
        have hownq := owns_below hown hbq
        have hBq : Below w3.heap.size w3 wc := bel_then hbel hbq
        have kxq := (hbq.cell (show gc < wr.heap.size by have := hbel.size; omega)).trans kx
        have kyq := (hbq.cell (show gc < wr.heap.size by have := hbel.size; omega)).trans ky
        clear hown kx ky hbq hbel
        obtain ⟨z, hz⟩ : ∃ z, z = g xa xb := ⟨_, rfl⟩
        have hfz := HX.out.2.2.2.2
        rw [← hz] at hfz ⊢
        obtain ⟨op, hop⟩ : ∃ z, z = opn f C k := ⟨_, rfl⟩
        rw [← hop]
        have hfz' : f (C.getD k 0) = z := by rw [← HX.out.1]; exact hfz
        have HO := Lib.hid (And.intro hop hfz')
        clear hop hfz hfz' hz
        have hopn : z = opn f C (k + 1) := HO.out.2.symm
        have HON := Lib.hid hopn
        clear hopn
        cases z with
        | false =>
          have hrun : runsT f C (k + 1) = runsT f C k := by
            have h := HO.out.2
            unfold runsT; rw [if_neg (by rw [h]; simp)]
            cases k <;> rfl
          go_wp2_with fail
          go_roundw
          case rel => exact ⟨k + 1, by omega, by go_num, by rw [HON.out], by rw [hrun]; exact hownq, hBq⟩
          case measure => simp [intOf] <;> omega
        | true =>
          obtain ⟨R, hR⟩ : ∃ R, R = runsT f C k := ⟨_, rfl⟩
          rw [← hR] at hownq hrl
          have hwy : IntKind.i64.wrap (y - 1) = y - 1 := iwrap (by omega)
          have hBs := hBq.size
          cases op with
          | false =>
            have hrun : runsT f C (k + 1) = R ++ [(x, y)] := by
              have h := HO.out.2
              unfold runsT; rw [if_pos h, ← HO.out.1, if_neg (by simp), ← hR, HX.out.1, HX.out.2.1]
            have HR := Lib.hid hrun
            clear hrun hR
            go_upto_region 12 with (first
              | (go_at_call 66; refine (refAt_any _ _ (by omega)).mono ?_; rintro e w' ⟨rfl, rfl⟩)
              | (at_builtin; refine wpList_append_row _ (by rfl) _ _ 47 rfl w3.heap.size 59 i1 (.agg #[.int .i32 0, .int .i32 0]) 2 8 Try.underlying47 ki kz0 kz1 kz2 rfl (by decide) _ R.length (flatK .i32 (rngs R)) rfl (hownq.alloc _) _ 1 [.int .i32 (vlu x), .int .i32 0] rfl (rowNew2 _ _ _ _ wc.heap.size rfl) rfl (by simp [Value.oneCell']) (by unfold maxLen; omega) (by omega) (by simp; omega) ?_; intro v4 w4 hown4 hg4))
            have hB4 : Below w3.heap.size w3 w4 := bel_grown (by repeat (first | exact Below.refl _ _ | assumption | (refine Below.drew ?_) | (refine below_drewN ?_ _) | (refine bel_new ?_ _) | (refine bel_then ?_ (by assumption)))) hg4 (fun j hj => (hownq.lt j hj).1)
            have ky4 : w4.cell? ⟨gc, k + 1, none⟩ = some (.int .i64 y) := (hB4.cell (p := ⟨gc, k + 1, none⟩) hgc).trans ((hBq.cell (p := ⟨gc, k + 1, none⟩) hgc).symm.trans kyq)
            clear hg4 hownq
            obtain ⟨g4, c4, rfl⟩ := Joins.ownsRow_form hown4 (by omega)
            have f7 := hown4.frozenAt (R.length * 2 + 1)
            have hs1 := (hown4.stored (R.length * 2 + 1) (.int .i32 (vlu (y - 1)))).1
            have hB5 := hB4.setCell (p := ⟨g4, R.length * 2 + 1, none⟩) (hown4.lt g4 rfl).1 (.int .i32 (vlu (y - 1)))
            have g1 : w4.cell? ⟨g4, R.length * 2 + 1, none⟩ = some (.int .i32 0) := by
              rw [hown4.cellAt _ (by omega)]
              have e1 := flatK_len .i32 (rngs R)
              rw [rngs_len] at e1
              rw [List.getElem?_append_right (by omega), e1, show R.length * 2 + 1 - R.length * 2 = 1 by omega]; rfl
            have H1 := Lib.hid (And.intro hs1 hB5)
            clear hs1 hB5 hown4 hB4
            have hwm : IntKind.i64.wrap (R.length : Int) = (R.length : Int) := iwrap (by omega)
            have hwm1 : (0 : Int) ≤ (R.length : Int) := by omega
            have hwm2 : (R.length : Int) < (R.length : Int) + 1 := by omega
            go_wp2_with (go_at_call 66; refine (refAt_any _ _ (by omega)).mono ?_; rintro e w' ⟨rfl, rfl⟩)
            go_roundw
            case rel =>
              refine ⟨k + 1, by omega, by go_num, by rw [HON.out], ?_, H1.out.2⟩
              have h := H1.out.1
              have e2 : (flatK .i32 (rngs R) ++ [Value.int .i32 (vlu x), Value.int .i32 0]).set (R.length * 2 + 1) (Value.int .i32 (vlu (y - 1))) = flatK .i32 (rngs (R ++ [(x, y)])) := by
                have h3 := flatK_last .i32 (rngs R) (vlu x, 0) (vlu (y - 1))
                rw [rngs_len, flatK_append] at h3
                rw [rngs_app, flatK_append]
                rw [flatK_append] at h3
                exact h3
              rw [HR.out, ← e2, List.length_append]
              exact h
            case measure => simp [intOf] <;> omega
          | true =>
            obtain ⟨t, q, hRt, _⟩ := (runs_all f C (-1) HC.out.2.2 k (by omega)).2.2.1 HO.out.1.symm
            have hrun : runsT f C (k + 1) = t ++ [(q.1, y)] := by
              have h := HO.out.2
              unfold runsT; rw [if_pos h, if_pos HO.out.1.symm, hRt, ext_snoc, HX.out.2.1]
            rw [hRt] at hR
            obtain ⟨m, hm⟩ : ∃ m, m = t.length := ⟨_, rfl⟩
            have hl : R.length = m + 1 := by rw [hR, hm]; simp
            have hat := (flatK_at .i32 (rngs R) m (by rw [rngs_len]; omega)).2
            obtain ⟨v0, hv0⟩ : ∃ v0, v0 = ((rngs R).getD m (0, 0)).2 := ⟨_, rfl⟩
            rw [← hv0] at hat
            rw [hl] at hownq hrl
            have HR := Lib.hid (And.intro hrun (And.intro hR hm))
            clear hrun hR hRt hv0 hm
            obtain ⟨g4, c4, rfl⟩ := Joins.ownsRow_form hownq (by omega)
            have f7 := hownq.frozenAt (m * 2 + 1)
            have hs1 := (hownq.stored (m * 2 + 1) (.int .i32 (vlu (y - 1)))).1
            have hB5 := hBq.setCell (p := ⟨g4, m * 2 + 1, none⟩) (hownq.lt g4 rfl).1 (.int .i32 (vlu (y - 1)))
            have g1 : wc.cell? ⟨g4, m * 2 + 1, none⟩ = some (.int .i32 v0) := by
              rw [hownq.cellAt _ (by omega)]; exact hat
            have H1 := Lib.hid (And.intro hs1 hB5)
            clear hs1 hB5 hownq hBq hat
            have hwm : IntKind.i64.wrap (m : Int) = (m : Int) := iwrap (by omega)
            have hwm1 : (0 : Int) ≤ (m : Int) := by omega
            have hwm2 : (m : Int) < (m : Int) + 1 := by omega
            go_wp2_with (go_at_call 66; refine (refAt_any _ _ (by omega)).mono ?_; rintro e w' ⟨rfl, rfl⟩)
            go_roundw
            case rel =>
              refine ⟨k + 1, by omega, by go_num, by rw [HON.out], ?_, H1.out.2⟩
              have h := H1.out.1
              obtain ⟨k2, k3, k4⟩ := HR.out
              have e2 : (flatK .i32 (rngs R)).set (m * 2 + 1) (Value.int .i32 (vlu (y - 1))) = flatK .i32 (rngs (t ++ [(q.1, y)])) := by
                have h3 := flatK_last .i32 (rngs t) (vlu q.1, vlu (q.2 - 1)) (vlu (y - 1))
                rw [rngs_len, ← k4] at h3
                rw [k3, rngs_app, rngs_app]
                exact h3
              have e3 : (t ++ [(q.1, y)]).length = m + 1 := by rw [k4]; simp
              rw [k2, e3, ← e2]
              exact h
            case measure => simp [intOf] <;> omega
    · have hkn : k + 1 = C.length := by omega
      have hk3 : decide ((k : Int) + 1 < (C.length : Int)) = false := by simp; omega
      have e1 : C.length - 1 = k := by omega
      go_wp2_with fail
      go_ret
      rw [HP.out, e1]
      exact ⟨_, rfl, Joins.ownsRow_le hown (by have := hB3.size; omega), bel_then hB3 hbel⟩
end Go.Proofs.Ytjhfncmeiaogaaa
