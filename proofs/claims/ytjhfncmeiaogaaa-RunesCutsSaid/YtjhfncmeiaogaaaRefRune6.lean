/- runes, the reference: Cuts. -/
import Derived.Test.YtjhfncmeiaogaaaRefRune5
import Derived.Test.YtjhfncmeiaogaaaRuneCuts
import Derived.Test.YtjhfncmeiaogaaaRuneMath5
set_option linter.unusedVariables false
set_option linter.unusedSimpArgs false
namespace Go.Proofs.Ytjhfncmeiaogaaa
open Go.RowKit Ru

namespace Ru
/-- the gaps, from the front on, one by one -/
def gapT (P : List Pc) (c : List Int) : Nat → List Pc
  | 0 => []
  | i + 1 => if inB P (c.getD i 0) = true then gapT P c i ++ [(c.getD i 0, c.getD (i + 1) 0)] else gapT P c i
theorem gapT_le (P : List Pc) (c : List Int) : ∀ i, (gapT P c i).length ≤ i
  | 0 => by simp [gapT]
  | i + 1 => by
    have := gapT_le P c i
    unfold gapT; split
    · simp; omega
    · omega
theorem gapT_cons (P : List Pc) (x : Int) (c : List Int) : ∀ i, gapT P (x :: c) (i + 1) = (if inB P x = true then [(x, c.getD 0 0)] else []) ++ gapT P c i
  | 0 => by simp [gapT]
  | i + 1 => by
    have h := gapT_cons P x c i
    rw [gapT, h]
    simp only [gapT, List.getD_cons_succ]
    split <;> split <;> simp
theorem gapT_gaps (P : List Pc) : ∀ (c : List Int) (b : Int), Ris b c → gapT P c (c.length - 1) = gaps P c
  | [], b, h => by simp [gapT, gaps]
  | [x], b, h => by simp [gapT, gaps]
  | x :: y :: l, b, h => by
    have ih := gapT_gaps P (y :: l) x h.2
    have hxy : x < y := h.2.1
    have e : (x :: y :: l).length - 1 = (y :: l).length - 1 + 1 := by simp
    rw [e, gapT_cons, ih]
    have e2 : gaps P (x :: y :: l) = if x < y ∧ inB P x = true then (x, y) :: gaps P (y :: l) else gaps P (y :: l) := by rw [gaps]
    rw [e2]
    by_cases hb : inB P x = true
    · simp [hb, hxy]
    · simp [hb]
end Ru

set_option maxHeartbeats 4000000 in
set_option maxRecDepth 1000000 in
theorem refCutsR_any (ls : List (List Pc)) (vs : List Value) (v : Value) (w : World) (hr : RowsR w v vs ls) (hz : ∀ l ∈ ls, i32s l) (hn : ls.length ≤ 50) (hm : ∀ l ∈ ls, l.length ≤ 1000) :
    Calls Try.prog 45 #[v] w fun e w' => ∃ u, e = .returned u ∧ w'.ownsRow w.heap.size 59 2 u (cutsF ls).length (flatK .i32 (cutsF ls)) ∧ Below w.heap.size w w' := by
  obtain ⟨i0, hi, hz0, hz1, hz2⟩ := infoCell
  obtain ⟨i1, ki, kz0, kz1, kz2⟩ := infoRange
  obtain ⟨hvl, hrow, hrows⟩ := hr
  have Hr := Lib.hid (And.intro hrow (And.intro hvl hrows))
  have Hz := Lib.hid (And.intro hz hm)
  obtain ⟨o, cap, rfl⟩ := hrow.form
  clear hrow hrows hz hm hvl
  go_enter Try.func45, Try.ntmps45
  go_wp2_with fail
  go_loopw [3, 4] (fun u i wr => ∃ k : Nat, k ≤ ls.length ∧ i = .int .i64 k ∧ wr.ownsRow w.heap.size 85 2 u ((ls.take k).flatMap pcs).length (flatK .i64 ((ls.take k).flatMap pcs)) ∧ Below w.heap.size w wr)
    (fun _ i _ => ls.length - (intOf i).toNat)
  case atStart => exact ⟨0, Nat.zero_le _, rfl, World.ownsRow_nil _ _ _ _, Below.refl _ _⟩
  case round =>
    obtain ⟨k, hk, rfl, hown, hlow⟩ := hrel
    by_cases hk2 : k < ls.length
    · have hvk := Hr.out.2.2 k hk2
      obtain ⟨g0, off0, cap', e, hlt0⟩ := Hr.out.1.head (by omega)
      simp only [Value.slice.injEq, true_and] at e
      obtain ⟨rfl, rfl⟩ := e
      obtain ⟨_, c0⟩ := Hr.out.1.one (i := k) (by rw [Hr.out.2.1]; exact hk2) (by omega)
      rw [← hlow.cell hlt0] at c0
      obtain ⟨u, hu⟩ : ∃ u, u = vs.getD k undef := ⟨_, rfl⟩
      obtain ⟨l, hl⟩ : ∃ l, l = ls.getD k [] := ⟨_, rfl⟩
      have hlz : i32s l ∧ l.length ≤ 1000 := by
        have : l ∈ ls := by rw [hl]; simp [List.getD, List.getElem?_eq_getElem hk2]
        exact ⟨Hz.out.1 l this, Hz.out.2 l this⟩
      rw [← hu] at c0
      rw [← hu, ← hl] at hvk
      have hfs := flat_take_succ ls k hk2
      rw [← hl] at hfs
      have hfl := flat_len (ls.take k) (fun l hl => Hz.out.2 l (List.mem_of_mem_take hl))
      rw [List.length_take] at hfl
      have hvk2 := hvk.below hlow
      obtain ⟨ou, cu, rfl⟩ := hvk.form
      have hpl := pcs_le l
      have hnl := nrm_le l
      obtain ⟨E, hE⟩ : ∃ E, E = (ls.take k).flatMap pcs := ⟨_, rfl⟩
      rw [← hE] at hown hfs hfl
      obtain ⟨hl1, hl2⟩ := hlz
      have hElen : E.length ≤ 50000 := by omega
      have Hs := Lib.hid hfs
      clear hfs hE hu hl hvk hfl
      go_wp2_with (first
        | (go_at_call 56; refine (refCells_any (nrm l) _ _ (Row.owned hown1) (i32_nrm l) (by omega)).mono ?_; rintro e w2 ⟨u2, rfl, hown2, hb2⟩; rw [raw_nrm] at hown2; have hB2 := bel_then hb1 hb2; have hE2 := owns_below hown hB2; have hBw := bel_then hlow hB2)
        | (go_at_call 32; refine (refNorm_any l _ _ hvk2 hl1 (by omega)).mono ?_; rintro e w1 ⟨u1, rfl, hown1, hb1⟩)
        | (at_builtin; refine wpList_append_row _ (by rfl) _ _ 76 rfl w.heap.size 85 i0 (.agg #[.int .i64 0, .int .i64 0]) 2 16 Try.underlying76 hi hz0 hz1 hz2 rfl (by decide) _ E.length (flatK .i64 E) rfl hE2 _ (pcs l).length (flatK .i64 (pcs l)) rfl (Row.owned hown2) (flatK_len _ _) (flatK_one _ _) (by unfold maxLen; omega) (by omega) (by have := hBw.size; omega) ?_; intro v4 w4 hown4 hg4))
      have hB4 : Below w.heap.size w w4 := bel_grown hBw hg4 (fun j hj => (hE2.lt j hj).1)
      have H4 := Lib.hid (And.intro hown4 hB4)
      clear hown4 hB4 hg4 hE2 hBw hB2 hown2 hb2 hown1 hb1 hown hlow
      go_wp2_with fail
      go_roundw
      case rel => exact ⟨k + 1, by omega, by go_num, by rw [Hs.out, List.length_append, flatK_append]; exact H4.out.1, H4.out.2⟩
      case measure => simp [intOf] <;> omega
    · have hkn : k = ls.length := by omega
      subst hkn
      rw [List.take_length] at hown
      have hfl := flat_len ls (fun l hl => Hz.out.2 l hl)
      have hok := flat_ok ls
      obtain ⟨P, hP⟩ : ∃ P, P = ls.flatMap pcs := ⟨_, rfl⟩
      have hcf : cutsF ls = rngs (cutF P) := by unfold cutsF; rw [hP]
      rw [← hP] at hown hfl hok
      go_wp2_with fail
      refine (refCuts_any P _ _ (Row.owned hown) (by omega)).mono ?_
      rintro e w3 ⟨u3, rfl, hown3, hb3⟩
      have hPr := (Row.owned hown).below hb3
      have hB3 : Below w.heap.size w w3 := bel_then hlow hb3
      have hris := srtD_ris (ends_gt hok)
      obtain ⟨C, hC⟩ : ∃ C, C = srtD (ends P) := ⟨_, rfl⟩
      have hgap : cutF P = gapT P C (C.length - 1) := by unfold cutF; rw [hC, gapT_gaps P _ _ hris]
      have hlenC : C.length ≤ 200000 := by
        have h1 := srtD_len (ends P) []
        have h2 := Ru.ends_len P
        rw [hC]; unfold srtD; simp only [List.length_nil] at h1; omega
      have hval : ∀ k, k + 1 < C.length → 0 ≤ C.getD k 0 ∧ C.getD k 0 < C.getD (k + 1) 0 ∧ C.getD (k + 1) 0 ≤ 1112064 := by
        intro k hk
        have hb : ∀ z ∈ C, 0 ≤ z ∧ z ≤ 1112064 := fun z hz => by
          rw [hC, mem_srtD (ends_gt hok), mem_ends] at hz
          obtain ⟨q, hq, e⟩ := hz
          have := hok q hq; omega
        have m1 := hb (C.getD k 0) (by simp [List.getD, List.getElem?_eq_getElem (show k < C.length by omega)])
        have m2 := hb (C.getD (k + 1) 0) (by simp [List.getD, List.getElem?_eq_getElem hk])
        have m3 := Ris.get (hC ▸ hris) k (k + 1) (by omega) hk
        exact ⟨m1.1, m3, m2.2⟩
      rw [← hC] at hown3
      have HP := Lib.hid (And.intro hcf (And.intro hgap hval))
      obtain ⟨oC, cC, rfl⟩ := owns_slice hown3
      have HPr := Lib.hid hPr
      clear hown hb3 hlow hok hP hcf hC hgap hval hris hPr
      go_wp2_with fail
      go_loopw [6, 7] (fun u i wr => ∃ k : Nat, (k + 1 ≤ C.length ∨ k = 0) ∧ i = .int .i64 k ∧ wr.ownsRow w3.heap.size 59 2 u (gapT P C k).length (flatK .i32 (rngs (gapT P C k))) ∧ Below w3.heap.size w3 wr)
        (fun _ i _ => C.length - (intOf i).toNat)
      case atStart => exact ⟨0, .inr rfl, rfl, World.ownsRow_nil _ _ _ _, Below.refl _ _⟩
      case round =>
        obtain ⟨k, hk, rfl, hown, hbel⟩ := hrel
        have hrl := gapT_le P C k
        have hw1 : IntKind.i64.wrap ((k : Int) + 1) = (k : Int) + 1 := iwrap (by omega)
        by_cases hk2 : k + 1 < C.length
        · have hk3 : (k : Int) + 1 < (C.length : Int) := by omega
          have hk4 : k < C.length := by omega
          obtain ⟨gc, cc, e⟩ := Joins.ownsRow_form hown3 (by omega)
          simp only [Value.slice.injEq, true_and] at e
          obtain ⟨rfl, rfl⟩ := e
          have kx := cell_add (hown3.cells rfl) k (.int .i64 (C.getD k 0)) (by simp [List.getD, List.getElem?_eq_getElem hk4])
          have ky := cell_add (hown3.cells rfl) (k + 1) (.int .i64 (C.getD (k + 1) 0)) (by simp [List.getD, List.getElem?_eq_getElem hk2])
          have hgc := (hown3.lt gc rfl).2
          rw [← hbel.cell hgc] at kx ky
          obtain ⟨b0, b1, b2⟩ := HP.out.2.2 k hk2
          obtain ⟨x, hx⟩ : ∃ x, x = C.getD k 0 := ⟨_, rfl⟩
          obtain ⟨y, hy⟩ : ∃ y, y = C.getD (k + 1) 0 := ⟨_, rfl⟩
          have hg : gapT P C (k + 1) = if inB P x = true then gapT P C k ++ [(x, y)] else gapT P C k := by rw [gapT, hx, hy]
          rw [← hx] at kx b0 b1
          rw [← hy] at ky b1 b2
          obtain ⟨z, hz⟩ : ∃ z, z = inB P x := ⟨_, rfl⟩
          obtain ⟨G, hG⟩ : ∃ G, G = gapT P C k := ⟨_, rfl⟩
          rw [← hG] at hown hrl hg
          rw [← hz] at hg
          have HZ := Lib.hid (And.intro hz (And.intro hx (And.intro hy hG)))
          clear hz hx hy hG
          have hfar : u6.ownBlock ≠ some gc := fun e => by have := (hown.lt _ e).1; omega
          have hk5 : (0 : Int) ≤ (k : Int) + 1 := by omega
          have hk6 : k + 1 < C.length := hk2
          have hwy : IntKind.i64.wrap (y - 1) = y - 1 := iwrap (by omega)
          have hBs := hbel.size
          cases z with
          | false =>
            rw [if_neg (by simp)] at hg
            have Hg := Lib.hid hg
            clear hg
            go_wp2_with (go_at_call 65; refine (refIn_any P _ _ _ (HPr.out.below (by repeat (first | exact Below.refl _ _ | assumption | (refine Below.drew ?_) | (refine below_drewN ?_ _) | (refine bel_new ?_ _) | (refine bel_then ?_ (by assumption))))) (by omega)).mono ?_; rintro e w' ⟨rfl, rfl⟩; rw [← HZ.out.1])
            go_roundw
            case rel => exact ⟨k + 1, .inl (by omega), by go_num, by rw [Hg.out]; exact hown, hbel⟩
            case measure => simp [intOf] <;> omega
          | true =>
            rw [if_pos rfl] at hg
            have Hg := Lib.hid hg
            clear hg
            go_wp2_with (go_at_call 65; refine (refIn_any P _ _ _ (HPr.out.below (by repeat (first | exact Below.refl _ _ | assumption | (refine Below.drew ?_) | (refine below_drewN ?_ _) | (refine bel_new ?_ _) | (refine bel_then ?_ (by assumption))))) (by omega)).mono ?_; rintro e w' ⟨rfl, rfl⟩; rw [← HZ.out.1])
            go_region_held3 (fun w' => w'.cell? ⟨gc, k, none⟩ = some (.int .i64 x) ∧ w'.cell? ⟨gc, k + 1, none⟩ = some (.int .i64 y))
              (first | (simp [go_sem, *]; done) | go_keep | (refine ⟨?_, ?_⟩ <;> (rw [hgrow1.cell_far _ (by simp; omega) (Ne.symm hfar)]; simp [go_sem, *])))
              (first
              | (go_at_call 66; refine (refAt_any _ _ (by omega)).mono ?_; rintro e w' ⟨rfl, rfl⟩)
              | (refine step_append_row _ (by rfl) _ _ 47 (by rfl) w3.heap.size 59 i1 _ 2 8 Try.underlying47 ki kz0 kz1 kz2 rfl (by omega) u6 G.length (flatK .i32 (rngs G)) (by rfl) (by first | exact (hown.alloc _).drew | exact hown.alloc _ | exact (hown.drew.alloc _) | exact hown.drew.alloc _) _ 1 [.int .i32 (vlu x), .int .i32 (vlu (y - 1))] (by rfl) (by first | exact rowNew _ _ _ _ _ rfl | exact rowNew2 _ _ _ _ _ rfl) (by rfl) (by simp [Value.oneCell']) (by unfold maxLen; omega) (by omega) (by first | omega | (simp; omega) | (have := hbel.size; simp at *; omega)) ?_; intro v4 w4 hown4 hgrow1))
            have hB4 : Below w3.heap.size w3 w4 := bel_grown (by repeat (first | exact Below.refl _ _ | assumption | (refine Below.drew ?_) | (refine below_drewN ?_ _) | (refine bel_new ?_ _) | (refine bel_then ?_ (by assumption)))) hgrow1 (fun j hj => (hown.lt j hj).1)
            have H4 := Lib.hid (And.intro hown4 hB4)
            clear hown4 hB4 hgrow1 hown hbel
            go_wp2_with fail
            go_roundw
            case rel => exact ⟨k + 1, .inl (by omega), by go_num, by rw [Hg.out, rngs_app, List.length_append, flatK_append]; exact H4.out.1, H4.out.2⟩
            case measure => simp [intOf] <;> omega
        · have hkn : k = C.length - 1 := by omega
          have hk3 : decide ((k : Int) + 1 < (C.length : Int)) = false := by simp; omega
          go_wp2_with fail
          go_ret
          rw [HP.out.1, HP.out.2.1, ← hkn, rngs_len]
          exact ⟨_, rfl, Joins.ownsRow_le hown (by have := hB3.size; omega), bel_then hB3 hbel⟩
end Go.Proofs.Ytjhfncmeiaogaaa
