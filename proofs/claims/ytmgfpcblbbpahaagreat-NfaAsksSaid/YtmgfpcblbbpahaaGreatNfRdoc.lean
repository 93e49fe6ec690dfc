/- The document beside the machine: goboref3.Scalar, Has, Cuts. -/
import Derived.Test.YtmgfpcblbbpahaaGreatNfLaw0
import Derived.Deep.QuietTactic
import Derived.BigQuiet
import Derived.Deep.RegionHeld3
set_option linter.unusedVariables false
set_option linter.unusedSimpArgs false
namespace Go.Proofs.YtmgfpcblbbpahaaGreat
open Go.RowKit Ru

def addF (a b : List Int) : List Int := b.foldl (fun s x => insD x s) a
theorem addF_next (a b : List Int) (k : Nat) (h : k < b.length) : addF a (b.take (k + 1)) = insD (b.getD k 0) (addF a (b.take k)) := by
  unfold addF
  rw [List.take_add_one, List.getElem?_eq_getElem h, List.foldl_append, List.getD_eq_getElem?_getD, List.getElem?_eq_getElem h]
  rfl
theorem addF_len (a b : List Int) : (addF a b).length ≤ b.length + a.length := Ru.srtD_len b a
set_option maxHeartbeats 8000000 in
set_option maxRecDepth 1000000 in
theorem radd_any (a b : List Int) (va vb : Value) (w : World) (ha : Row w va a.length (ints1 a)) (hb : Row w vb b.length (ints1 b)) (hla : a.length ≤ 100000) (hlb : b.length ≤ 100000) :
    Calls Tryz.prog 46 #[va, vb] w fun e w' => ∃ u, e = .returned u ∧ w'.ownsRow w.heap.size 3 1 u (addF a b).length (ints1 (addF a b)) ∧ Below w.heap.size w w' := by
  obtain ⟨i0, hi, hz0, hz1, hz2⟩ := infoInt3
  obtain ⟨oa, ca, rfl⟩ := Row.form ha
  obtain ⟨ob, cb, rfl⟩ := Row.form hb
  have hown0 : (w.alloc (.cells #[] 3)).ownsRow w.heap.size 3 1 (.slice (some ⟨w.heap.size, 0, none⟩) 0 0) 0 [] :=
    ⟨rfl, .inr ⟨w.heap.size, _, _, rfl, Nat.le_refl _, heap_alloc_new w _, Nat.le_refl _, by simp [maxLen], rfl, rfl⟩⟩
  have hbn : Below w.heap.size w (w.alloc (.cells #[] 3)) := bel_new (Below.refl _ _) _
  have hra := ha.below hbn
  have HB := Lib.hid hb
  clear ha hb
  go_enter Tryz.func46, Tryz.ntmps46
  go_wp2_with (at_builtin; refine wpList_append_far _ rfl _ _ 23 rfl w.heap.size 3 i0 (.int .i64 0) 1 8 Tryz.underlying23 hi hz0 hz1 hz2 rfl (by decide) (.slice (some ⟨w.heap.size, 0, none⟩) 0 0) 0 [] rfl hown0 _ a.length (ints1 a) rfl hra (by simp) (by simp [Value.oneCell']) (by unfold maxLen; omega) (by omega) (by simp) ?_; intro v5 w5 hown5 hg5 hf5 hb5)
  rw [List.nil_append, Nat.zero_add] at hown5
  have hb05 : Below w.heap.size w w5 := bel_grown hbn hg5 (fun j hj => (hown0.lt j hj).1)
  have H0 := Lib.hid (And.intro hown5 hb05)
  clear hown5 hg5 hf5 hb5 hb05 hown0 hbn hra
  go_loopg [5, 6] b.length (fun g s5 s6 wx => ∃ k : Nat, k + g = b.length ∧ s6 = .int .i64 (k : Int) ∧ wx.ownsRow w.heap.size 3 1 s5 (addF a (b.take k)).length (ints1 (addF a (b.take k))) ∧ Below w.heap.size w wx)
  case atStart => exact ⟨0, by omega, rfl, H0.out.1, H0.out.2⟩
  case round =>
    obtain ⟨k, hk, rfl, hown, hbel⟩ := hrel
    by_cases hlt : k < b.length
    · obtain ⟨g1, hg1⟩ : ∃ g1, g1 + 1 = gk := ⟨gk - 1, by omega⟩
      have hd : (k : Int) < (b.length : Int) := by omega
      have hs := addF_next a b k hlt
      obtain ⟨c, hc⟩ : ∃ c, c = b.getD k 0 := ⟨_, rfl⟩
      obtain ⟨S, hS⟩ : ∃ S, S = addF a (b.take k) := ⟨_, rfl⟩
      have hSl : S.length ≤ 200000 := by
        have := addF_len a (b.take k)
        rw [List.length_take] at this
        rw [hS]; omega
      rw [← hc, ← hS] at hs
      rw [← hS] at hown
      obtain ⟨bb, bo, rfl, hbl, hcl⟩ := adrow_at HB.out (i := k) (u := .int .i64 c) (by rw [getElem?_ints hlt, hc]) hlt
      obtain ⟨oS, cS, rfl⟩ := nf_slice hown
      have hcapS : S.length ≤ cS := by
        obtain ⟨_, _, e, h, _⟩ := Row.owned hown
        simp only [Value.slice.injEq] at e; omega
      have HS := Lib.hid hs
      have HOW := Lib.hid hown
      have HBE := Lib.hid hbel
      have HCL := Lib.hid hcl
      obtain ⟨wo, hwo⟩ : ∃ wo : World, wo = wr := ⟨_, rfl⟩
      rw [← hwo] at HOW HBE
      have hstart : Below wo.heap.size wo wr := by rw [hwo]; exact Below.refl _ _
      have HST := Lib.hid hstart
      clear hs hc hS hown hbel hcl hwo hstart
      go_wp2_with fail
      go_loopg [7] S.length (fun g s7 wi => ∃ m : Nat, m + g = S.length ∧ s7 = .int .i64 (m : Int) ∧ Below wo.heap.size wo wi ∧ ∀ j, j < m → S.getD j 0 < c)
      case atStart => exact ⟨0, by omega, rfl, HST.out, fun j hj => absurd hj (by omega)⟩
      case round =>
        obtain ⟨m, hm, rfl, hwi, hbelow⟩ := hrel
        have hqb : wr.cell? ⟨bb, bo + k, none⟩ = some (.int .i64 c) := ((HBE.out.trans (hwi.mono HBE.out.size)).cell (p := ⟨bb, bo + k, none⟩) hbl).trans HCL.out
        have HWI := Lib.hid hwi
        have HBL := Lib.hid hbelow
        by_cases hms : m < S.length
        · obtain ⟨g2, hg2⟩ : ∃ g2, g2 + 1 = gk := ⟨gk - 1, by omega⟩
          have hdm : (m : Int) < (S.length : Int) := by omega
          obtain ⟨z, hz⟩ : ∃ z, z = S.getD m 0 := ⟨_, rfl⟩
          obtain ⟨gb, go, rfl, hgl, hgc⟩ := adrow_at (Row.owned (owns_below HOW.out hwi)) (i := m) (u := .int .i64 z) (by rw [getElem?_ints hms, hz]) hms
          have HZ := Lib.hid hz
          clear hz hbelow hwi
          by_cases hlt2 : z < c
          · have dz : decide (z < c) = true := decide_eq_true hlt2
            go_upto_region 6 with (fail)
            go_quiet (fail)
            go_wp2_with fail
            go_roundg g2
            case measure => omega
            case rel => exact ⟨m + 1, by omega, by simp, below_drewN HWI.out _, fun j hj => by
              rcases Nat.lt_or_ge j m with h | h
              · exact HBL.out j h
              · have : j = m := by omega
                subst this; rw [← HZ.out]; exact hlt2⟩
          · have dz : decide (z < c) = false := decide_eq_false hlt2
            go_upto_region 6 with (fail)
            go_quiet (fail)
            go_upto_region 8 with (fail)
            by_cases heq : z = c
            · have dq : (z == c) = true := by simp [heq]
              have hins : addF a (b.take (k + 1)) = S := by
                rw [HS.out, insD_at S c m (by omega) (fun j hj => HBL.out j hj) (fun _ => by rw [← HZ.out]; omega), if_pos ⟨hms, by rw [← HZ.out]; exact heq⟩]
              have HI := Lib.hid hins
              clear hins
              go_quiet (fail)
              go_wp2_with fail
              go_roundg g1
              case measure => omega
              case rel => exact ⟨k + 1, by omega, by simp, by rw [HI.out]; exact owns_below HOW.out (by repeat (first | exact Below.refl _ _ | assumption | exact HWI.out | (refine Below.drew ?_) | (refine below_drewN ?_ _) | (refine bel_new ?_ _))), HBE.out.trans ((show Below wo.heap.size wo _ from (by repeat (first | exact Below.refl _ _ | assumption | exact HWI.out | (refine Below.drew ?_) | (refine below_drewN ?_ _) | (refine bel_new ?_ _)))).mono HBE.out.size)⟩
            · have dq : (z == c) = false := by simp [heq]
              have hins : addF a (b.take (k + 1)) = S.take m ++ c :: S.drop m := by
                rw [HS.out, insD_at S c m (by omega) (fun j hj => HBL.out j hj) (fun _ => by rw [← HZ.out]; omega), if_neg (fun h => heq (by rw [HZ.out]; exact h.2))]
              go_quiet (fail)
              have HI := Lib.hid hins
              obtain ⟨o5, c5, hst, hsl⟩ := cutI_h (some ⟨gb, go, none⟩) cS S.length (ints1 S) (by simp) m (by omega) hcapS
              obtain ⟨o6, c6, hst6, hsl6⟩ := cutI_l (some ⟨gb, go, none⟩) cS S.length (ints1 S) (by simp) m (by omega) hcapS
              have HSL := Lib.hid (And.intro hsl hsl6)
              clear hins hsl hsl6
              go_upto_region 9 with (fail)
              go_cut [8] (fun s8 wx => Below wo.heap.size wo wx ∧ wx.ownsRow wo.heap.size 3 1 s8 m (ints1 (S.take m)))
              case first =>
                have hq1 : ∀ X, Below wo.heap.size wo X → X.ownsRow w.heap.size 3 1 (.slice (some ⟨gb, go, none⟩) S.length cS) S.length (ints1 S) := fun X hX => owns_below HOW.out hX
                have hq2 : ∀ X : World, Below wo.heap.size wo X → (X.alloc (.cells #[] 3)).ownsRow wo.heap.size 3 1 (.slice (some ⟨X.heap.size, 0, none⟩) 0 0) 0 [] := fun X hX =>
                  ⟨rfl, .inr ⟨X.heap.size, _, _, rfl, hX.size, heap_alloc_new X _, Nat.le_refl _, by simp [maxLen], rfl, rfl⟩⟩
                have hsz : ∀ X : World, Below wo.heap.size wo X → wo.heap.size ≤ (X.alloc (.cells #[] 3)).heap.size := fun X hX => by have := hX.size; simp; omega
                go_wp2_with (at_builtin; refine wpList_append_far _ rfl _ _ 23 rfl wo.heap.size 3 i0 (.int .i64 0) 1 8 Tryz.underlying23 hi hz0 hz1 hz2 rfl (by decide) _ 0 [] rfl (hq2 _ (by repeat (first | exact Below.refl _ _ | assumption | exact HWI.out | (refine Below.drew ?_) | (refine below_drewN ?_ _) | (refine bel_new ?_ _)))) _ m ((ints1 S).take m) rfl (HSL.out.1 _ (Row.owned (hq1 _ (by repeat (first | exact Below.refl _ _ | assumption | exact HWI.out | (refine Below.drew ?_) | (refine below_drewN ?_ _) | (refine bel_new ?_ _)))))) (by simp; omega) (fun u hu => ints_one _ _ u (List.mem_of_mem_take hu)) (by unfold maxLen; omega) (by omega) (hsz _ (by repeat (first | exact Below.refl _ _ | assumption | exact HWI.out | (refine Below.drew ?_) | (refine below_drewN ?_ _) | (refine bel_new ?_ _)))) ?_; intro v8 w8 hown8 hg8 hf8 hb8
                             go_loud (have hb88 := (show Below wo.heap.size wo w8 from bel_grown (by repeat (first | exact Below.refl _ _ | assumption | exact HWI.out | (refine Below.drew ?_) | (refine below_drewN ?_ _) | (refine bel_new ?_ _))) hg8 (fun j hj => by have hj2 : (some wr.heap.size : Option Nat) = some j := hj; injection hj2 with hj2; rw [← hj2]; exact HWI.out.size)))
                             go_loud (rw [Nat.zero_add, List.nil_append] at hown8))
                go_meet
                exact ⟨hb88, by rw [← List.map_take] at hown8; exact hown8⟩
              case rest =>
                obtain ⟨hbq, hown8⟩ := hcut
                obtain ⟨o8, c8, rfl⟩ := nf_slice hown8
                have hbk := HBE.out.size
                have hbk2 := hbq.size
                have q0 : wc.cell? ⟨bb, bo + k, none⟩ = some (.int .i64 c) := ((HBE.out.trans (hbq.mono HBE.out.size)).cell (p := ⟨bb, bo + k, none⟩) hbl).trans HCL.out
                have hSq := owns_below HOW.out hbq
                go_upto_region 10 with (fail)
                go_region_held3 (fun w' => w'.cell? ⟨bb, bo + k, none⟩ = some (.int .i64 c)) (first | exact q0 | exact q6 | exact q7 | go_keep)
                  (first
                  | (refine step_append_far _ (by rfl) _ _ 23 (by rfl) wo.heap.size 3 i0 _ 1 8 Tryz.underlying23 hi hz0 hz1 hz2 rfl (by omega) (.slice o8 m c8) m (ints1 (S.take m)) (by rfl) (by first | exact (hown8.alloc _).drew | exact hown8.alloc _) _ 1 [.int .i64 c] (by rfl) (by first | exact rowOneD _ _ _ wc.heap.size rfl | exact rowOne _ _ _ wc.heap.size rfl) (by rfl) (by simp [Value.oneCell']) (by unfold maxLen; omega) (by omega) (by simp; omega) ?_; intro v6 w6 hown6 hg6 hf6 hb6; have hB6 : Below wo.heap.size wo w6 := (show Below wo.heap.size wo _ from (by first | exact (bel_new hbq _).drew | exact bel_new hbq _)).trans hb6; have hS6 := owns_below HOW.out hB6; have q6 : w6.cell? ⟨bb, bo + k, none⟩ = some (.int .i64 c) := ((HBE.out.trans (hB6.mono HBE.out.size)).cell (p := ⟨bb, bo + k, none⟩) hbl).trans HCL.out)
                  | (refine step_append_far _ (by rfl) _ _ 23 (by rfl) wo.heap.size 3 i0 _ 1 8 Tryz.underlying23 hi hz0 hz1 hz2 rfl (by omega) v6 (m + 1) (ints1 (S.take m) ++ [.int .i64 c]) (by rfl) (by first | exact hown6 | exact hown6.drew) _ (S.length - m) ((ints1 S).drop m) (by rfl) (HSL.out.2 _ (Row.owned (by first | exact hS6 | exact hS6.drew))) (by simp) (fun u hu => ints_one _ _ u (List.mem_of_mem_drop hu)) (by unfold maxLen; omega) (by omega) (by have := hB6.size; first | omega | (simp; omega)) ?_; intro v7 w7 hown7 hg7 hf7 hb7; have hB7 : Below wo.heap.size wo w7 := hB6.trans hb7; have q7 : w7.cell? ⟨bb, bo + k, none⟩ = some (.int .i64 c) := ((HBE.out.trans (hB7.mono HBE.out.size)).cell (p := ⟨bb, bo + k, none⟩) hbl).trans HCL.out))
                have e1 : m + 1 + (S.length - m) = (S.take m ++ c :: S.drop m).length := by simp; omega
                have e2 : ints1 (S.take m) ++ [Value.int .i64 c] ++ (ints1 S).drop m = ints1 (S.take m ++ c :: S.drop m) := by simp [ints1, List.map_drop]
                have hf := owns_base hown7 hbk
                rw [e1, e2, ← HI.out] at hf
                have hfb := HBE.out.trans (hB7.mono HBE.out.size)
                clear e1 e2 hown7 hg7 hf7 hb7
                go_wp2_with fail
                go_roundg g1
                case measure => omega
                case rel => exact ⟨k + 1, by omega, by simp, by first | exact hf | exact hf.drew | exact owns_below hf (below_drewN (Below.refl _ _) _), by first | exact hfb | exact hfb.drew | exact below_drewN hfb _⟩
        · have hdm : ¬ ((m : Int) < (S.length : Int)) := by omega
          have hins : addF a (b.take (k + 1)) = S.take m ++ c :: S.drop m := by
            rw [HS.out, insD_at S c m (by omega) (fun j hj => HBL.out j hj) (fun h => absurd h hms), if_neg (fun h => hms h.1)]
          clear hbelow hwi
          go_upto_region 6 with (fail)
          go_quiet (fail)
          go_upto_region 8 with (fail)
          go_quiet (fail)
          have HI := Lib.hid hins
          obtain ⟨o5, c5, hst, hsl⟩ := cutI_h oS cS S.length (ints1 S) (by simp) m (by omega) hcapS
          obtain ⟨o6, c6, hst6, hsl6⟩ := cutI_l oS cS S.length (ints1 S) (by simp) m (by omega) hcapS
          have HSL := Lib.hid (And.intro hsl hsl6)
          clear hins hsl hsl6
          go_upto_region 9 with (fail)
          go_cut [8] (fun s8 wx => Below wo.heap.size wo wx ∧ wx.ownsRow wo.heap.size 3 1 s8 m (ints1 (S.take m)))
          case first =>
            have hq1 : ∀ X, Below wo.heap.size wo X → X.ownsRow w.heap.size 3 1 (.slice oS S.length cS) S.length (ints1 S) := fun X hX => owns_below HOW.out hX
            have hq2 : ∀ X : World, Below wo.heap.size wo X → (X.alloc (.cells #[] 3)).ownsRow wo.heap.size 3 1 (.slice (some ⟨X.heap.size, 0, none⟩) 0 0) 0 [] := fun X hX =>
              ⟨rfl, .inr ⟨X.heap.size, _, _, rfl, hX.size, heap_alloc_new X _, Nat.le_refl _, by simp [maxLen], rfl, rfl⟩⟩
            have hsz : ∀ X : World, Below wo.heap.size wo X → wo.heap.size ≤ (X.alloc (.cells #[] 3)).heap.size := fun X hX => by have := hX.size; simp; omega
            go_wp2_with (at_builtin; refine wpList_append_far _ rfl _ _ 23 rfl wo.heap.size 3 i0 (.int .i64 0) 1 8 Tryz.underlying23 hi hz0 hz1 hz2 rfl (by decide) _ 0 [] rfl (hq2 _ (by repeat (first | exact Below.refl _ _ | assumption | exact HWI.out | (refine Below.drew ?_) | (refine below_drewN ?_ _) | (refine bel_new ?_ _)))) _ m ((ints1 S).take m) rfl (HSL.out.1 _ (Row.owned (hq1 _ (by repeat (first | exact Below.refl _ _ | assumption | exact HWI.out | (refine Below.drew ?_) | (refine below_drewN ?_ _) | (refine bel_new ?_ _)))))) (by simp; omega) (fun u hu => ints_one _ _ u (List.mem_of_mem_take hu)) (by unfold maxLen; omega) (by omega) (hsz _ (by repeat (first | exact Below.refl _ _ | assumption | exact HWI.out | (refine Below.drew ?_) | (refine below_drewN ?_ _) | (refine bel_new ?_ _)))) ?_; intro v8 w8 hown8 hg8 hf8 hb8
                         go_loud (have hb88 := (show Below wo.heap.size wo w8 from bel_grown (by repeat (first | exact Below.refl _ _ | assumption | exact HWI.out | (refine Below.drew ?_) | (refine below_drewN ?_ _) | (refine bel_new ?_ _))) hg8 (fun j hj => by have hj2 : (some wr.heap.size : Option Nat) = some j := hj; injection hj2 with hj2; rw [← hj2]; exact HWI.out.size)))
                         go_loud (rw [Nat.zero_add, List.nil_append] at hown8))
            go_meet
            exact ⟨hb88, by rw [← List.map_take] at hown8; exact hown8⟩
          case rest =>
            obtain ⟨hbq, hown8⟩ := hcut
            obtain ⟨o8, c8, rfl⟩ := nf_slice hown8
            have hbk := HBE.out.size
            have hbk2 := hbq.size
            have q0 : wc.cell? ⟨bb, bo + k, none⟩ = some (.int .i64 c) := ((HBE.out.trans (hbq.mono HBE.out.size)).cell (p := ⟨bb, bo + k, none⟩) hbl).trans HCL.out
            have hSq := owns_below HOW.out hbq
            go_upto_region 10 with (fail)
            go_region_held3 (fun w' => w'.cell? ⟨bb, bo + k, none⟩ = some (.int .i64 c)) (first | exact q0 | exact q6 | exact q7 | go_keep)
              (first
              | (refine step_append_far _ (by rfl) _ _ 23 (by rfl) wo.heap.size 3 i0 _ 1 8 Tryz.underlying23 hi hz0 hz1 hz2 rfl (by omega) (.slice o8 m c8) m (ints1 (S.take m)) (by rfl) (by first | exact (hown8.alloc _).drew | exact hown8.alloc _) _ 1 [.int .i64 c] (by rfl) (by first | exact rowOneD _ _ _ wc.heap.size rfl | exact rowOne _ _ _ wc.heap.size rfl) (by rfl) (by simp [Value.oneCell']) (by unfold maxLen; omega) (by omega) (by simp; omega) ?_; intro v6 w6 hown6 hg6 hf6 hb6; have hB6 : Below wo.heap.size wo w6 := (show Below wo.heap.size wo _ from (by first | exact (bel_new hbq _).drew | exact bel_new hbq _)).trans hb6; have hS6 := owns_below HOW.out hB6; have q6 : w6.cell? ⟨bb, bo + k, none⟩ = some (.int .i64 c) := ((HBE.out.trans (hB6.mono HBE.out.size)).cell (p := ⟨bb, bo + k, none⟩) hbl).trans HCL.out)
              | (refine step_append_far _ (by rfl) _ _ 23 (by rfl) wo.heap.size 3 i0 _ 1 8 Tryz.underlying23 hi hz0 hz1 hz2 rfl (by omega) v6 (m + 1) (ints1 (S.take m) ++ [.int .i64 c]) (by rfl) (by first | exact hown6 | exact hown6.drew) _ (S.length - m) ((ints1 S).drop m) (by rfl) (HSL.out.2 _ (Row.owned (by first | exact hS6 | exact hS6.drew))) (by simp) (fun u hu => ints_one _ _ u (List.mem_of_mem_drop hu)) (by unfold maxLen; omega) (by omega) (by have := hB6.size; first | omega | (simp; omega)) ?_; intro v7 w7 hown7 hg7 hf7 hb7; have hB7 : Below wo.heap.size wo w7 := hB6.trans hb7; have q7 : w7.cell? ⟨bb, bo + k, none⟩ = some (.int .i64 c) := ((HBE.out.trans (hB7.mono HBE.out.size)).cell (p := ⟨bb, bo + k, none⟩) hbl).trans HCL.out))
            have e1 : m + 1 + (S.length - m) = (S.take m ++ c :: S.drop m).length := by simp; omega
            have e2 : ints1 (S.take m) ++ [Value.int .i64 c] ++ (ints1 S).drop m = ints1 (S.take m ++ c :: S.drop m) := by simp [ints1, List.map_drop]
            have hf := owns_base hown7 hbk
            rw [e1, e2, ← HI.out] at hf
            have hfb := HBE.out.trans (hB7.mono HBE.out.size)
            clear e1 e2 hown7 hg7 hf7 hb7
            go_wp2_with fail
            go_roundg g1
            case measure => omega
            case rel => exact ⟨k + 1, by omega, by simp, by first | exact hf | exact hf.drew | exact owns_below hf (below_drewN (Below.refl _ _) _), by first | exact hfb | exact hfb.drew | exact below_drewN hfb _⟩
    · obtain rfl : k = b.length := by omega
      rw [List.take_length] at hown
      have HOW := Lib.hid hown
      have HBE := Lib.hid hbel
      clear hown hbel
      go_wp2_with fail
      go_ret
      exact ⟨_, rfl, HOW.out, HBE.out⟩
end Go.Proofs.YtmgfpcblbbpahaaGreat

namespace Go.Proofs.YtmgfpcblbbpahaaGreat
open Go.RowKit Ru Rn Rn.Ru

theorem refScalar_any (r : Int) (w : World) : Calls Tryz.prog 79 #[.int .i32 r] w fun e w' => e = .returned (.bool (scal r)) ∧ w = w' := by
  go_enter Tryz.func79, Tryz.ntmps79
  by_cases h1 : 0 ≤ r
  · by_cases h2 : r ≤ 1114111
    · by_cases h3 : r < 55296
      · go_wp2
        go_ret
        exact ⟨ret_bool (by first | exact scal_t (by omega) | exact scal_f (by omega)), rfl⟩
      · by_cases h4 : 57343 < r
        · go_wp2
          go_ret
          exact ⟨ret_bool (by first | exact scal_t (by omega) | exact scal_f (by omega)), rfl⟩
        · go_wp2
          go_ret
          exact ⟨ret_bool (by first | exact scal_t (by omega) | exact scal_f (by omega)), rfl⟩
    · go_wp2
      go_ret
      exact ⟨ret_bool (by first | exact scal_t (by omega) | exact scal_f (by omega)), rfl⟩
  · go_wp2
    go_ret
    exact ⟨ret_bool (by first | exact scal_t (by omega) | exact scal_f (by omega)), rfl⟩

set_option maxHeartbeats 1000000 in
set_option maxRecDepth 1000000 in
theorem refHas_any (l : List Pc) (r : Int) (v : Value) (w : World) (hr : Row w v l.length (flatK .i32 l)) (hn : l.length ≤ 1000000) :
    Calls Tryz.prog 49 #[v, .int .i32 r] w fun e w' => e = .returned (.bool (has l r)) ∧ w' = w := by
  have Hr := Lib.hid hr
  obtain ⟨o, cap, rfl, hcap, hmax, _⟩ := hr
  obtain ⟨s, hs⟩ : ∃ s, s = scal r := ⟨_, rfl⟩
  have hh : has l r = (s && l.any fun x => decide (x.1 ≤ r) && decide (r ≤ x.2)) := by unfold has; rw [hs]
  rw [hh]
  clear hh
  go_enter Tryz.func49, Tryz.ntmps49
  cases s with
  | false =>
    have hs' : scal r = false := hs.symm
    clear hs
    go_wp2_with (go_at_call 79; refine (refScalar_any r _).mono ?_; rintro e w' ⟨rfl, rfl⟩)
    go_ret
    exact ⟨rfl, rfl⟩
  | true =>
    have hs' : scal r = true := hs.symm
    clear hs
    go_wp2_with (go_at_call 79; refine (refScalar_any r _).mono ?_; rintro e w' ⟨rfl, rfl⟩)
    go_loopw [5] (fun i wr => ∃ k : Nat, k ≤ l.length ∧ i = .int .i64 k ∧ wr = w ∧ ((l.take k).any fun x => decide (x.1 ≤ r) && decide (r ≤ x.2)) = false)
      (fun i _ => l.length - (intOf i).toNat)
    case atStart => exact ⟨0, Nat.zero_le _, rfl, rfl, rfl⟩
    case round =>
      obtain ⟨k, hk, rfl, rfl, hno⟩ := hrel
      by_cases hk2 : k < l.length
      · obtain ⟨b, off, cap', e, hlt⟩ := Hr.out.head (by omega)
        simp only [Value.slice.injEq, true_and] at e
        obtain ⟨rfl, rfl⟩ := e
        obtain ⟨_, c1, c2⟩ := Hr.out.pair hk2 rfl
        have ht := take_one l (0, 0) k hk2
        obtain ⟨q, hq⟩ : ∃ q, q = l.getD k (0, 0) := ⟨_, rfl⟩
        rw [← hq] at c1 c2 ht
        have hm : q ∈ l := by rw [hq]; simp [List.getD, List.getElem?_eq_getElem hk2]
        obtain ⟨a, c⟩ := q
        simp only at c1 c2
        have Hs := Lib.hid (And.intro ht (And.intro hno hm))
        clear ht hq hno hm
        by_cases h1 : a ≤ r
        · by_cases h2 : r ≤ c
          · go_wp2
            go_ret
            have h3 : (l.any fun x => decide (x.1 ≤ r) && decide (r ≤ x.2)) = true := List.any_eq_true.2 ⟨_, Hs.out.2.2, by simp [h1, h2]⟩
            exact ⟨by rw [h3]; rfl, by first | rfl | trivial⟩
          · go_wp2
            go_roundw
            case rel => exact ⟨k + 1, by omega, by go_num, by first | rfl | trivial, by rw [Hs.out.1]; have := Hs.out.2.1; simp only [List.any_append, List.any_cons, List.any_nil] at this ⊢; rw [this]; simp [h2]⟩
            case measure => simp [intOf] <;> omega
        · go_wp2
          go_roundw
          case rel => exact ⟨k + 1, by omega, by go_num, by first | rfl | trivial, by rw [Hs.out.1]; have := Hs.out.2.1; simp only [List.any_append, List.any_cons, List.any_nil] at this ⊢; rw [this]; simp [h1]⟩
          case measure => simp [intOf] <;> omega
      · have hkn : k = l.length := by omega
        subst hkn
        rw [List.take_length] at hno
        go_wp2
        go_ret
        exact ⟨by rw [hno]; rfl, rfl⟩

namespace Ru
theorem raw_nrm (l : List Pc) : raw (nrm l) = pcs l := by
  unfold raw nrm
  rw [map_pcOf_ok (ok_pcs l)]
  exact List.filter_eq_self.2 fun q hq => by simpa using (ok_pcs l q hq).2.1
end Ru
namespace Ru
def gapT (P : List Pc) (c : List Int) : Nat → List Pc
  | 0 => []
  | i + 1 => if inB P (c.getD i 0) = true then gapT P c i ++ [(c.getD i 0, c.getD (i + 1) 0)] else gapT P c i
theorem gapT_le (P : List Pc) (c : List Int) : ∀ i, (gapT P c i).length ≤ i
  | 0 => by simp [gapT]
  | i + 1 => by
    have := gapT_le P c i
    unfold gapT; split
    · simp; omega
    · omega
theorem gapT_cons (P : List Pc) (x : Int) (c : List Int) : ∀ i, gapT P (x :: c) (i + 1) = (if inB P x = true then [(x, c.getD 0 0)] else []) ++ gapT P c i
  | 0 => by simp [gapT]
  | i + 1 => by
    have h := gapT_cons P x c i
    rw [gapT, h]
    simp only [gapT, List.getD_cons_succ]
    split <;> split <;> simp
theorem gapT_gaps (P : List Pc) : ∀ (c : List Int) (b : Int), Ris b c → gapT P c (c.length - 1) = gaps P c
  | [], b, h => by simp [gapT, gaps]
  | [x], b, h => by simp [gapT, gaps]
  | x :: y :: l, b, h => by
    have ih := gapT_gaps P (y :: l) x h.2
    have hxy : x < y := h.2.1
    have e : (x :: y :: l).length - 1 = (y :: l).length - 1 + 1 := by simp
    rw [e, gapT_cons, ih]
    have e2 : gaps P (x :: y :: l) = if x < y ∧ inB P x = true then (x, y) :: gaps P (y :: l) else gaps P (y :: l) := by rw [gaps]
    rw [e2]
    by_cases hb : inB P x = true
    · simp [hb, hxy]
    · simp [hb]
end Ru
theorem flat_take_len (ls : List (List Pc)) (k : Nat) : ((ls.take k).flatMap pcs).length ≤ (ls.flatMap pcs).length := by
  have h : ls.flatMap pcs = (ls.take k).flatMap pcs ++ (ls.drop k).flatMap pcs := by rw [← List.flatMap_append, List.take_append_drop]
  rw [h, List.length_append]; omega

set_option maxHeartbeats 4000000 in
set_option maxRecDepth 1000000 in
theorem refCutsR_any (ls : List (List Pc)) (vs : List Value) (v : Value) (w : World) (hr : RowsR w v vs ls) (hz : ∀ l ∈ ls, i32s l) (hn : ls.length ≤ 1000) (hm : ∀ l ∈ ls, l.length ≤ 1000) (ht : (ls.flatMap pcs).length ≤ 40000) :
    Calls Tryz.prog 48 #[v] w fun e w' => ∃ u, e = .returned u ∧ w'.ownsRow w.heap.size 54 2 u (cutsF ls).length (flatK .i32 (cutsF ls)) ∧ Below w.heap.size w w' := by
  obtain ⟨i0, hi, hz0, hz1, hz2⟩ := infoCell
  obtain ⟨i1, ki, kz0, kz1, kz2⟩ := infoRange
  obtain ⟨hvl, hrow, hrows⟩ := hr
  have Hr := Lib.hid (And.intro hrow (And.intro hvl hrows))
  have Hz := Lib.hid (And.intro hz hm)
  have HT := Lib.hid ht
  obtain ⟨o, cap, rfl⟩ := hrow.form
  clear hrow hrows hz hm hvl ht
  go_enter Tryz.func48, Tryz.ntmps48
  go_wp2_with fail
  go_loopw [3, 4] (fun u i wr => ∃ k : Nat, k ≤ ls.length ∧ i = .int .i64 k ∧ wr.ownsRow w.heap.size 140 2 u ((ls.take k).flatMap pcs).length (flatK .i64 ((ls.take k).flatMap pcs)) ∧ Below w.heap.size w wr)
    (fun _ i _ => ls.length - (intOf i).toNat)
  case atStart => exact ⟨0, Nat.zero_le _, rfl, World.ownsRow_nil _ _ _ _, Below.refl _ _⟩
  case round =>
    obtain ⟨k, hk, rfl, hown, hlow⟩ := hrel
    by_cases hk2 : k < ls.length
    · have hvk := Hr.out.2.2 k hk2
      obtain ⟨g0, off0, cap', e, hlt0⟩ := Hr.out.1.head (by omega)
      simp only [Value.slice.injEq, true_and] at e
      obtain ⟨rfl, rfl⟩ := e
      obtain ⟨_, c0⟩ := rowOneRn Hr.out.1 (i := k) (by rw [Hr.out.2.1]; exact hk2) (by omega)
      rw [← hlow.cell hlt0] at c0
      obtain ⟨u, hu⟩ : ∃ u, u = vs.getD k undef := ⟨_, rfl⟩
      obtain ⟨l, hl⟩ : ∃ l, l = ls.getD k [] := ⟨_, rfl⟩
      have hlz : i32s l ∧ l.length ≤ 1000 := by
        have : l ∈ ls := by rw [hl]; simp [List.getD, List.getElem?_eq_getElem hk2]
        exact ⟨Hz.out.1 l this, Hz.out.2 l this⟩
      rw [← hu] at c0
      rw [← hu, ← hl] at hvk
      have hfs := flat_take_succ ls k hk2
      rw [← hl] at hfs
      have hfl := flat_take_len ls k
      have hft := HT.out
      have hvk2 := hvk.below hlow
      obtain ⟨ou, cu, rfl⟩ := hvk.form
      have hpl := pcs_le l
      have hnl := nrm_le l
      obtain ⟨E, hE⟩ : ∃ E, E = (ls.take k).flatMap pcs := ⟨_, rfl⟩
      rw [← hE] at hown hfs hfl
      obtain ⟨hl1, hl2⟩ := hlz
      have hElen : E.length ≤ 50000 := by omega
      have Hs := Lib.hid hfs
      clear hfs hE hu hl hvk hfl
      go_wp2_with (first
        | (go_at_call 74; refine (refCells_any (nrm l) _ _ (Row.owned hown1) (i32_nrm l) (by omega)).mono ?_; rintro e w2 ⟨u2, rfl, hown2, hb2⟩; rw [raw_nrm] at hown2; have hB2 := bel_then hb1 hb2; have hE2 := owns_below hown hB2; have hBw := bel_then hlow hB2)
        | (go_at_call 75; refine (refNorm_any l _ _ hvk2 hl1 (by omega)).mono ?_; rintro e w1 ⟨u1, rfl, hown1, hb1⟩)
        | (at_builtin; refine wpList_append_row _ (by rfl) _ _ 112 rfl w.heap.size 140 i0 (.agg #[.int .i64 0, .int .i64 0]) 2 16 Tryz.underlying112 hi hz0 hz1 hz2 rfl (by decide) _ E.length (flatK .i64 E) rfl hE2 _ (pcs l).length (flatK .i64 (pcs l)) rfl (Row.owned hown2) (flatK_len _ _) (flatK_one _ _) (by unfold maxLen; omega) (by omega) (by have := hBw.size; omega) ?_; intro v4 w4 hown4 hg4))
      have hB4 : Below w.heap.size w w4 := bel_grown hBw hg4 (fun j hj => (hE2.lt j hj).1)
      have H4 := Lib.hid (And.intro hown4 hB4)
      clear hown4 hB4 hg4 hE2 hBw hB2 hown2 hb2 hown1 hb1 hown hlow
      go_wp2_with fail
      go_roundw
      case rel => exact ⟨k + 1, by omega, by go_num, by rw [Hs.out, List.length_append, flatK_append]; exact H4.out.1, H4.out.2⟩
      case measure => simp [intOf] <;> omega
    · have hkn : k = ls.length := by omega
      subst hkn
      rw [List.take_length] at hown
      have hfl := HT.out
      have hok := flat_ok ls
      obtain ⟨P, hP⟩ : ∃ P, P = ls.flatMap pcs := ⟨_, rfl⟩
      have hcf : cutsF ls = rngs (cutF P) := by unfold cutsF; rw [hP]
      rw [← hP] at hown hfl hok
      go_wp2_with fail
      refine (refCuts_any P _ _ (Row.owned hown) (by omega)).mono ?_
      rintro e w3 ⟨u3, rfl, hown3, hb3⟩
      have hPr := (Row.owned hown).below hb3
      have hB3 : Below w.heap.size w w3 := bel_then hlow hb3
      have hris := srtD_ris (ends_gt hok)
      obtain ⟨C, hC⟩ : ∃ C, C = srtD (ends P) := ⟨_, rfl⟩
      have hgap : cutF P = gapT P C (C.length - 1) := by unfold cutF; rw [hC, gapT_gaps P _ _ hris]
      have hlenC : C.length ≤ 200000 := by
        have h1 := srtD_len (ends P) []
        have h2 := Ru.ends_len P
        rw [hC]; unfold srtD; simp only [List.length_nil] at h1; omega
      have hval : ∀ k, k + 1 < C.length → 0 ≤ C.getD k 0 ∧ C.getD k 0 < C.getD (k + 1) 0 ∧ C.getD (k + 1) 0 ≤ 1112064 := by
        intro k hk
        have hb : ∀ z ∈ C, 0 ≤ z ∧ z ≤ 1112064 := fun z hz => by
          rw [hC, mem_srtD (ends_gt hok), mem_ends] at hz
          obtain ⟨q, hq, e⟩ := hz
          have := hok q hq; omega
        have m1 := hb (C.getD k 0) (by simp [List.getD, List.getElem?_eq_getElem (show k < C.length by omega)])
        have m2 := hb (C.getD (k + 1) 0) (by simp [List.getD, List.getElem?_eq_getElem hk])
        have m3 := Ris.get (hC ▸ hris) k (k + 1) (by omega) hk
        exact ⟨m1.1, m3, m2.2⟩
      rw [← hC] at hown3
      have HP := Lib.hid (And.intro hcf (And.intro hgap hval))
      obtain ⟨oC, cC, rfl⟩ := owns_slice hown3
      have HPr := Lib.hid hPr
      clear hown hb3 hlow hok hP hcf hC hgap hval hris hPr
      go_wp2_with fail
      go_loopw [6, 7] (fun u i wr => ∃ k : Nat, (k + 1 ≤ C.length ∨ k = 0) ∧ i = .int .i64 k ∧ wr.ownsRow w3.heap.size 54 2 u (gapT P C k).length (flatK .i32 (rngs (gapT P C k))) ∧ Below w3.heap.size w3 wr)
        (fun _ i _ => C.length - (intOf i).toNat)
      case atStart => exact ⟨0, .inr rfl, rfl, World.ownsRow_nil _ _ _ _, Below.refl _ _⟩
      case round =>
        obtain ⟨k, hk, rfl, hown, hbel⟩ := hrel
        have hrl := gapT_le P C k
        have hw1 : IntKind.i64.wrap ((k : Int) + 1) = (k : Int) + 1 := iwrap (by omega)
        by_cases hk2 : k + 1 < C.length
        · have hk3 : (k : Int) + 1 < (C.length : Int) := by omega
          have hk4 : k < C.length := by omega
          obtain ⟨gc, cc, e⟩ := Joins.ownsRow_form hown3 (by omega)
          simp only [Value.slice.injEq, true_and] at e
          obtain ⟨rfl, rfl⟩ := e
          have kx := cell_add (hown3.cells rfl) k (.int .i64 (C.getD k 0)) (by simp [List.getD, List.getElem?_eq_getElem hk4])
          have ky := cell_add (hown3.cells rfl) (k + 1) (.int .i64 (C.getD (k + 1) 0)) (by simp [List.getD, List.getElem?_eq_getElem hk2])
          have hgc := (hown3.lt gc rfl).2
          rw [← hbel.cell hgc] at kx ky
          obtain ⟨b0, b1, b2⟩ := HP.out.2.2 k hk2
          obtain ⟨x, hx⟩ : ∃ x, x = C.getD k 0 := ⟨_, rfl⟩
          obtain ⟨y, hy⟩ : ∃ y, y = C.getD (k + 1) 0 := ⟨_, rfl⟩
          have hg : gapT P C (k + 1) = if inB P x = true then gapT P C k ++ [(x, y)] else gapT P C k := by rw [gapT, hx, hy]
          rw [← hx] at kx b0 b1
          rw [← hy] at ky b1 b2
          obtain ⟨z, hz⟩ : ∃ z, z = inB P x := ⟨_, rfl⟩
          obtain ⟨G, hG⟩ : ∃ G, G = gapT P C k := ⟨_, rfl⟩
          rw [← hG] at hown hrl hg
          rw [← hz] at hg
          have HZ := Lib.hid (And.intro hz (And.intro hx (And.intro hy hG)))
          clear hz hx hy hG
          have hfar : u6.ownBlock ≠ some gc := fun e => by have := (hown.lt _ e).1; omega
          have hk5 : (0 : Int) ≤ (k : Int) + 1 := by omega
          have hk6 : k + 1 < C.length := hk2
          have hwy : IntKind.i64.wrap (y - 1) = y - 1 := iwrap (by omega)
          have hBs := hbel.size
          cases z with
          | false =>
            rw [if_neg (by simp)] at hg
            have Hg := Lib.hid hg
            clear hg
            go_wp2_with (go_at_call 77; refine (refIn_any P _ _ _ (HPr.out.below (by repeat (first | exact Below.refl _ _ | assumption | (refine Below.drew ?_) | (refine below_drewN ?_ _) | (refine bel_new ?_ _) | (refine bel_then ?_ (by assumption))))) (by omega)).mono ?_; rintro e w' ⟨rfl, rfl⟩; rw [← HZ.out.1])
            go_roundw
            case rel => exact ⟨k + 1, .inl (by omega), by go_num, by rw [Hg.out]; exact hown, hbel⟩
            case measure => simp [intOf] <;> omega
          | true =>
            rw [if_pos rfl] at hg
            have Hg := Lib.hid hg
            clear hg
            go_wp2_with (go_at_call 77; refine (refIn_any P _ _ _ (HPr.out.below (by repeat (first | exact Below.refl _ _ | assumption | (refine Below.drew ?_) | (refine below_drewN ?_ _) | (refine bel_new ?_ _) | (refine bel_then ?_ (by assumption))))) (by omega)).mono ?_; rintro e w' ⟨rfl, rfl⟩; rw [← HZ.out.1])
            go_region_held3 (fun w' => w'.cell? ⟨gc, k, none⟩ = some (.int .i64 x) ∧ w'.cell? ⟨gc, k + 1, none⟩ = some (.int .i64 y))
              (first | (simp [go_sem, *]; done) | go_keep | (refine ⟨?_, ?_⟩ <;> (rw [hgrow1.cell_far _ (by simp; omega) (Ne.symm hfar)]; simp [go_sem, *])))
              (first
              | (go_at_call 78; refine (refAt_any _ _ (by omega)).mono ?_; rintro e w' ⟨rfl, rfl⟩)
              | (refine step_append_row _ (by rfl) _ _ 39 (by rfl) w3.heap.size 54 i1 _ 2 8 Tryz.underlying39 ki kz0 kz1 kz2 rfl (by omega) u6 G.length (flatK .i32 (rngs G)) (by rfl) (by first | exact (hown.alloc _).drew | exact hown.alloc _ | exact (hown.drew.alloc _) | exact hown.drew.alloc _) _ 1 [.int .i32 (vlu x), .int .i32 (vlu (y - 1))] (by rfl) (by first | exact rowNew _ _ _ _ _ rfl | exact rowNew2 _ _ _ _ _ rfl) (by rfl) (by simp [Value.oneCell']) (by unfold maxLen; omega) (by omega) (by first | omega | (simp; omega) | (have := hbel.size; simp at *; omega)) ?_; intro v4 w4 hown4 hgrow1))
            have hB4 : Below w3.heap.size w3 w4 := bel_grown (by repeat (first | exact Below.refl _ _ | assumption | (refine Below.drew ?_) | (refine below_drewN ?_ _) | (refine bel_new ?_ _) | (refine bel_then ?_ (by assumption)))) hgrow1 (fun j hj => (hown.lt j hj).1)
            have H4 := Lib.hid (And.intro hown4 hB4)
            clear hown4 hB4 hgrow1 hown hbel
            go_wp2_with fail
            go_roundw
            case rel => exact ⟨k + 1, .inl (by omega), by go_num, by rw [Hg.out, rngs_app, List.length_append, flatK_append]; exact H4.out.1, H4.out.2⟩
            case measure => simp [intOf] <;> omega
        · have hkn : k = C.length - 1 := by omega
          have hk3 : decide ((k : Int) + 1 < (C.length : Int)) = false := by simp; omega
          go_wp2_with fail
          go_ret
          rw [HP.out.1, HP.out.2.1, ← hkn, rngs_len]
          exact ⟨_, rfl, Joins.ownsRow_le hown (by have := hB3.size; omega), bel_then hB3 hbel⟩
end Go.Proofs.YtmgfpcblbbpahaaGreat
