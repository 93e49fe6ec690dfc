/- gobolaw7.NfaMakes: the walk. -/
import Derived.Test.YtmgfpcblbbpahaaGreatNfRbs
import Derived.Deep.Cut
import Derived.Deep.CutRange
import Derived.RegionTactic
import Derived.BigRegion
import Derived.Deep.RegionLaw
import Derived.Deep.RegionHeld3
import Derived.Deep.AppendLies
import Derived.Deep.QuietTactic
import Derived.BigQuiet
set_option linter.unusedVariables false
set_option linter.unusedSimpArgs false
namespace Go.Proofs.YtmgfpcblbbpahaaGreat
open Go.RowKit Ru Rn Rn.Ru

abbrev Nf.dm (l : List RE) : Nf.DS := Nf.dl l Nf.d0
theorem mayall_next (l : List RE) (k : Nat) (p : RE) (hp : l[k]? = some p) (h : ∀ e ∈ l.take k, e.may = true) (hm : p.may = true) : ∀ e ∈ l.take (k + 1), e.may = true := by
  intro e he
  rw [List.take_add_one, hp] at he
  rcases List.mem_append.1 he with h1 | h1
  · exact h e h1
  · simp at h1; rw [h1]; exact hm

structure BdPost (w : World) (l : List RE) (x : Ending) (w' : World) : Prop where
  bel : Below w.heap.size w w'
  yes : Nf.takes l = true → ∃ (pb g c : Nat) (T : Nat → Prop) (vS vO v2 vL v5 : Value) (ss fs : List Value), x = .returned (.pointer (some ⟨pb, 0, none⟩)) ∧ RB w w' pb T vS vO v2 vL (.slice (some ⟨g, 0, none⟩) (Nf.dm l).F.length c) v5 ss fs (Nf.mS l) ⟨(Nf.dm l).F.set 0 (Nf.dm l).Fi, (Nf.dm l).Fi, (Nf.dm l).O, (Nf.dm l).L, (Nf.dm l).Em⟩
  no : Nf.takes l = false → x = .returned (.pointer none)
theorem BdPost.nil {w w' : World} {l : List RE} (hb : Below w.heap.size w w') (ht : Nf.takes l = false) : BdPost w l (.returned (.pointer none)) w' := ⟨hb, fun h => absurd (h.symm.trans ht) (by decide), fun _ => rfl⟩
set_option maxRecDepth 100000 in
set_option maxHeartbeats 16000000 in
theorem rbuild_any (e : RE) (sv lv : Value) (w : World) (hr : ReIs w e sv lv) (hf : e.Fit) (h9 : ∀ p ∈ e.parts, p.size ≤ 1000) (hle : e.parts.length ≤ 1000) :
    Calls Tryz.prog 18 #[lv] w fun x w' => BdPost w e.parts x w' := by
  obtain ⟨l, hl⟩ : ∃ l, l = e.parts := ⟨_, rfl⟩
  have hfit : ∀ (i : Nat) (p : RE), l[i]? = some p → p.Fit := fun i p hp => hf.part (by rw [← hl]; exact hp)
  obtain ⟨o2, q2, c1, c2, rfl, hall⟩ := hr.all
  rw [← hl] at h9 hle hall ⊢
  clear hr hf hl
  by_cases h1 : l.length < 1
  · have n1 : (l.length : Int) < 1 := by omega
    have ht : Nf.takes l = false := by unfold Nf.takes; rw [decide_eq_false (by omega)]; rfl
    have HT := Lib.hid ht
    clear ht
    clear hall hfit h9
    go_enter Tryz.func18, Tryz.ntmps18
    go_wp2_with fail
    go_ret
    exact BdPost.nil (Below.refl _ _) HT.out
  by_cases h16 : 16 < l.length
  · have n1 : ¬ (l.length : Int) < 1 := by omega
    have n16 : (16 : Int) < (l.length : Int) := by omega
    have ht : Nf.takes l = false := by unfold Nf.takes; rw [decide_eq_false (show ¬ l.length ≤ 16 by omega)]; simp
    have HT := Lib.hid ht
    clear ht
    clear hall hfit h9
    go_enter Tryz.func18, Tryz.ntmps18
    go_wp2_with fail
    go_ret
    exact BdPost.nil (Below.refl _ _) HT.out
  have n1 : ¬ (l.length : Int) < 1 := by omega
  have n16 : ¬ (16 : Int) < (l.length : Int) := by omega
  obtain ⟨i3, hi3, hz30, hz31, hz32⟩ := infoBool1
  have HALL := Lib.hid hall
  have HFIT := Lib.hid hfit
  have H9 := Lib.hid h9
  clear hall hfit h9
  go_enter Tryz.func18, Tryz.ntmps18
  go_wp2_with fail
  obtain ⟨W, hW⟩ : ∃ W, W = ((((w.alloc (.cells #[.slice none 0 0] 39)).alloc (.cells #[.int .i64 (-1)] 3)).alloc (.cells #[.bool false] 4)).alloc (.cells #[.slice none 0 0] 23)).alloc (.cells #[.slice (some ⟨w.heap.size, 0, none⟩) 1 1, .slice (some ⟨w.heap.size + 1, 0, none⟩) 1 1, .slice none 0 0, .slice (some ⟨w.heap.size + 2, 0, none⟩) 1 1, .slice (some ⟨w.heap.size + 3, 0, none⟩) 1 1, .slice none 0 0] 49) := ⟨_, rfl⟩
  obtain ⟨T0, hst⟩ := RB.start w W hW
  obtain ⟨pb, hpb⟩ : ∃ pb, pb = w.heap.size + 4 := ⟨_, rfl⟩
  rw [← hpb] at hst
  rw [← hW]
  have hpb2 : w.heap.size + 1 + 1 + 1 + 1 = pb := by omega
  rw [hpb2]
  have HST := Lib.hid hst
  clear hst hW hpb hpb2
  go_loopg [4, 5, 6] l.length (fun g s4 s5 s6 wx => ∃ k : Nat, k + g = l.length ∧ s4 = .int .i64 (k : Int) ∧ (∀ e ∈ l.take k, e.may = true) ∧ ∃ T vS vO v2 vL vF v5 ss fs, RB w wx pb T vS vO v2 vL vF v5 ss fs (Nf.mS (l.take k)) (Nf.dm (l.take k)))
  case atStart => exact ⟨0, by omega, rfl, by simp, _, _, _, _, _, _, _, _, _, by rw [List.take_zero]; unfold Nf.mS; rw [Nf.stsL_nil]; exact HST.out⟩
  case round =>
    obtain ⟨k, hk, rfl, hmay, T, vS, vO, v2, vL, vF, v5, ss, fs, hx⟩ := hrel
    by_cases hlt : k < l.length
    · obtain ⟨g1, hg1⟩ : ∃ g1, g1 + 1 = gk := ⟨gk - 1, by omega⟩
      have hdk : (k : Int) < (l.length : Int) := by omega
      obtain ⟨p, hp⟩ : ∃ p, l[k]? = some p := ⟨l[k], List.getElem?_eq_getElem hlt⟩
      obtain ⟨hrp, b, off, rfl, hbl, k0, k1, k3⟩ := HALL.out k p hp
      have hbx := hx.rn.bel
      rw [← hbx.cell hbl] at k0
      rw [← hbx.cell hbl] at k1
      rw [← hbx.cell hbl] at k3
      obtain ⟨s1, hs1⟩ : ∃ s1, s1 = c1 k := ⟨_, rfl⟩
      obtain ⟨s2, hs2⟩ : ∃ s2, s2 = c2 k := ⟨_, rfl⟩
      rw [← hs1, ← hs2] at hrp
      rw [← hs1] at k1
      rw [← hs2] at k3
      obtain ⟨⟨oo1, qq1, rfl⟩, ⟨oo2, qq2, rfl⟩⟩ := hrp.form
      have hm := rMay_any w p _ _ wr (H9.out p (List.mem_of_getElem? hp)) (HFIT.out k p hp) hrp hbx
      have hbw : b < wr.heap.size := Nat.lt_of_lt_of_le hbl hbx.size
      have HX := Lib.hid hx
      have HM := Lib.hid hmay
      have HRP := Lib.hid hrp
      clear hx hmay hrp hs1 hs2 hbx
      go_wp2_with fail
      refine hm.mono ?_
      rintro e w1 ⟨rfl, hb1⟩
      clear hm
      have k01 := (hb1.cell (p := ⟨b, off + k * 3, none⟩) hbw).trans k0
      have k11 := (hb1.cell (p := ⟨b, off + k * 3 + 1, none⟩) hbw).trans k1
      have k31 := (hb1.cell (p := ⟨b, off + k * 3 + 2, none⟩) hbw).trans k3
      obtain ⟨z, hz⟩ : ∃ z, z = p.may := ⟨_, rfl⟩
      have HZ := Lib.hid hz
      rw [← hz]
      clear hz k0 k1 k3
      cases z with
      | false =>
        have HB1 := Lib.hid hb1
        clear hb1
        go_wp2_with fail
        go_ret
        have ht : Nf.takes l = false := by
          have h2 : l.all RE.may = false := by
            rw [List.all_eq_false]
            exact ⟨p, List.mem_of_getElem? hp, by rw [← HZ.out]; simp⟩
          unfold Nf.takes; rw [h2]; simp
        exact BdPost.nil (HX.out.rn.bel.trans (HB1.out.mono HX.out.rn.bel.size)) ht
      | true =>
        have hpm := (RE.may_iff p).1 HZ.out.symm
        have hx1 := HX.out.moved hb1
        have hpre : ∀ e ∈ l.take k, e.prt = true ∧ e.size ≤ 60 := fun e he => by
          have := (RE.may_iff e).1 (HM.out e he)
          exact ⟨this.2.2, this.1⟩
        have hdo := Nf.dm_ok (l.take k) hpre k (by rw [List.length_take]; omega)
        rw [List.take_take, Nat.min_self] at hdo
        have hcnt := Nf.stsL_size (l.take k) hpre
        rw [List.length_take] at hcnt
        have hps := Nf.sts_size p.size p (Nat.le_refl _) hpm.2.2
        have hp60 := hpm.1
        obtain ⟨X, hX⟩ : ∃ X, X = Nf.dm (l.take k) := ⟨_, rfl⟩
        rw [← hX] at hx1
        have hdo2 : Nf.DOk (1 + (Nf.stsL (l.take k)).length) k (Nf.stsL (l.take k)).length X (Nf.bl (l.take k) (Nf.b0 (1 + (Nf.stsL (l.take k)).length))) := by rw [hX]; exact hdo
        have hnx : Nf.dm (l.take (k + 1)) = Nf.dst X p := by rw [hX]; exact Nf.dl_next l Nf.d0 k p hp
        have hnS : Nf.mS (l.take (k + 1)) = Nf.mS (l.take k) ++ Nf.sts p := by unfold Nf.mS; rw [Nf.stsL_next l k p hp]; rfl
        obtain ⟨S, hS⟩ : ∃ S, S = Nf.mS (l.take k) := ⟨_, rfl⟩
        rw [← hS] at hx1 hnS
        have hSl : S.length = 1 + (Nf.stsL (l.take k)).length := by rw [hS]; unfold Nf.mS; simp; omega
        have hmin : min k l.length ≤ 16 := by omega
        have hS1 : S.length ≤ 930 := by
          have : min k l.length * 60 ≤ 15 * 60 := Nat.mul_le_mul_right _ (by omega)
          omega
        have lE := hdo2.lenE
        have hself := Nf.nd_self p hpm.2.2 X.F hdo2.rok
        have hnode := node_any p hpm.2.2 HRP.out (k : Int) hx1.rn hdo2.rok (by rw [hdo2.lenF]; omega) (by omega)
        obtain ⟨r, hr⟩ : ∃ r, r = Nf.nd p X.F := ⟨_, rfl⟩
        rw [← hr] at hnode hself
        have hdst : Nf.dst X p = ⟨r.2, addF X.Fi r.1.2.1, X.O ++ List.replicate (Nf.sts p).length (k : Int), Nf.setL (X.L ++ List.replicate (Nf.sts p).length false) r.1.2.2, X.Em ++ [r.1.1]⟩ := by unfold Nf.dst; rw [← hr, lE]
        have hFl := hdo2.lenF
        have hfl := hdo2.fok.len
        have HDO := Lib.hid hdo2
        have HR := Lib.hid hr
        have HX1 := Lib.hid hx1
        have HN := Lib.hid (And.intro hnx (And.intro hnS hdst))
        have HSE := Lib.hid hself
        have HLE := Lib.hid (And.intro lE (And.intro hFl hSl))
        have hEl : X.Em.length ≤ 1000 := by omega
        clear lE hFl hSl hx1 hdo hdo2 hnx hnS hdst hX hS hr hself
        go_wp2_with fail
        refine hnode.mono ?_
        rintro e w2 ⟨fv, lv', rfl, hpost⟩
        clear hnode
        obtain ⟨T1, vS1, vO1, vL1, vF1, ss1, fs1, hrn1, htr1, hfr, hlr⟩ := hpost.st
        rw [← HR.out] at hrn1 hfr hlr
        have hb2 := HX1.out.node hrn1 htr1
        obtain ⟨of, cf, rfl⟩ := hfr.form
        obtain ⟨ol, cl, rfl⟩ := hlr.form
        have H2 := Lib.hid (And.intro hb2 (And.intro hfr hlr))
        have hwb2 : w.heap.size ≤ w2.heap.size := hrn1.bel.size
        clear hpost hrn1 htr1 hfr hlr hb2 hb1 k01 k11 k31
        go_upto_region 10 with (fail)
        obtain ⟨W3, hW3⟩ : ∃ W3, W3 = w2.alloc (.cells #[.bool r.1.1, .slice of r.1.2.1.length cf, .slice ol r.1.2.2.length cl] 80) := ⟨_, rfl⟩
        rw [← hW3]
        have hb3 : Below w2.heap.size w2 W3 := by rw [hW3]; exact bel_new (Below.refl _ _) _
        obtain ⟨p5, hp5⟩ : ∃ p5, p5 = w2.heap.size := ⟨_, rfl⟩
        have h53 : W3.heap[p5]? = some (.cells #[.bool r.1.1, .slice of r.1.2.1.length cf, .slice ol r.1.2.2.length cl] 80 (0, 0)) := by rw [hW3, hp5]; exact World.alloc_heap_new w2 _
        have hs3 : W3.heap.size = w2.heap.size + 1 := by rw [hW3]; simp
        rw [← hp5]
        obtain ⟨ha2, hf2, hl2⟩ := H2.out
        have hx3 := ha2.moved hb3
        have hf3 := hf2.moved hb3
        have hl3 := hl2.moved hb3
        clear ha2 hf2 hl2 hW3 H2 hb3 hp5 hs3
        obtain ⟨o5, c5, e5⟩ := nf_slice hx3.em
        obtain ⟨o2', c2', e2⟩ := hx3.fi.form
        subst e5 e2
        obtain ⟨g0, gg1, gg2, gg3, gg4, gg5⟩ := n_cells hx3.rn.blk
        obtain ⟨z0, z1, z2, z3, z4, z5⟩ := n_froz hx3.rn.blk
        obtain ⟨d0, d1, d2⟩ := part_cells h53
        have hpl := hx3.rn.low.2
        have hp5l := (Array.getElem?_eq_some_iff.1 h53).1
        have hwb3 : w.heap.size ≤ W3.heap.size := hx3.rn.bel.size
        have gA5 : ∀ o : Obj, (W3.alloc o).cell? ⟨pb, 5, none⟩ = some (.slice o5 X.Em.length c5) := fun o => ((bel_new (Below.refl _ _) o).cell (p := ⟨pb, 5, none⟩) hpl).trans gg5
        have hE : ∀ Y, Below W3.heap.size W3 Y → ∀ (v' : Value) (w6 : World), w6.ownsRow w.heap.size 4 1 v' (X.Em.length + 1) (X.Em.map Value.bool ++ [.bool r.1.1]) → Y.grownBy w6 (Value.slice o5 X.Em.length c5).ownBlock → (∀ k, v'.ownBlock = some k → (Value.slice o5 X.Em.length c5).ownBlock = some k ∨ Y.heap.size ≤ k) →
            w6.heap[pb]? = some (.cells #[vS1, vO1, .slice o2' X.Fi.length c2', vL1, vF1, .slice o5 X.Em.length c5] 49 (0, 0)) ∧ RB w (w6.setCell ⟨pb, 5, none⟩ v') pb T1 vS1 vO1 (.slice o2' X.Fi.length c2') vL1 vF1 v' ss1 fs1 (S ++ Nf.sts p) ⟨r.2, X.Fi, X.O ++ List.replicate (Nf.sts p).length (k : Int), X.L ++ List.replicate (Nf.sts p).length false, X.Em ++ [r.1.1]⟩ ∧
            (w6.setCell ⟨pb, 5, none⟩ v').heap[p5]? = some (.cells #[.bool r.1.1, .slice of r.1.2.1.length cf, .slice ol r.1.2.2.length cl] 80 (0, 0)) ∧ PRd (w6.setCell ⟨pb, 5, none⟩ v') w.heap.size T1 (.slice of r.1.2.1.length cf) r.1.2.1 ∧ PRd (w6.setCell ⟨pb, 5, none⟩ v') w.heap.size T1 (.slice ol r.1.2.2.length cl) r.1.2.2 := fun Y hY v' w6 h1 h2 h3 => by
          obtain ⟨a1, a2, a3⟩ := (hx3.moved hY).empty h1 h2 h3
          exact ⟨a1, a2, a3 _ (by decide) (by decide) _ _ _ (bel_get hY h53), (hf3.moved hY).kty (a3 _ (by decide) (by decide)), (hl3.moved hY).kty (a3 _ (by decide) (by decide))⟩
        have HE := Lib.hid hE
        have hem := hx3.em
        have HEM := Lib.hid (fun Y (hY : Below W3.heap.size W3 Y) => owns_below hem hY)
        clear hE hx3 hf3 hl3 h53 hem
        go_cut [] from 21 to 77 (fun wx => ∃ v5', RB w wx pb T1 vS1 vO1 (.slice o2' X.Fi.length c2') vL1 vF1 v5' ss1 fs1 (S ++ Nf.sts p) ⟨r.2, X.Fi, X.O ++ List.replicate (Nf.sts p).length (k : Int), X.L ++ List.replicate (Nf.sts p).length false, X.Em ++ [r.1.1]⟩ ∧
            wx.heap[p5]? = some (.cells #[.bool r.1.1, .slice of r.1.2.1.length cf, .slice ol r.1.2.2.length cl] 80 (0, 0)) ∧ PRd wx w.heap.size T1 (.slice of r.1.2.1.length cf) r.1.2.1 ∧ PRd wx w.heap.size T1 (.slice ol r.1.2.2.length cl) r.1.2.2)
        case first =>
          go_region_law
            (first
             | (refine step_append_far _ (by rfl) _ _ 47 (by rfl) w.heap.size 4 i3 _ 1 1 Tryz.underlying47 hi3 hz30 hz31 hz32 rfl (by decide) (.slice o5 X.Em.length c5) X.Em.length (X.Em.map Value.bool) (by rfl) (HEM.out _ (by repeat (first | exact Below.refl _ _ | (refine Below.drew ?_) | (refine bel_new ?_ _)))) (.slice (some ⟨W3.heap.size, 0, none⟩) 1 1) 1 [.bool r.1.1] (by rfl) (by first | exact rowOneD _ _ _ W3.heap.size rfl | exact rowOne _ _ _ W3.heap.size rfl) (by rfl) (by simp [Value.oneCell']) (by unfold maxLen; omega) (by omega) (by simp; omega) ?_; intro v8 w8 hown8 hg8 hf8 hb8
                obtain ⟨o9, c9, rfl⟩ := nf_slice hown8
                have hE8 := HE.out _ (by repeat (first | exact Below.refl _ _ | (refine Below.drew ?_) | (refine bel_new ?_ _))) _ _ hown8 hg8 hf8
                obtain ⟨y0, y1, y2, y3, y4, y5⟩ := n_cells hE8.1
                obtain ⟨x0, x1, x2, x3, x4, x5⟩ := n_froz hE8.1))
          all_goals (
            have HE8 := Lib.hid hE8
            clear hE8
            go_wp2_with fail
            go_meet
            exact ⟨_, HE8.out.2⟩)
        case rest =>
          obtain ⟨v5', hx4, h54, hf4, hl4⟩ := hcut
          rename World => w4
          clear g0 gg1 gg2 gg3 gg4 gg5 z0 z1 z2 z3 z4 z5 d0 d1 d2 gA5 hpl hp5l hwb3 HE HEM
          have hfi4 := hx4.fi
          obtain ⟨g0, gg1, gg2, gg3, gg4, gg5⟩ := n_cells hx4.rn.blk
          obtain ⟨d0, d1, d2⟩ := part_cells h54
          have hpl := hx4.rn.low.2
          have hp5l := (Array.getElem?_eq_some_iff.1 h54).1
          have hself := HSE.out
          have hrl : r.2.length ≤ 1000 := by
            have := HLE.out
            have := hself.1
            omega
          have l1 := hself.2.1.len
          have l2 := hself.2.2.1.len
          have hadd := fun (Y : World) (hY : Below w4.heap.size w4 Y) => radd_any X.Fi r.1.2.1 _ _ Y ((hfi4.moved hY).row) ((hf4.moved hY).row) (by omega) (by omega)
          have hE : ∀ Y, Below w4.heap.size w4 Y → ∀ (v' : Value) (w6 : World), w6.ownsRow Y.heap.size 3 1 v' (addF X.Fi r.1.2.1).length (ints1 (addF X.Fi r.1.2.1)) → Below Y.heap.size Y w6 →
              w6.heap[pb]? = some (.cells #[vS1, vO1, .slice o2' X.Fi.length c2', vL1, vF1, v5'] 49 (0, 0)) ∧ RB w (w6.setCell ⟨pb, 2, none⟩ v') pb T1 vS1 vO1 v' vL1 vF1 v5' ss1 fs1 (S ++ Nf.sts p) ⟨r.2, addF X.Fi r.1.2.1, X.O ++ List.replicate (Nf.sts p).length (k : Int), X.L ++ List.replicate (Nf.sts p).length false, X.Em ++ [r.1.1]⟩ ∧
              (w6.setCell ⟨pb, 2, none⟩ v').heap[p5]? = some (.cells #[.bool r.1.1, .slice of r.1.2.1.length cf, .slice ol r.1.2.2.length cl] 80 (0, 0)) ∧ PRd (w6.setCell ⟨pb, 2, none⟩ v') w.heap.size T1 (.slice ol r.1.2.2.length cl) r.1.2.2 := fun Y hY v' w6 h1 h2 => by
            obtain ⟨a2, a3⟩ := (hx4.moved hY).first h1 h2
            exact ⟨bel_get h2 (bel_get hY hx4.rn.blk), a2, a3 _ (by decide) _ _ _ (bel_get hY h54), (hl4.moved hY).kty (a3 _ (by decide))⟩
          have HE := Lib.hid hE
          have HA := Lib.hid hadd
          clear hE hadd hx4 hf4 hl4 hfi4 h54 hself
          go_upto_region 11 with (fail)
          go_cut [] from 21 to 77 (fun wx => ∃ v2', RB w wx pb T1 vS1 vO1 v2' vL1 vF1 v5' ss1 fs1 (S ++ Nf.sts p) ⟨r.2, addF X.Fi r.1.2.1, X.O ++ List.replicate (Nf.sts p).length (k : Int), X.L ++ List.replicate (Nf.sts p).length false, X.Em ++ [r.1.1]⟩ ∧
            wx.heap[p5]? = some (.cells #[.bool r.1.1, .slice of r.1.2.1.length cf, .slice ol r.1.2.2.length cl] 80 (0, 0)) ∧ PRd wx w.heap.size T1 (.slice ol r.1.2.2.length cl) r.1.2.2)
          case first =>
            go_region_law
              (first
               | (go_simp; go_at_call 46; refine (HA.out _ (by repeat (first | exact Below.refl _ _ | refine Below.drew ?_))).mono ?_; rintro x w8 ⟨u8, rfl, hu8, hb8⟩
                  obtain ⟨o9, c9, rfl⟩ := nf_slice hu8
                  have hE8 := HE.out _ (by repeat (first | exact Below.refl _ _ | refine Below.drew ?_)) _ _ hu8 hb8
                  obtain ⟨y0, y1, y2, y3, y4, y5⟩ := n_cells hE8.1
                  obtain ⟨x0, x1, x2, x3, x4, x5⟩ := n_froz hE8.1))
            all_goals (
              have HE8 := Lib.hid hE8
              clear hE8
              go_wp2_with fail
              go_meet
              exact ⟨_, HE8.out.2⟩)
          case rest =>
            obtain ⟨v2', hx5, h55, hl5⟩ := hcut
            rename World => w5
            clear g0 gg1 gg2 gg3 gg4 gg5 d0 d1 d2 hpl hp5l HE HA
            obtain ⟨d0, d1, d2⟩ := part_cells h55
            obtain ⟨L1, hL1⟩ : ∃ L1, L1 = X.L ++ List.replicate (Nf.sts p).length false := ⟨_, rfl⟩
            rw [← hL1] at hx5
            have hLl : L1.length = r.2.length := by have h1 := hx5.rn.lenL; have h2 := hx5.rn.lenF; simp only at h1 h2; omega
            have hself := HSE.out
            have hL0 : 0 < L1.length := by have := HLE.out; omega
            have hlast0 : w5.ownsRow w.heap.size 4 1 vL1 L1.length (L1.map Value.bool) := hx5.rn.last
            obtain ⟨g, cg, rfl⟩ := owns_some hlast0 hL0
            have hin := hself.2.2.1.in
            have HLL := Lib.hid (And.intro hLl (And.intro hin hL1))
            have H5 := Lib.hid (And.intro hx5 (And.intro h55 hl5))
            obtain ⟨la, hla⟩ : ∃ la, la = r.1.2.2 := ⟨_, rfl⟩
            rw [← hla] at d2 H5 HLL
            have hlaL : la.length ≤ 1000 := by rw [hla]; omega
            have HLA := Lib.hid hla
            clear hx5 h55 hl5 hself hlast0 hin hLl hL1 hla hL0 d0 d1
            go_wp2_with fail
            go_loopg [6] la.length (fun g2 s6 wx => ∃ j : Nat, j + g2 = la.length ∧ s6 = .int .i64 (j : Int) ∧ RB w wx pb T1 vS1 vO1 v2' (.slice (some ⟨g, 0, none⟩) L1.length cg) vF1 v5' ss1 fs1 (S ++ Nf.sts p) ⟨r.2, addF X.Fi r.1.2.1, X.O ++ List.replicate (Nf.sts p).length (k : Int), Nf.setL L1 (la.take j), X.Em ++ [r.1.1]⟩ ∧
              wx.heap[p5]? = some (.cells #[.bool r.1.1, .slice of r.1.2.1.length cf, .slice ol la.length cl] 80 (0, 0)) ∧ PRd wx w.heap.size T1 (.slice ol la.length cl) la)
            case atStart => exact ⟨0, by omega, rfl, by rw [List.take_zero]; exact H5.out.1, H5.out.2⟩
            case round =>
              obtain ⟨j, hj, rfl, hx6, h56, hl6⟩ := hrel
              have hlen6 : (Nf.setL L1 (la.take j)).length = L1.length := Nf.setL_len _ _
              by_cases hjl : j < la.length
              · obtain ⟨g3, hg3⟩ : ∃ g3, g3 + 1 = gk := ⟨gk - 1, by omega⟩
                have hdj : (j : Int) < (la.length : Int) := by omega
                obtain ⟨sx, hsx⟩ : ∃ sx, sx = la.getD j 0 := ⟨_, rfl⟩
                have hsr := HLL.out.2.1 sx (by rw [hsx]; simp [List.getD, List.getElem?_eq_getElem hjl])
                obtain ⟨m, rfl⟩ : ∃ m : Nat, sx = (m : Int) := ⟨sx.toNat, by omega⟩
                have hmL : m < L1.length := by have := HLL.out.1; omega
                have hdm : (m : Int) < (L1.length : Int) := by omega
                have hnx := Nf.setL_next L1 la j hjl
                rw [← hsx, Int.toNat_natCast] at hnx
                obtain ⟨lb, lf, e6, hll, hlc⟩ := adrow_at hl6.row (i := j) (u := .int .i64 (m : Int)) (by rw [getElem?_ints hjl, hsx]) hjl
                obtain ⟨Lc, hLc⟩ : ∃ Lc, Lc = Nf.setL L1 (la.take j) := ⟨_, rfl⟩
                rw [← hLc] at hx6 hnx hlen6
                have hlast : wr.ownsRow w.heap.size 4 1 (.slice (some ⟨g, 0, none⟩) L1.length cg) Lc.length (Lc.map Value.bool) := hx6.rn.last
                rw [hlen6] at hlast
                obtain ⟨cur, hgt⟩ := own_typ hlast (k := g) rfl
                obtain ⟨b', off', e7, hgl, hgc⟩ := adrow_at (Row.owned hlast) (bools_get Lc (p := m) (by omega)) hmL
                simp only [Option.some.injEq, Addr.mk.injEq] at e7
                obtain ⟨rfl, rfl, _⟩ := e7
                rw [Nat.zero_add] at hgc
                have hgf : wr.frozen? ⟨g, m, none⟩ = false := by simp [World.frozen?, hgt]
                obtain ⟨n0, n1', n2, n3, n4, n5⟩ := n_cells hx6.rn.blk
                obtain ⟨x0, x1, x2⟩ := part_cells h56
                subst e6
                obtain ⟨hx7, hk7⟩ := RB.last (m := m) (by rw [← hlen6] at hx6; exact hx6)
                rw [hlen6, ← hnx] at hx7
                have H7 := Lib.hid (And.intro hx7 (And.intro (hk7 _ (by decide) _ _ _ h56) (hl6.kty (hk7 _ (by decide)))))
                clear hx6 h56 hl6 hnx hlen6 hLc hlast hgt hx7 hk7 hsx hsr
                go_upto_region 15 with (fail)
                go_region
                all_goals (
                  go_wp2_with fail
                  go_roundg g3
                  case measure => omega
                  case rel => exact ⟨j + 1, by omega, by simp, by first | exact H7.out.1 | exact H7.out.1.moved (Below.refl _ _).drew, H7.out.2.1, by first | exact H7.out.2.2 | exact H7.out.2.2.moved (Below.refl _ _).drew⟩)
              · obtain rfl : j = la.length := by omega
                rw [List.take_length] at hx6
                have H6 := Lib.hid hx6
                obtain ⟨x0, x1, x2⟩ := part_cells h56
                clear hx6 h56 hl6 hlen6
                go_wp2_with fail
                go_roundg g1
                case measure => omega
                case rel =>
                  obtain ⟨hn1, hn2, hn3⟩ := HN.out
                  refine ⟨k + 1, by omega, by simp, mayall_next l k p hp HM.out HZ.out.symm, T1, vS1, vO1, v2', .slice (some ⟨g, 0, none⟩) L1.length cg, vF1, v5', ss1, fs1, ?_⟩
                  rw [hn1, hn2, hn3, ← HLL.out.2.2, ← HLA.out]
                  exact H6.out
    · obtain rfl : k = l.length := by omega
      rw [List.take_length] at hmay hx
      obtain ⟨X, hX⟩ : ∃ X, X = Nf.dm l := ⟨_, rfl⟩
      rw [← hX] at hx
      have hpre : ∀ e ∈ l, e.prt = true ∧ e.size ≤ 60 := fun e he => by
        have := (RE.may_iff e).1 (hmay e he)
        exact ⟨this.2.2, this.1⟩
      have hdo := Nf.dm_ok l hpre l.length (Nat.le_refl _)
      rw [List.take_length] at hdo
      have hF0 : 0 < X.F.length := by rw [hX]; have := hdo.lenF; unfold Nf.dm; omega
      have htab : wr.ownsRow w.heap.size 23 1 vF X.F.length fs := hx.rn.fol.tab
      obtain ⟨g, cg, rfl⟩ := owns_some htab hF0
      obtain ⟨cur, hgt⟩ := own_typ htab (k := g) rfl
      obtain ⟨g', c', cur', e7, hBg, hgb, hgc⟩ := hx.rn.fol.at hF0
      simp only [Value.slice.injEq, Option.some.injEq, Addr.mk.injEq] at e7
      obtain ⟨⟨rfl, _, _⟩, _, rfl⟩ := e7
      have hgf : wr.frozen? ⟨g, 0, none⟩ = false := by simp [World.frozen?, hgt]
      obtain ⟨n0, n1', n2, n3, n4, n5⟩ := n_cells hx.rn.blk
      obtain ⟨o2', c2', e2⟩ := hx.fi.form
      subst e2
      have hdF : (0 : Int) < (X.F.length : Int) := by omega
      have hfin := RB.fol0 (F := X.F) (Fi := X.Fi) (O := X.O) (L := X.L) (Em := X.Em) hx hF0
      have ht : Nf.takes l = true := by
        unfold Nf.takes
        rw [decide_eq_true (show 1 ≤ l.length by omega), decide_eq_true (show l.length ≤ 16 by omega), List.all_eq_true.2 hmay]; rfl
      have HF := Lib.hid (And.intro hfin (And.intro ht hX))
      clear hx hmay hdo hpre htab hgt hgb hfin ht hX hBg
      go_upto_region 16 with (fail)
      go_region
      all_goals (
        go_wp2_with fail
        go_ret
        obtain ⟨hfin, ht, hX⟩ := HF.out
        have hfin := hfin.moved (Below.refl _ _).drew
        refine ⟨hfin.rn.bel, fun _ => ⟨pb, g, cg, T, vS, vO, .slice o2' X.Fi.length c2', vL, v5, ss, fs.set 0 (.slice o2' X.Fi.length c2'), rfl, ?_⟩, fun h => absurd (h.symm.trans ht) (by decide)⟩
        rw [← hX]
        exact hfin)
end Go.Proofs.YtmgfpcblbbpahaaGreat

namespace Go.Proofs.YtmgfpcblbbpahaaGreat
open Go.RowKit Ru

theorem gaps_len (P : List Pc) : ∀ l : List Int, (gaps P l).length ≤ l.length
  | [] => by simp [gaps]
  | [x] => by simp [gaps]
  | x :: y :: l => by
    have ih := gaps_len P (y :: l)
    unfold gaps
    split
    · simp at ih ⊢; omega
    · simp at ih ⊢; omega
theorem insD_len (x : Int) : ∀ l : List Int, (insD x l).length ≤ l.length + 1
  | [] => by simp [insD]
  | y :: l => by
    have ih := insD_len x l
    unfold insD
    split
    · simp
    · split
      · simp
      · simp; omega
theorem srtD_len (l : List Int) : (srtD l).length ≤ l.length := by
  have h : ∀ (l s : List Int), (l.foldl (fun s x => insD x s) s).length ≤ l.length + s.length := by
    intro l
    induction l with
    | nil => intro s; simp
    | cons x l ih =>
      intro s
      have h1 := ih (insD x s)
      have h2 := insD_len x s
      rw [List.foldl_cons, List.length_cons]; omega
  have := h l []
  simpa [srtD] using this
theorem ends_len : ∀ P : List Pc, (ends P).length = 2 * P.length
  | [] => rfl
  | q :: P => by simp [ends, ends_len P]; omega
theorem srt_len : ∀ l : List Pc, (srt l).length = l.length := by
  have hi : ∀ (p : Pc) (l : List Pc), (ins p l).length = l.length + 1 := by
    intro p l
    induction l with
    | nil => simp [ins]
    | cons q l ih => unfold ins; split <;> simp [ih]
  intro l
  induction l with
  | nil => rfl
  | cons p l ih => unfold srt; rw [hi, ih]; rfl
theorem pcs_len (s : List Pc) : (pcs s).length ≤ s.length := by
  unfold pcs raw
  refine Nat.le_trans (merge_len _) ?_
  rw [srt_len]
  exact Nat.le_trans (List.length_filter_le _ _) (by simp)
theorem cutsF_len (S : List (List Pc)) (K : Nat) (h : ∀ s ∈ S, s.length ≤ K) : (cutsF S).length ≤ 2 * (S.length * K) := by
  have hP : (S.flatMap pcs).length ≤ S.length * K := by
    induction S with
    | nil => simp
    | cons s S ih =>
      have h1 := ih (fun q hq => h q (by simp [hq]))
      have h2 := pcs_len s
      have h3 := h s (by simp)
      rw [List.flatMap_cons, List.length_append, List.length_cons, Nat.succ_mul]; omega
  unfold cutsF rngs cutF
  rw [List.length_map]
  have h1 := gaps_len (S.flatMap pcs) (srtD (ends (S.flatMap pcs)))
  have h2 := srtD_len (ends (S.flatMap pcs))
  rw [ends_len] at h2
  omega
namespace Nf
theorem sts_short : ∀ (N : Nat) (e : RE), e.size ≤ N → e.prt = true → ∀ s ∈ sts e, s.length ≤ 20 := by
  intro N
  induction N with
  | zero => intro e h; have := e.size_pos; omega
  | succ N ih =>
    intro e h hp
    cases e with
    | mk k s l =>
      rw [RE.size_mk] at h
      rw [sts_mk]
      rcases prt_cases hp with ⟨rfl, rfl⟩ | ⟨rfl, rfl⟩ | ⟨rfl, rfl, _, h20⟩ | ⟨rfl, a, rfl, ha⟩ | ⟨hk, a, b, rfl, ha, hb⟩
      · simp [stsL_nil]
      · simp [stsL_nil]
      · intro q hq
        rw [if_pos rfl, stsL_nil, List.mem_singleton] at hq
        subst hq; exact h20
      · rw [RE.sizes_cons, RE.sizes_nil] at h
        have := ih a (by omega) ha
        simpa [stsL_cons, stsL_nil] using this
      · rw [RE.sizes_cons, RE.sizes_cons, RE.sizes_nil] at h
        have h1 := ih a (by omega) ha
        have h2 := ih b (by omega) hb
        have k2 : ¬ k = 2 := by omega
        intro q hq
        rw [if_neg k2, stsL_cons, stsL_cons, stsL_nil, List.append_nil, List.mem_append] at hq
        exact hq.elim (h1 q) (h2 q)
theorem stsL_short (l : List RE) (hp : ∀ e ∈ l, e.prt = true) : ∀ s ∈ stsL l, s.length ≤ 20 := by
  induction l with
  | nil => rw [stsL_nil]; simp
  | cons e l ih =>
    intro s hs
    rw [stsL_cons, List.mem_append] at hs
    rcases hs with hs | hs
    · exact sts_short e.size e (Nat.le_refl _) (hp e (by simp)) s hs
    · exact ih (fun e he => hp e (by simp [he])) s hs
theorem mS_cells (l : List RE) (h : ∀ e ∈ l, e.may = true) (hl : l.length ≤ 16) : (cutsF (mS l)).length ≤ 40000 := by
  have hp : ∀ e ∈ l, e.prt = true ∧ e.size ≤ 60 := fun e he => by
    have := (RE.may_iff e).1 (h e he)
    exact ⟨this.2.2, this.1⟩
  have h1 : ∀ s ∈ mS l, s.length ≤ 20 := by
    intro s hs
    unfold mS at hs
    rcases List.mem_cons.1 hs with rfl | hs
    · simp
    · exact stsL_short l (fun e he => (hp e he).1) s hs
  have h2 := cutsF_len (mS l) 20 h1
  have h3 := stsL_size l hp
  have h4 : (mS l).length = 1 + (stsL l).length := by unfold mS; simp; omega
  omega
end Nf
end Go.Proofs.YtmgfpcblbbpahaaGreat

namespace Go.Proofs.YtmgfpcblbbpahaaGreat
open Go.RowKit Ru Rn Rn.Ru

namespace Nf
theorem mem_mFr (l : List RE) (q : Nat) (x : Int) : x ∈ (mF l).getD q [] ↔ x ∈ (mB l).F.getD q [] := by
  unfold mF
  rw [List.getD_eq_getElem?_getD, List.getD_eq_getElem?_getD, List.getElem?_map]
  cases h : (mB l).F[q]? with
  | none => simp
  | some r => simp [mem_ord]
theorem dm_F (l : List RE) (hl : ∀ e ∈ l, e.prt = true ∧ e.size ≤ 60) : (dm l).F.set 0 (dm l).Fi = mF l := by
  have hd := dm_ok l hl l.length (Nat.le_refl _)
  have hb := bl_ok l hl l.length (Nat.le_refl _)
  rw [List.take_length] at hd hb
  have hlF := hd.lenF
  have hlB := hb.lf
  have hF0 : 0 < (dm l).F.length := by show 0 < (dl l d0).F.length; omega
  refine List.ext_getElem ?_ fun i h1 h2 => ?_
  · unfold mF mB; rw [List.length_set, List.length_map]
    show (dl l d0).F.length = _
    omega
  · have h1' : i < (dl l d0).F.length := by simpa [List.length_set] using h1
    have hasc : ((mF l)[i]).Pairwise (· < ·) := by
      obtain ⟨r, _, e⟩ := List.mem_map.1 (show (mF l)[i] ∈ (mB l).F.map ordL from List.getElem_mem h2)
      rw [← e]; exact ord_lt _
    have hmem : ∀ z, z ∈ (mF l)[i] ↔ z ∈ (mB l).F.getD i [] := fun z => by
      rw [← mem_mFr l i z, List.getD_eq_getElem?_getD, List.getElem?_eq_getElem h2]; rfl
    have hrow : ((dm l).F.set 0 (dm l).Fi)[i] = if i = 0 then (dl l d0).Fi else (dl l d0).F.getD i [] := by
      rw [List.getElem_set]
      by_cases h : i = 0
      · subst h; simp
      · rw [if_neg (fun e => h e.symm), if_neg h, List.getD_eq_getElem?_getD, List.getElem?_eq_getElem h1']; rfl
    rw [hrow]
    by_cases h : i = 0
    · subst h
      rw [if_pos rfl]
      exact asc_ext (ris_pw _ _ hd.fok.1) hasc fun z => by rw [hmem z]; exact hd.r0 z
    · rw [if_neg h]
      have hq : (dl l d0).F.getD i [] ∈ (dl l d0).F := by rw [List.getD_eq_getElem?_getD, List.getElem?_eq_getElem h1']; simp
      exact asc_ext (ris_pw _ _ (hd.rok _ hq).1) hasc fun z => by rw [hmem z]; exact hd.r1 i (by omega) z
theorem all_prt {l : List RE} (h : ∀ e ∈ l, e.may = true) : ∀ e ∈ l, e.prt = true ∧ e.size ≤ 60 := fun e he => by
  have := (RE.may_iff e).1 (h e he)
  exact ⟨this.2.2, this.1⟩
theorem mF_len (l : List RE) (h : ∀ e ∈ l, e.may = true) : (mF l).length = (mS l).length := by
  have hb := bl_ok l (all_prt h) l.length (Nat.le_refl _)
  rw [List.take_length] at hb
  have := hb.lf
  unfold mF mB mS; rw [List.length_map, List.length_cons]; omega
theorem mF_fit (l : List RE) (h : ∀ e ∈ l, e.may = true) : ∀ r ∈ mF l, DnOk (mS l).length r := by
  have hd := dm_ok l (all_prt h) l.length (Nat.le_refl _)
  rw [List.take_length] at hd
  have hlF := hd.lenF
  have hlS : (mS l).length = (dl l d0).F.length := by unfold mS; rw [List.length_cons]; omega
  rw [← dm_F l (all_prt h), hlS]
  intro r hr
  rcases List.mem_or_eq_of_mem_set hr with h1 | rfl
  · exact hd.rok r h1
  · exact hd.fok
end Nf
theorem ris_of {w w' : World} {l : List RE} {pb g c : Nat} {T : Nat → Prop} {vS vO v2 vL v5 : Value} {ss fs : List Value} (h : ∀ e ∈ l, e.may = true) (hfit : ∀ e ∈ l, e.Fit) (hl : l.length ≤ 16)
    (hb : RB w w' pb T vS vO v2 vL (.slice (some ⟨g, 0, none⟩) (Nf.dm l).F.length c) v5 ss fs (Nf.mS l) ⟨(Nf.dm l).F.set 0 (Nf.dm l).Fi, (Nf.dm l).Fi, (Nf.dm l).O, (Nf.dm l).L, (Nf.dm l).Em⟩) :
    ∃ so oo lo fo eo sc oc lc fc ec, RIs w' pb (Nf.mS l) (Nf.dm l).O (Nf.dm l).L (Nf.mF l) (Nf.dm l).Em so oo lo fo eo sc oc lc fc ec ss fs := by
  have hd := Nf.dm_ok l (Nf.all_prt h) l.length (Nat.le_refl _)
  rw [List.take_length] at hd
  have hlF : (Nf.dm l).F.length = (Nf.mF l).length := by rw [← Nf.dm_F l (Nf.all_prt h), List.length_set]
  rw [Nf.dm_F l (Nf.all_prt h), hlF] at hb
  have hr := hb.rn
  obtain ⟨so, sc, e1⟩ := nf_slice hr.sets
  obtain ⟨oo, oc, e2⟩ := nf_slice hr.ofs
  obtain ⟨lo, lc, e3⟩ := nf_slice hr.last
  obtain ⟨eo, ec, e5⟩ := nf_slice hb.em
  subst e1 e2 e3 e5
  obtain ⟨g0, g1, g2, g3, g4, g5⟩ := n_cells hr.blk
  have hsz := Nf.stsL_size l (Nf.all_prt h)
  have hS : (Nf.mS l).length ≤ 1000 := by
    unfold Nf.mS; rw [List.length_cons]
    have : l.length * 60 ≤ 16 * 60 := Nat.mul_le_mul_right _ hl
    omega
  have hlE := hd.lenE
  have hlS : (Nf.mS l).length = 1 + (Nf.stsL l).length := by unfold Nf.mS; rw [List.length_cons]; omega
  refine ⟨so, oo, lo, some ⟨g, 0, none⟩, eo, sc, oc, lc, c, ec, hr.low.2, g0, g1, g3, g4, g5, ⟨hr.sl, Row.owned hr.sets, fun i hi => (hr.sr i hi).below hr.bel⟩, Row.owned hr.ofs, Row.owned hr.last, ⟨hr.fol.len, Row.owned hr.fol.tab, fun i hi => Row.owned (hr.fol.own i hi)⟩, Row.owned hb.em, hr.lenO, hr.lenL, hr.lenF, hS, ⟨fun s hs => ?_, fun r hr => ?_⟩, fun r hr x hx => (Nf.mF_fit l h r hr).in x hx, ?_, fun p h1 h2 => ?_⟩
  · unfold Nf.mS at hs
    rcases List.mem_cons.1 hs with rfl | hs
    · simp
    · exact (Nf.stsL_fit l (fun e he => ⟨(Nf.all_prt h e he).1, hfit e he⟩) s hs).2
  · have := (Nf.mF_fit l h r hr).len; omega
  · show (Nf.dl l Nf.d0).Em.length ≤ 100; omega
  · exact hd.fit p h1 (by omega)
theorem rnext_eq (l : List RE) (h : ∀ e ∈ l, e.may = true) (on : List Int) (r : Int) : dnOut (Nf.mS l) (Nf.mF l) r on = nextL (Nf.mS l) (Nf.mF l) on r :=
  dn_next (Nf.mS l) (Nf.mF l) r on (Nf.mF_len l h) fun f hf y hy => (Nf.mF_fit l h f hf).in y hy
theorem rrules_eq (l : List RE) (h : ∀ e ∈ l, e.may = true) (on : List Int) : rlOut (Nf.mS l).length (Nf.dm l).O (Nf.dm l).L (Nf.dm l).Em on = Nf.gat (Nf.mE l) on := by
  have hd := Nf.dm_ok l (Nf.all_prt h) l.length (Nat.le_refl _)
  have hb := Nf.bl_ok l (Nf.all_prt h) l.length (Nat.le_refl _)
  rw [List.take_length] at hd hb
  have hlS : (Nf.mS l).length = 1 + (Nf.stsL l).length := by unfold Nf.mS; rw [List.length_cons]; omega
  exact rl_rules _ _ _ _ _ on (by omega) (by rw [hlS]; exact hb.le) (fun p h1 h2 => hd.fit p h1 (by omega)) hd.e0 (fun p h1 h2 z => hd.e1 p (by omega) z)
theorem mS_pcs (l : List RE) (h : ∀ e ∈ l, e.may = true) (hl : l.length ≤ 16) : ((Nf.mS l).flatMap pcs).length ≤ 40000 := by
  have hsz := Nf.stsL_size l (Nf.all_prt h)
  have hS : (Nf.mS l).length ≤ 961 := by
    unfold Nf.mS; rw [List.length_cons]
    have : l.length * 60 ≤ 16 * 60 := Nat.mul_le_mul_right _ hl
    omega
  have hk : ∀ s ∈ Nf.mS l, s.length ≤ 20 := fun s hs => by
    unfold Nf.mS at hs
    rcases List.mem_cons.1 hs with rfl | hs
    · simp
    · exact Nf.stsL_short l (fun e he => (Nf.all_prt h e he).1) s hs
  have : ∀ (S : List (List Pc)), (∀ s ∈ S, s.length ≤ 20) → (S.flatMap pcs).length ≤ S.length * 20 := by
    intro S
    induction S with
    | nil => intro _; simp
    | cons s S ih =>
      intro hS
      rw [List.flatMap_cons, List.length_append, List.length_cons, Nat.succ_mul]
      have h1 := hS s (by simp)
      have h2 := ih fun q hq => hS q (by simp [hq])
      have h3 := pcs_len s
      omega
  have := this _ hk
  omega
end Go.Proofs.YtmgfpcblbbpahaaGreat

namespace Go.Proofs.YtmgfpcblbbpahaaGreat
open Go.RowKit Ru

inductive FT where
  | leaf (q : Nat) (f : Bool)
  | one (q : Nat) (f : Bool) (a : FT)
  | two (q : Nat) (f : Bool) (a b : FT)
namespace FT
def q : FT → Nat | leaf q _ => q | one q _ _ => q | two q _ _ _ => q
def f : FT → Bool | leaf _ f => f | one _ f _ => f | two _ f _ _ => f
end FT
def NodeF (w0 w : World) (q : Nat) (e : RE) (f : Bool) (qs : List Nat) : Prop :=
  ∃ sv pv, w.heap[q]? = some (.cells #[.int .i64 e.kind, sv, pv, .bool e.emp, .bool f] 76 (0, 0)) ∧ w0.heap.size ≤ q ∧ Row w0 sv e.set.length (flatK .i32 e.set) ∧ w.ownsRow w0.heap.size 72 1 pv qs.length (ptrs qs)
section
variable {w0 w w' : World} {q : Nat} {e : RE} {f : Bool} {qs L : List Nat} {t : FT}
theorem NodeF.cells (h : NodeF w0 w q e f qs) : w.cell? ⟨q, 3, none⟩ = some (.bool e.emp) ∧ w.cell? ⟨q, 4, none⟩ = some (.bool f) ∧ w.frozen? ⟨q, 4, none⟩ = false := by
  obtain ⟨sv, pv, h1, _⟩ := h
  simp [World.cell?, World.frozen?, h1]
end
end Go.Proofs.YtmgfpcblbbpahaaGreat

namespace Go.Proofs.YtmgfpcblbbpahaaGreat
open Go.RowKit Ru

end Go.Proofs.YtmgfpcblbbpahaaGreat

namespace Go.Proofs.YtmgfpcblbbpahaaGreat
open Go.RowKit Ru

structure NX (w0 w : World) (q : Nat) (e : RE) (f : Bool) (qs : List Nat) (o : Option Addr) (c g pc : Nat) : Prop where
  hp : w.heap[q]? = some (.cells #[.int .i64 e.kind, .slice o e.set.length c, .slice (some ⟨g, 0, none⟩) qs.length pc, .bool e.emp, .bool f] 76 (0, 0))
  low : w0.heap.size ≤ q
  row : Row w0 (.slice o e.set.length c) e.set.length (flatK .i32 e.set)
  own : w.ownsRow w0.heap.size 72 1 (.slice (some ⟨g, 0, none⟩) qs.length pc) qs.length (ptrs qs)
section
variable {w0 w w' : World} {q : Nat} {e : RE} {f : Bool} {qs L : List Nat} {o : Option Addr} {c g pc : Nat}
theorem NX.cells (h : NX w0 w q e f qs o c g pc) : (w.cell? ⟨q, 0, none⟩ = some (.int .i64 e.kind) ∧ w.cell? ⟨q, 2, none⟩ = some (.slice (some ⟨g, 0, none⟩) qs.length pc) ∧ w.cell? ⟨q, 3, none⟩ = some (.bool e.emp) ∧ w.cell? ⟨q, 4, none⟩ = some (.bool f) ∧ w.frozen? ⟨q, 4, none⟩ = false) := by
  have h1 := h.hp
  simp [World.cell?, World.frozen?, h1]
theorem NX.part (h : NX w0 w q e f qs o c g pc) {i x : Nat} (hi : qs[i]? = some x) : w.cell? ⟨g, i, none⟩ = some (.pointer (some ⟨x, 0, none⟩)) := by
  have := h.own.cells (g := g) (by simp [Value.ownBlock]) i (.pointer (some ⟨x, 0, none⟩)) (by simp [ptrs, hi])
  have e1 : ((⟨g, 0, none⟩ : Addr).add i) = ⟨g, i, none⟩ := by unfold Addr.add; by_cases e : i = 0 <;> simp [e]
  rwa [e1] at this
end
end Go.Proofs.YtmgfpcblbbpahaaGreat

namespace Go.Proofs.YtmgfpcblbbpahaaGreat
open Go.RowKit Ru

end Go.Proofs.YtmgfpcblbbpahaaGreat

namespace Go.Proofs.YtmgfpcblbbpahaaGreat
open Go.RowKit Ru

end Go.Proofs.YtmgfpcblbbpahaaGreat
