/- gobolaw11.Make: its region 17 (a step). -/
import Derived.Test.YtbanmggkfpnalaaGreatDoorSp
import Derived.Test.YtbanmggkfpnalaaGreatDoorGMkX
import Derived.Deep.RegionHeld3
import Derived.Deep.CutBlock
set_option linter.unusedVariables false
set_option linter.unusedSimpArgs false
namespace Go.Proofs.YtbanmggkfpnalaaGreatDoor
open Go.RowKit Ru
set_option maxHeartbeats 80000000 in
set_option maxRecDepth 100000 in
theorem mk_arm17 : mkX.2.1 := by
  intro hP L vs w hLB ii hi hz0 hz1 hz2 ir hr0 hr1 hr2 hr3 is hs0 hs1 hs2 hs3 cl _ W pc pd _ _ _ _ _ _ _ _ _ _ _ _ _ _ _ _ _ _ _ _ _ _ _ _ _ _ _ _ _ _ _ _ _ _ _ _ _ _ _ _ _ _ _ _ _ _ _ _ _ _ _ _ _ _ _ _ _ _ _ _ _ _ _ _ _ _ _ _ _ _ _ _ _ _ _ _ _ _ _ _ _ _ _ _ _ _ _ _ _ _ _ _ _ _ _ _ _ _ _ _ _ _ _ _ _ _ _ _ _ _ _ _ _ _ _ _ _ _ _ _ _ _ _ _ _ _ _ _ _ _ _ _ _ _ p5 pt pa pb W4 wc _ _ _ _ _ _ _ _ _ _ _ _ _ _ _ _ _ _ _ _ _ _ _ _ _ _ _ _ _ _ _ _ _ _ _ _ _ _ _ _ _ _ _ _ _ _ _ _ _ _ _ _ _ _ _ _ _ _ _ _ _ _ _ _ _ _ _ _ _ _ _ _ _ _ _ _ _ _ _ _ _ _ _ _ _ _ _ _ _ _ _ _ _ _ _ _ _ _ _ _ _ _ _ _ _ _ _ _ _ _ _ _ _ _ _ _ _ _ _ _ _ _ _ _ _ _ _ _ _ _ _ _ _ cb rb T C R B HMN HMF _ _ _ _ _ _ _ _ _ _ _ _ _ _ _ _ _ _ _ _ _ _ _ _ _ _ _ _ _ _ _ _ _ _ _ _ _ _ _ _ _ _ _ _ _ _ _ _ _ _ _ _ _ _ _ _ _ _ _ _ _ _ _ _ _ _ _ _ _ _ _ _ _ _ _ _ _ _ _ _ _ _ _ _ _ _ _ _ _ _ _ _ _ _ _ _ _ _ _ _ _ _ _ _ i n c o ps hni HPS hn3 ot nt ct HMG hiL hi3 hd1 hd1b hd2 hd2b li hli bL offL HLL _ ci HLF hiL2 hi0 g _ hig h2 bl offl hu HLI k HKF hll _ _ _ _ nn hnn HNF fr HFR wo HG hcL hrb hwr wr _ _ _ _ _ _ _ _ _ _ _ _ _ _ _ _ _ _ _ _ _ _ _ _ _ _ _ _ _ _ _ _ _ _ _ _ _ _ _ _ _ _ _ _ _ _ _ _ _ _ _ _ _ _ _ _ _ _ _ j c2 o2 qs HI HQE HG2 hr hpg hbl hpgl hpl hcL2 q0 q1 q2 q3 c0 c1 c2' g2 _ hjg t0 t1 _ _ _ _ _ _ _ _
  have hN2 : 2 ≤ li.length := by omega
  have hNB : li.length ≤ 17592186044416 := hLB li (List.mem_of_getElem? hli)
  obtain ⟨y1, y2, lo, hi, e1, e2, e3, e4, e5, e6, e7, e8, hlh, hhN, elo, ehi⟩ := mk_cut li.length j nn hN2 hNB (by omega) hnn.2
  have HLO := Lib.hid (And.intro elo ehi)
  clear elo ehi
  have hcc : li.length ≤ ci := by
    obtain ⟨o', c', e, hc, -⟩ := HLI.out
    cases e; exact hc
  obtain ⟨o1, c1', hst, hsl⟩ := cutI_m (some ⟨bl, offl, none⟩) ci li.length (li.map (Value.int .i64)) (by simp) lo hi hlh hhN hcc
  obtain ⟨M, hM⟩ : ∃ M, M = hi - lo := ⟨_, rfl⟩
  rw [← hM] at hst hsl
  have HSL := Lib.hid (And.intro hM (And.intro hlh (And.intro hhN hsl)))
  have hML : ((li.drop lo).take M).length = M := by have := HSL.out.1; have := HSL.out.2.2.1; simp; omega
  have HCL := Lib.hid (show ∀ X, Below wr.heap.size wr X → Row X (.slice o1 M c1') ((li.drop lo).take M).length (((li.drop lo).take M).map (Value.int .i64)) from fun X hX => by
    rw [hML, List.map_take, List.map_drop]
    exact HSL.out.2.2.2 X (HLI.out.below (bel_then HG2.out.bel hX)))
  clear hML
  have hnn0 : ¬ (nn : Int) = 0 := by omega
  have hnn1 : decide ((nn : Int) = 0) = false := by simp; omega
  have hnn2 : ¬ nn = 0 := by omega
  have hnn3 : ((nn : Int) == 0) = false := by simp; omega
  have hnn4 : (nn == 0) = false := by simp; omega
  have hnn5 : decide (nn = 0) = false := by simp; omega
  have hj0' : (0 : Int) ≤ (j : Int) := by omega
  have hlo0 : (0 : Int) ≤ (lo : Int) := by omega
  have hbLw : bL < wr.heap.size := by omega
  clear hM hlh hhN hsl hN2 hNB q0 q1 q2 q3 c0 c1 c2'
--r17
  refine wp_region_noPanic ?_
  refine wp_region_held_drew (S := fun w' => w'.cell? ⟨bL, offL + i, none⟩ = some (.slice (some ⟨bl, offl, none⟩) li.length ci)) (by kernel_rfl) ((Below.cell (w := wr) (p := ⟨bL, offL + i, none⟩) (by repeat (first | exact Below.refl _ _ | exact hB9 | refine Below.drew ?_ | refine bel_new ?_ _ | refine Below.setCell ?_ (by simp <;> omega) _)) hbLw).trans hcL2) (fun hS => ?_)
  refine wpAnyH_take (i := 0) (v := ?_) rfl (by kernel_rfl) (by kernel_rfl) (by kernel_rfl) (fun _ _ _ h => h) (Or.inl ⟨by rfl, ?_⟩) hS ?_
  rotate_left
  · intro w hSw; skip; go_simp; try with_reducible rfl
  try simp only [Act.put, sp]
  refine wpAnyH_take (i := 1) (v := ?_) rfl (by kernel_rfl) (by kernel_rfl) (by kernel_rfl) (fun _ _ _ h => h) (Or.inl ⟨by rfl, ?_⟩) hS ?_
  rotate_left
  · intro w hSw; skip; go_simp; try with_reducible rfl
  try simp only [Act.put, sp]
  refine wpAnyH_take (i := 2) (v := ?_) rfl (by kernel_rfl) (by kernel_rfl) (by kernel_rfl) (fun _ _ _ h => h) (Or.inl ⟨by rfl, ?_⟩) hS ?_
  rotate_left
  · intro w hSw; skip; go_simp; try with_reducible rfl
  try simp only [Act.put, sp]
  refine wpAnyH_take (i := 3) (v := ?_) rfl (by kernel_rfl) (by kernel_rfl) (by kernel_rfl) (fun _ _ _ h => h) (Or.inl ⟨by rfl, ?_⟩) hS ?_
  rotate_left
  · intro w hSw; skip; go_simp; try with_reducible rfl
  try simp only [Act.put, sp]
  refine wpAnyH_take (i := 4) (v := ?_) rfl (by kernel_rfl) (by kernel_rfl) (by kernel_rfl) (fun _ _ _ h => h) (Or.inl ⟨by rfl, ?_⟩) hS ?_
  rotate_left
  · intro w hSw; skip; go_simp; try with_reducible rfl
  try simp only [Act.put, sp]
  refine wpAnyH_take (i := 5) (v := ?_) rfl (by kernel_rfl) (by kernel_rfl) (by kernel_rfl) (fun _ _ _ h => h) (Or.inl ⟨by rfl, ?_⟩) hS ?_
  rotate_left
  · intro w hSw; skip; go_simp; try with_reducible rfl
  try simp only [Act.put, sp]
  refine wpAnyH_take (i := 6) (v := ?_) rfl (by kernel_rfl) (by kernel_rfl) (by kernel_rfl) (fun _ _ _ h => h) (Or.inl ⟨by rfl, ?_⟩) hS ?_
  rotate_left
  · intro w hSw; skip; go_simp; try with_reducible rfl
  try simp only [Act.put, sp]
  refine wpAnyH_take (i := 7) (v := ?_) rfl (by kernel_rfl) (by kernel_rfl) (by kernel_rfl) (fun _ _ _ h => h) (Or.inl ⟨by rfl, ?_⟩) hS ?_
  rotate_left
  · intro w hSw; skip; go_simp; try with_reducible rfl
  try simp only [Act.put, sp]
  refine wpAnyH_take (i := 8) (v := ?_) rfl (by kernel_rfl) (by kernel_rfl) (by kernel_rfl) (fun _ _ _ h => h) (Or.inl ⟨by rfl, ?_⟩) hS ?_
  rotate_left
  · intro w hSw; skip; go_simp; try with_reducible rfl
  try simp only [Act.put, sp]
  refine wpAnyH_take (i := 9) (v := ?_) rfl (by kernel_rfl) (by kernel_rfl) (by kernel_rfl) (fun _ _ _ h => h) (Or.inl ⟨by rfl, ?_⟩) hS ?_
  rotate_left
  · intro w hSw; skip; go_simp; try with_reducible rfl
  try simp only [Act.put, sp]
  refine wpAnyH_take (i := 10) (v := ?_) rfl (by kernel_rfl) (by kernel_rfl) (by kernel_rfl) (fun _ _ _ h => h) (Or.inl ⟨by rfl, ?_⟩) hS ?_
  rotate_left
  · intro w hSw; skip; go_simp; try with_reducible rfl
  try simp only [Act.put, sp]
  refine wpAnyH_take (i := 11) (v := ?_) rfl (by kernel_rfl) (by kernel_rfl) (by kernel_rfl) (fun _ _ _ h => h) (Or.inl ⟨by rfl, ?_⟩) hS ?_
  rotate_left
  · intro w hSw; skip; go_simp; try with_reducible rfl
  try simp only [Act.put, sp]
  refine wpAnyH_take (i := 12) (v := ?_) rfl (by kernel_rfl) (by kernel_rfl) (by kernel_rfl) (fun _ _ _ h => h) (Or.inl ⟨by rfl, ?_⟩) hS ?_
  rotate_left
  · intro w hSw; skip; go_simp; try with_reducible rfl
  try simp only [Act.put, sp]
  refine wpAnyH_take (i := 13) (v := ?_) rfl (by kernel_rfl) (by kernel_rfl) (by kernel_rfl) (fun _ _ _ h => h) (Or.inl ⟨by rfl, ?_⟩) hS ?_
  rotate_left
  · intro w hSw; skip; go_simp; try with_reducible rfl
  try simp only [Act.put, sp]
  refine wpAnyH_take (i := 14) (v := ?_) rfl (by kernel_rfl) (by kernel_rfl) (by kernel_rfl) (fun _ _ _ h => h) (Or.inl ⟨by rfl, ?_⟩) hS ?_
  rotate_left
  · intro w hSw; skip; go_simp; try with_reducible rfl
  try simp only [Act.put, sp]
  refine wpAnyH_take (i := 15) (v := ?_) rfl (by kernel_rfl) (by kernel_rfl) (by kernel_rfl) (fun _ _ _ h => h) (Or.inl ⟨by rfl, ?_⟩) hS ?_
  rotate_left
  · intro w hSw; skip; go_simp; try with_reducible rfl
  try simp only [Act.put, sp]
  refine wpAnyH_take (i := 16) (v := ?_) rfl (by kernel_rfl) (by kernel_rfl) (by kernel_rfl) (fun _ _ _ h => h) (Or.inl ⟨by rfl, ?_⟩) hS ?_
  rotate_left
  · intro w hSw; skip; go_simp; try with_reducible rfl
  try simp only [Act.put, sp]
  refine wpAnyH_take (i := 17) (v := ?_) rfl (by kernel_rfl) (by kernel_rfl) (by kernel_rfl) (fun _ _ _ h => h) (Or.inl ⟨by rfl, ?_⟩) hS ?_
  rotate_left
  · intro w hSw; skip; go_simp; try with_reducible rfl
  try simp only [Act.put, sp]
  refine wpAnyH_take (i := 18) (v := ?_) rfl (by kernel_rfl) (by kernel_rfl) (by kernel_rfl) (fun _ _ _ h => h) (Or.inl ⟨by rfl, ?_⟩) hS ?_
  rotate_left
  · intro w hSw; skip; go_simp; try with_reducible rfl
  try simp only [Act.put, sp]
  refine wpAnyH_take (i := 19) (v := ?_) rfl (by kernel_rfl) (by kernel_rfl) (by kernel_rfl) (fun _ _ _ h => h) (Or.inl ⟨by rfl, ?_⟩) hS ?_
  rotate_left
  · intro w hSw; skip; go_simp; try with_reducible rfl
  try simp only [Act.put, sp]
  refine wpAnyH_take (i := 20) (v := ?_) rfl (by kernel_rfl) (by kernel_rfl) (by kernel_rfl) (fun _ _ _ h => h) (Or.inl ⟨by rfl, ?_⟩) hS ?_
  rotate_left
  · intro w hSw; skip; go_simp; try with_reducible rfl
  try simp only [Act.put, sp]
  refine wpAnyH_take (i := 21) (v := ?_) rfl (by kernel_rfl) (by kernel_rfl) (by kernel_rfl) (fun _ _ _ h => h) (Or.inl ⟨by rfl, ?_⟩) hS ?_
  rotate_left
  · intro w hSw; skip; go_simp; try with_reducible rfl
  try simp only [Act.put, sp]
  refine wpAnyH_take (i := 22) (v := ?_) rfl (by kernel_rfl) (by kernel_rfl) (by kernel_rfl) (fun _ _ _ h => h) (Or.inl ⟨by rfl, ?_⟩) hS ?_
  rotate_left
  · intro w hSw; skip; go_simp; try with_reducible rfl
  try simp only [Act.put, sp]
  refine wpAnyH_take (i := 23) (v := ?_) rfl (by kernel_rfl) (by kernel_rfl) (by kernel_rfl) (fun _ _ _ h => h) (Or.inl ⟨by rfl, ?_⟩) hS ?_
  rotate_left
  · intro w hSw; skip; go_simp; try with_reducible rfl
  try simp only [Act.put, sp]
  refine wpAnyH_take (i := 24) (v := ?_) rfl (by kernel_rfl) (by kernel_rfl) (by kernel_rfl) (fun _ _ _ h => h) (Or.inl ⟨by rfl, ?_⟩) hS ?_
  rotate_left
  · intro w hSw; skip; go_simp; try with_reducible rfl
  try simp only [Act.put, sp]
  refine wpAnyH_take (i := 25) (v := ?_) rfl (by kernel_rfl) (by kernel_rfl) (by kernel_rfl) (fun _ _ _ h => h) (Or.inl ⟨by rfl, ?_⟩) hS ?_
  rotate_left
  · intro w hSw; skip; go_simp; try with_reducible rfl
  try simp only [Act.put, sp]
  refine wpAnyH_take (i := 26) (v := ?_) rfl (by kernel_rfl) (by kernel_rfl) (by kernel_rfl) (fun _ _ _ h => h) (Or.inl ⟨by rfl, ?_⟩) hS ?_
  rotate_left
  · intro w hSw; skip; go_simp; try with_reducible rfl
  try simp only [Act.put, sp]
  refine wpAnyH_take (i := 27) (v := ?_) rfl (by kernel_rfl) (by kernel_rfl) (by kernel_rfl) (fun _ _ _ h => h) (Or.inl ⟨by rfl, ?_⟩) hS ?_
  rotate_left
  · intro w hSw; skip; go_simp; try with_reducible rfl
  try simp only [Act.put, sp]
  refine wpAnyH_take (i := 29) (v := ?_) rfl (by kernel_rfl) (by kernel_rfl) (by kernel_rfl) (fun _ _ _ h => h) (Or.inl ⟨by rfl, ?_⟩) hS ?_
  rotate_left
  · intro w hSw; skip; go_simp; try with_reducible rfl
  try simp only [Act.put, sp]
  refine wpAnyH_take (i := 30) (v := ?_) rfl (by kernel_rfl) (by kernel_rfl) (by kernel_rfl) (fun _ _ _ h => h) (Or.inl ⟨by rfl, ?_⟩) hS ?_
  rotate_left
  · intro w hSw; skip; go_simp; try with_reducible rfl
  try simp only [Act.put, sp]
  refine wpAnyH_ready (rs := [28, 33]) (by kernel_rfl) (by simp) ?_
  refine AllReadyH.cons rfl (fun K hK => ?_) (AllReadyH.cons rfl (fun K hK => ?_) AllReadyH.nil)
  · go_simp
    refine hK.out _ _ ((Below.cell (w := wr) (p := ⟨bL, offL + i, none⟩) (by repeat (first | exact Below.refl _ _ | exact hB9 | refine Below.drew ?_ | refine bel_new ?_ _ | refine Below.setCell ?_ (by simp <;> omega) _)) hbLw).trans hcL2) (fun hS => ?_)
    clear hK K
    try simp only [Act.put, sp]
    refine wpAnyH_ready (rs := [31, 33]) (by kernel_rfl) (by simp) ?_
    refine AllReadyH.cons rfl (fun K hK => ?_) (AllReadyH.cons rfl (fun K hK => ?_) AllReadyH.nil)
    · go_simp
      go_at_call 44
      refine (hP T ((li.drop lo).take M) (.slice o1 M c1') (.slice (some ⟨_, 0, none⟩) 2 2) _ _ [nmA, nmB] C R _ (HCL.out _ (by repeat (first | exact Below.refl _ _ | refine Below.drew ?_ | refine bel_new ?_ _ | refine Below.setCell ?_ (by simp <;> omega) _))) (me_at HG2.out HMN.out (by repeat (first | exact Below.refl _ _ | refine Below.drew ?_ | refine bel_new ?_ _ | refine Below.setCell ?_ (by simp <;> omega) _)) (by with_reducible exact al_one wr _))).mono ?_
      rintro e w3 ⟨p, nv, ev, pv, rfl, hkp, hpg3, hpf3, hb3⟩
      obtain ⟨⟨o5, c5, e5⟩, ⟨o6, c6, e6⟩, ⟨o7, c7, e7⟩⟩ := hkp.here.form
      subst e5 e6 e7
      have hB9 : Below wr.heap.size wr w3 := bel_then (by repeat (first | exact Below.refl _ _ | refine Below.drew ?_ | refine bel_new ?_ _ | refine Below.setCell ?_ (by simp <;> omega) _)) hb3
      have HKP := Lib.hid (And.intro hkp (And.intro (And.intro hpg3 (show p = pcF C R li nn j by unfold pcF; rw [hpf3, HSL.out.1, HLO.out.1, HLO.out.2])) hb3))
      clear hkp hpg3 hpf3 hb3
      refine hK.out _ _ ((Below.cell (w := wr) (p := ⟨bL, offL + i, none⟩) (by repeat (first | exact Below.refl _ _ | exact hB9 | refine Below.drew ?_ | refine bel_new ?_ _ | refine Below.setCell ?_ (by simp <;> omega) _)) hbLw).trans hcL2) (fun hS => ?_)
      clear hK K
      try simp only [Act.put, sp]
      refine wpAnyH_take (i := 32) (v := ?_) rfl (by kernel_rfl) (by kernel_rfl) (by kernel_rfl) (fun _ _ _ h => h) (Or.inl ⟨by rfl, ?_⟩) hS ?_
      rotate_left
      · intro w hSw; skip; go_simp; try with_reducible rfl
      try simp only [Act.put, sp]
      refine wpAnyH_ready (rs := [33]) (by kernel_rfl) (by simp) ?_
      refine AllReadyH.cons rfl (fun K hK => ?_) AllReadyH.nil
      go_simp
      refine hK.out _ _ ((Below.cell (w := wr) (p := ⟨bL, offL + i, none⟩) (by repeat (first | exact Below.refl _ _ | exact hB9 | refine Below.drew ?_ | refine bel_new ?_ _ | refine Below.setCell ?_ (by simp <;> omega) _)) hbLw).trans hcL2) (fun hS => ?_)
      clear hK K
      try simp only [Act.put, sp]
      refine wpAnyH_ready (rs := [34]) (by kernel_rfl) (by simp) ?_
      refine AllReadyH.cons rfl (fun K hK => ?_) AllReadyH.nil
      go_simp
      refine hK.out _ _ ((Below.cell (w := wr) (p := ⟨bL, offL + i, none⟩) (by repeat (first | exact Below.refl _ _ | exact hB9 | refine Below.drew ?_ | refine bel_new ?_ _ | refine Below.setCell ?_ (by simp <;> omega) _)) hbLw).trans hcL2) (fun hS => ?_)
      clear hK K
      try simp only [Act.put, sp]
      refine wpAnyH_done (by kernel_rfl) ?_ _
      refine NoPanic.normal ?_
      go_wp2_with fail
      go_meet
      exact reg17_new HG2.out HI.out (by repeat (first | exact Below.refl _ _ | refine Below.drew ?_ | refine bel_new ?_ _ | refine Below.setCell ?_ (by simp <;> omega) _)) HKP.out.2.2 HKP.out.1 HKP.out.2.1
    · go_simp
      refine hK.out _ _ ((Below.cell (w := wr) (p := ⟨bL, offL + i, none⟩) (by repeat (first | exact Below.refl _ _ | exact hB9 | refine Below.drew ?_ | refine bel_new ?_ _ | refine Below.setCell ?_ (by simp <;> omega) _)) hbLw).trans hcL2) (fun hS => ?_)
      clear hK K
      try simp only [Act.put, sp]
      refine wpAnyH_ready (rs := [31]) (by kernel_rfl) (by simp) ?_
      refine AllReadyH.cons rfl (fun K hK => ?_) AllReadyH.nil
      go_simp
      go_at_call 44
      refine (hP T ((li.drop lo).take M) (.slice o1 M c1') (.slice (some ⟨_, 0, none⟩) 2 2) _ _ [nmA, nmB] C R _ (HCL.out _ (by repeat (first | exact Below.refl _ _ | refine Below.drew ?_ | refine bel_new ?_ _ | refine Below.setCell ?_ (by simp <;> omega) _))) (me_at HG2.out HMN.out (by repeat (first | exact Below.refl _ _ | refine Below.drew ?_ | refine bel_new ?_ _ | refine Below.setCell ?_ (by simp <;> omega) _)) (by with_reducible exact al_fst wr _ _))).mono ?_
      rintro e w3 ⟨p, nv, ev, pv, rfl, hkp, hpg3, hpf3, hb3⟩
      obtain ⟨⟨o5, c5, e5⟩, ⟨o6, c6, e6⟩, ⟨o7, c7, e7⟩⟩ := hkp.here.form
      subst e5 e6 e7
      have hB9 : Below wr.heap.size wr w3 := bel_then (by repeat (first | exact Below.refl _ _ | refine Below.drew ?_ | refine bel_new ?_ _ | refine Below.setCell ?_ (by simp <;> omega) _)) hb3
      have HKP := Lib.hid (And.intro hkp (And.intro (And.intro hpg3 (show p = pcF C R li nn j by unfold pcF; rw [hpf3, HSL.out.1, HLO.out.1, HLO.out.2])) hb3))
      have hs9 : w3.heap[wr.heap.size + 1]? = some (.cells #[.slice none 0 0, .int .i64 0, .slice none 0 0, .slice none 0 0, .slice none 0 0] 66 (0, 0)) := bel_get hb3 (by with_reducible exact al_snd' wr _ _)
      have z0 : w3.cell? ⟨wr.heap.size + 1, 0, none⟩ = some (.slice none 0 0) ∧ w3.cell? ⟨wr.heap.size + 1, 1, none⟩ = some (.int .i64 0) ∧ w3.cell? ⟨wr.heap.size + 1, 2, none⟩ = some (.slice none 0 0) ∧ w3.cell? ⟨wr.heap.size + 1, 3, none⟩ = some (.slice none 0 0) ∧ w3.cell? ⟨wr.heap.size + 1, 4, none⟩ = some (.slice none 0 0) := by simp [World.cell?, hs9]
      have f0 : w3.frozen? ⟨wr.heap.size + 1, 0, none⟩ = false ∧ w3.frozen? ⟨wr.heap.size + 1, 1, none⟩ = false ∧ w3.frozen? ⟨wr.heap.size + 1, 2, none⟩ = false ∧ w3.frozen? ⟨wr.heap.size + 1, 3, none⟩ = false ∧ w3.frozen? ⟨wr.heap.size + 1, 4, none⟩ = false := by simp [World.frozen?, hs9]
      obtain ⟨z0, z1, z2, z3, z4⟩ := z0
      obtain ⟨f0, f1, f2, f3, f4⟩ := f0
      have HS9 := Lib.hid hs9
      clear hs9
      clear hkp hpg3 hpf3 hb3
      refine hK.out _ _ ((Below.cell (w := wr) (p := ⟨bL, offL + i, none⟩) (by repeat (first | exact Below.refl _ _ | exact hB9 | refine Below.drew ?_ | refine bel_new ?_ _ | refine Below.setCell ?_ (by simp <;> omega) _)) hbLw).trans hcL2) (fun hS => ?_)
      clear hK K
      try simp only [Act.put, sp]
      refine wpAnyH_take (i := 32) (v := ?_) rfl (by kernel_rfl) (by kernel_rfl) (by kernel_rfl) (fun _ _ _ h => h) (Or.inl ⟨by rfl, ?_⟩) hS ?_
      rotate_left
      · intro w hSw; skip; go_simp; try with_reducible rfl
      try simp only [Act.put, sp]
      refine wpAnyH_ready (rs := [34]) (by kernel_rfl) (by simp) ?_
      refine AllReadyH.cons rfl (fun K hK => ?_) AllReadyH.nil
      go_simp
      refine hK.out _ _ ((Below.cell (w := wr) (p := ⟨bL, offL + i, none⟩) (by repeat (first | exact Below.refl _ _ | exact hB9 | refine Below.drew ?_ | refine bel_new ?_ _ | refine Below.setCell ?_ (by simp <;> omega) _)) hbLw).trans hcL2) (fun hS => ?_)
      clear hK K
      try simp only [Act.put, sp]
      refine wpAnyH_done (by kernel_rfl) ?_ _
      refine NoPanic.normal ?_
      go_wp2_with fail
      go_meet
      exact reg17_old HG2.out HI.out (by repeat (first | exact Below.refl _ _ | refine Below.drew ?_ | refine bel_new ?_ _ | refine Below.setCell ?_ (by simp <;> omega) _)) HKP.out.2.2 HKP.out.1 HKP.out.2.1 (al_snd' wr _ _) (by omega)
  · go_simp
    refine hK.out _ _ ((Below.cell (w := wr) (p := ⟨bL, offL + i, none⟩) (by repeat (first | exact Below.refl _ _ | exact hB9 | refine Below.drew ?_ | refine bel_new ?_ _ | refine Below.setCell ?_ (by simp <;> omega) _)) hbLw).trans hcL2) (fun hS => ?_)
    clear hK K
    try simp only [Act.put, sp]
    refine wpAnyH_ready (rs := [28]) (by kernel_rfl) (by simp) ?_
    refine AllReadyH.cons rfl (fun K hK => ?_) AllReadyH.nil
    go_simp
    refine hK.out _ _ ((Below.cell (w := wr) (p := ⟨bL, offL + i, none⟩) (by repeat (first | exact Below.refl _ _ | exact hB9 | refine Below.drew ?_ | refine bel_new ?_ _ | refine Below.setCell ?_ (by simp <;> omega) _)) hbLw).trans hcL2) (fun hS => ?_)
    clear hK K
    try simp only [Act.put, sp]
    refine wpAnyH_ready (rs := [31]) (by kernel_rfl) (by simp) ?_
    refine AllReadyH.cons rfl (fun K hK => ?_) AllReadyH.nil
    go_simp
    go_at_call 44
    refine (hP T ((li.drop lo).take M) (.slice o1 M c1') (.slice (some ⟨_, 0, none⟩) 2 2) _ _ [nmA, nmB] C R _ (HCL.out _ (by repeat (first | exact Below.refl _ _ | refine Below.drew ?_ | refine bel_new ?_ _ | refine Below.setCell ?_ (by simp <;> omega) _))) (me_at HG2.out HMN.out (by repeat (first | exact Below.refl _ _ | refine Below.drew ?_ | refine bel_new ?_ _ | refine Below.setCell ?_ (by simp <;> omega) _)) (by with_reducible exact al_snd' wr _ _))).mono ?_
    rintro e w3 ⟨p, nv, ev, pv, rfl, hkp, hpg3, hpf3, hb3⟩
    obtain ⟨⟨o5, c5, e5⟩, ⟨o6, c6, e6⟩, ⟨o7, c7, e7⟩⟩ := hkp.here.form
    subst e5 e6 e7
    have hB9 : Below wr.heap.size wr w3 := bel_then (by repeat (first | exact Below.refl _ _ | refine Below.drew ?_ | refine bel_new ?_ _ | refine Below.setCell ?_ (by simp <;> omega) _)) hb3
    have HKP := Lib.hid (And.intro hkp (And.intro (And.intro hpg3 (show p = pcF C R li nn j by unfold pcF; rw [hpf3, HSL.out.1, HLO.out.1, HLO.out.2])) hb3))
    have hs9 : w3.heap[wr.heap.size]? = some (.cells #[.slice none 0 0, .int .i64 0, .slice none 0 0, .slice none 0 0, .slice none 0 0] 66 (0, 0)) := bel_get hb3 (by with_reducible exact al_fst wr _ _)
    have z0 : w3.cell? ⟨wr.heap.size, 0, none⟩ = some (.slice none 0 0) ∧ w3.cell? ⟨wr.heap.size, 1, none⟩ = some (.int .i64 0) ∧ w3.cell? ⟨wr.heap.size, 2, none⟩ = some (.slice none 0 0) ∧ w3.cell? ⟨wr.heap.size, 3, none⟩ = some (.slice none 0 0) ∧ w3.cell? ⟨wr.heap.size, 4, none⟩ = some (.slice none 0 0) := by simp [World.cell?, hs9]
    have f0 : w3.frozen? ⟨wr.heap.size, 0, none⟩ = false ∧ w3.frozen? ⟨wr.heap.size, 1, none⟩ = false ∧ w3.frozen? ⟨wr.heap.size, 2, none⟩ = false ∧ w3.frozen? ⟨wr.heap.size, 3, none⟩ = false ∧ w3.frozen? ⟨wr.heap.size, 4, none⟩ = false := by simp [World.frozen?, hs9]
    obtain ⟨z0, z1, z2, z3, z4⟩ := z0
    obtain ⟨f0, f1, f2, f3, f4⟩ := f0
    have HS9 := Lib.hid hs9
    clear hs9
    clear hkp hpg3 hpf3 hb3
    refine hK.out _ _ ((Below.cell (w := wr) (p := ⟨bL, offL + i, none⟩) (by repeat (first | exact Below.refl _ _ | exact hB9 | refine Below.drew ?_ | refine bel_new ?_ _ | refine Below.setCell ?_ (by simp <;> omega) _)) hbLw).trans hcL2) (fun hS => ?_)
    clear hK K
    try simp only [Act.put, sp]
    refine wpAnyH_take (i := 32) (v := ?_) rfl (by kernel_rfl) (by kernel_rfl) (by kernel_rfl) (fun _ _ _ h => h) (Or.inl ⟨by rfl, ?_⟩) hS ?_
    rotate_left
    · intro w hSw; skip; go_simp; try with_reducible rfl
    try simp only [Act.put, sp]
    refine wpAnyH_ready (rs := [34]) (by kernel_rfl) (by simp) ?_
    refine AllReadyH.cons rfl (fun K hK => ?_) AllReadyH.nil
    go_simp
    refine hK.out _ _ ((Below.cell (w := wr) (p := ⟨bL, offL + i, none⟩) (by repeat (first | exact Below.refl _ _ | exact hB9 | refine Below.drew ?_ | refine bel_new ?_ _ | refine Below.setCell ?_ (by simp <;> omega) _)) hbLw).trans hcL2) (fun hS => ?_)
    clear hK K
    try simp only [Act.put, sp]
    refine wpAnyH_done (by kernel_rfl) ?_ _
    refine NoPanic.normal ?_
    go_wp2_with fail
    go_meet
    exact reg17_old HG2.out HI.out (by repeat (first | exact Below.refl _ _ | refine Below.drew ?_ | refine bel_new ?_ _ | refine Below.setCell ?_ (by simp <;> omega) _)) HKP.out.2.2 HKP.out.1 HKP.out.2.1 (al_fst wr _ _) (by omega)
--r17e
end Go.Proofs.YtbanmggkfpnalaaGreatDoor
