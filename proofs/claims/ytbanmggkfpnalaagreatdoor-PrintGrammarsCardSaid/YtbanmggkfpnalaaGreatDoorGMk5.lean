/- gobolaw11.Make: its region 5 (six tokens). -/
import Derived.Test.YtbanmggkfpnalaaGreatDoorSp
import Derived.Test.YtbanmggkfpnalaaGreatDoorGMkX
import Derived.Deep.RegionHeld3
import Derived.Deep.CutBlock
set_option linter.unusedVariables false
set_option linter.unusedSimpArgs false
namespace Go.Proofs.YtbanmggkfpnalaaGreatDoor
open Go.RowKit Ru
set_option maxHeartbeats 80000000 in
set_option maxRecDepth 100000 in
theorem mk_arm5 : mkX.1 := by
  intro hP L vs w hLB ii hi hz0 hz1 hz2 ir hr0 hr1 hr2 hr3 is hs0 hs1 hs2 hs3 ol cl HLL _ W HW pc pd c00 c01 c02 c10 c11 c12 hpcl hpdl hpcn hpdn hpcn1 hpdn1 HP wc _ _ _ _ _ _ _ _ _ _ _ _ _ _ _ _ _ _ _ _ _ _ _ _ _ _ _ _ _ _ _ _ _ _ _ _ _ _ _ _ _ _ _ _ _ _ _ _ _ _ _ _ _ _ _ _ _ _ _ _ _ _ _ _ _ _ _ _ _ _ _ _ _ _ _ _ _ _ _ _ _ _ _ _ _ _ _ _ _ _ _ _ _ _ _ _ _ _ _ _ _ _ _ _ _ _ _ _ _ _ _ _ _ _ _ _ _ _ _ _ _ _ _ _ _ _ _ _ _ _ _ _ _ p5 pt pa pb HG _ _ W4 HBW H4 _ _ _ _
  by_cases hl3 : 3 < L.length
  · have hd : decide ((3 : Int) < (L.length : Int)) = true := by simp; omega
    have hd2 : decide (3 < L.length) = true := by simpa using hl3
    have h4 := H4.out.2
    have HROW := Lib.hid h4.m.owns
    have hpg := h4.hg
    have hpgl := hp_lt hpg
    have hN : (Value.slice (some ⟨pt, 0, none⟩) 4 4).ownBlock ≠ some p5 := own_far HROW.out hpg (by decide)
    have hW4s := h4.m.bel.size
    have hbW : Below W.heap.size W W4 := HBW.out
    have d00 : W4.cell? ⟨pc, 0, none⟩ = some (.int .i64 2) := (hbW.cell hpcl).trans c00
    have d01 := (hbW.cell (p := ⟨pc, 1, none⟩) hpcl).trans c01
    have d02 := (hbW.cell (p := ⟨pc, 2, none⟩) hpcl).trans c02
    have d10 := (hbW.cell (p := ⟨pd, 0, none⟩) hpdl).trans c10
    have d11 := (hbW.cell (p := ⟨pd, 1, none⟩) hpdl).trans c11
    have d12 := (hbW.cell (p := ⟨pd, 2, none⟩) hpdl).trans c12
    have g50 : W4.cell? ⟨p5, 0, none⟩ = some (.slice (some ⟨pt, 0, none⟩) 4 4) := by simp [World.cell?, hpg]
    have hpcl4 : pc < W4.heap.size := by have := hbW.size; omega
    have hpdl4 : pd < W4.heap.size := by have := hbW.size; omega
    have n0 : ¬ p5 = W4.heap.size := by omega
    have n1 : ¬ pc = W4.heap.size := by omega
    have n2 : ¬ pd = W4.heap.size := by omega
    have n3 : ¬ p5 = W4.heap.size + 1 := by omega
    have n4 : ¬ pc = W4.heap.size + 1 := by omega
    have n5 : ¬ pd = W4.heap.size + 1 := by omega
    have n6 : ¬ p5 = W4.heap.size + 1 + 1 := by omega
    have n7 : ¬ pc = W4.heap.size + 1 + 1 := by omega
    have n8 : ¬ pd = W4.heap.size + 1 + 1 := by omega
    have n9 : ¬ p5 = W4.heap.size + 1 + 1 + 1 := by omega
    have n10 : ¬ pc = W4.heap.size + 1 + 1 + 1 := by omega
    have n11 : ¬ pd = W4.heap.size + 1 + 1 + 1 := by omega
    have n12 : ¬ p5 = W4.heap.size + 1 + 1 + 1 + 1 := by omega
    have n13 : ¬ pc = W4.heap.size + 1 + 1 + 1 + 1 := by omega
    have n14 : ¬ pd = W4.heap.size + 1 + 1 + 1 + 1 := by omega
    have n15 : p5 < W4.heap.size + 1 := by omega
    have n16 : pc < W4.heap.size + 1 := by omega
    have n17 : pd < W4.heap.size + 1 := by omega
    have n18 : p5 < W4.heap.size + 1 + 1 := by omega
    have n19 : pc < W4.heap.size + 1 + 1 := by omega
    have n20 : pd < W4.heap.size + 1 + 1 := by omega
    have n21 : p5 < W4.heap.size + 1 + 1 + 1 := by omega
    have n22 : pc < W4.heap.size + 1 + 1 + 1 := by omega
    have n23 : pd < W4.heap.size + 1 + 1 + 1 := by omega
    have n24 : p5 < W4.heap.size + 1 + 1 + 1 + 1 := by omega
    have n25 : pc < W4.heap.size + 1 + 1 + 1 + 1 := by omega
    have n26 : pd < W4.heap.size + 1 + 1 + 1 + 1 := by omega
    have n27 : p5 < W4.heap.size + 1 + 1 + 1 + 1 + 1 := by omega
    have n28 : pc < W4.heap.size + 1 + 1 + 1 + 1 + 1 := by omega
    have n29 : pd < W4.heap.size + 1 + 1 + 1 + 1 + 1 := by omega
    have n30 : p5 ≠ pc := by have := HG.out.1; omega
    have n31 : p5 ≠ pd := by have := HG.out.1; omega
    have p0c : W4.cell? ⟨pt, 0, none⟩ = some (.string ⟨#[97]⟩) := by simp [World.cell?, h4.m.ht]
    have n32 : some pc ≠ (Value.slice (some ⟨pt, 0, none⟩) 4 4).ownBlock := fun e => by
      simp [Value.ownBlock] at e; subst e; rw [d00] at p0c; simp at p0c
    have n33 : some pd ≠ (Value.slice (some ⟨pt, 0, none⟩) 4 4).ownBlock := fun e => by
      simp [Value.ownBlock] at e; subst e; rw [d10] at p0c; simp at p0c
    clear p0c
    clear h4 hbW c00 c01 c02 c10 c11 c12
    go_upto_region 5 with (fail)
--r5
    refine wp_region_noPanic ?_
    refine wp_region_held_drew (S := fun w' => w'.cell? ⟨pc, 0, none⟩ = some (.int .i64 2) ∧ w'.cell? ⟨pc, 1, none⟩ = some (.slice (some ⟨w.heap.size + 1 + 1, 0, none⟩) 1 1) ∧ w'.cell? ⟨pc, 2, none⟩ = some (.slice none 0 0) ∧ w'.cell? ⟨pd, 0, none⟩ = some (.int .i64 2) ∧ w'.cell? ⟨pd, 1, none⟩ = some (.slice (some ⟨w.heap.size + 1 + 1 + 1 + 1, 0, none⟩) 1 1) ∧ w'.cell? ⟨pd, 2, none⟩ = some (.slice none 0 0)) (by kernel_rfl) (keep6 (by repeat (first | exact Below.refl _ _ | refine Below.drew ?_ | refine bel_new ?_ _)) d00 d01 d02 d10 d11 d12) (fun hS => ?_)
    refine wpAnyH_take (i := 0) (v := ?_) rfl (by kernel_rfl) (by kernel_rfl) (by kernel_rfl) (fun _ _ _ h => h) (Or.inl ⟨by rfl, ?_⟩) hS ?_
    rotate_left
    · intro w hSw; skip; go_simp; try with_reducible rfl
    try simp only [Act.put, sp]
    refine wpAnyH_take (i := 2) (v := ?_) rfl (by kernel_rfl) (by kernel_rfl) (by kernel_rfl) (fun _ _ _ h => h) (Or.inl ⟨by rfl, ?_⟩) hS ?_
    rotate_left
    · intro w hSw; skip; go_simp; try with_reducible rfl
    try simp only [Act.put, sp]
    refine wpAnyH_take (i := 3) (v := ?_) rfl (by kernel_rfl) (by kernel_rfl) (by kernel_rfl) (fun _ _ _ h => h) (Or.inl ⟨by rfl, ?_⟩) hS ?_
    rotate_left
    · intro w hSw; skip; go_simp; try with_reducible rfl
    try simp only [Act.put, sp]
    refine wpAnyH_take (i := 7) (v := ?_) rfl (by kernel_rfl) (by kernel_rfl) (by kernel_rfl) (fun _ _ _ h => h) (Or.inl ⟨by rfl, ?_⟩) hS ?_
    rotate_left
    · intro w hSw; skip; go_simp; try with_reducible rfl
    try simp only [Act.put, sp]
    refine wpAnyH_ready (rs := [1, 4, 8]) (by kernel_rfl) (by simp) ?_
    refine AllReadyH.cons rfl (fun K hK => ?_) (AllReadyH.cons rfl (fun K hK => ?_) (AllReadyH.cons rfl (fun K hK => ?_) AllReadyH.nil))
    · go_simp
      refine hK.out _ _ (keep6 (by repeat (first | exact Below.refl _ _ | refine Below.drew ?_ | refine bel_new ?_ _)) d00 d01 d02 d10 d11 d12) (fun hS => ?_)
      clear hK K
      try simp only [Act.put, sp]
      refine wpAnyH_ready (rs := [4, 8]) (by kernel_rfl) (by simp) ?_
      refine AllReadyH.cons rfl (fun K hK => ?_) (AllReadyH.cons rfl (fun K hK => ?_) AllReadyH.nil)
      · go_simp
        refine hK.out _ _ (keep6 (by repeat (first | exact Below.refl _ _ | refine Below.drew ?_ | refine bel_new ?_ _)) d00 d01 d02 d10 d11 d12) (fun hS => ?_)
        clear hK K
        try simp only [Act.put, sp]
        refine wpAnyH_take (i := 5) (v := ?_) rfl (by kernel_rfl) (by kernel_rfl) (by kernel_rfl) (fun _ _ _ h => h) (Or.inl ⟨by rfl, ?_⟩) hS ?_
        rotate_left
        · intro w hSw; skip; go_simp; try with_reducible rfl
        try simp only [Act.put, sp]
        refine wpAnyH_take (i := 6) (v := ?_) rfl (by kernel_rfl) (by kernel_rfl) (by kernel_rfl) (fun _ _ _ h => h) (Or.inl ⟨by rfl, ?_⟩) hS ?_
        rotate_left
        · intro w hSw; skip; go_simp; try with_reducible rfl
        try simp only [Act.put, sp]
        refine wpAnyH_ready (rs := [8]) (by kernel_rfl) (by simp) ?_
        refine AllReadyH.cons rfl (fun K hK => ?_) AllReadyH.nil
        go_simp
        go_at_call 19
        refine (one_exact _ _).mono ?_
        rintro e w3 ⟨rfl, rfl⟩
        refine hK.out _ _ (keep6 (by repeat (first | exact Below.refl _ _ | refine Below.drew ?_ | refine bel_new ?_ _)) d00 d01 d02 d10 d11 d12) (fun hS => ?_)
        clear hK K
        try simp only [Act.put, sp]
        refine wpAnyH_ready (rs := [9]) (by kernel_rfl) (by simp) ?_
        refine AllReadyH.cons rfl (fun K hK => ?_) AllReadyH.nil
        go_simp
        refine hK.out _ _ (keep6 (by repeat (first | exact Below.refl _ _ | refine Below.drew ?_ | refine bel_new ?_ _)) d00 d01 d02 d10 d11 d12) (fun hS => ?_)
        clear hK K
        try simp only [Act.put, sp]
        refine wpAnyH_take (i := 10) (v := ?_) rfl (by kernel_rfl) (by kernel_rfl) (by kernel_rfl) (fun _ _ _ h => h) (Or.inl ⟨by rfl, ?_⟩) hS ?_
        rotate_left
        · intro w hSw; skip; go_simp; try with_reducible rfl
        try simp only [Act.put, sp]
        refine wpAnyH_take (i := 11) (v := ?_) rfl (by kernel_rfl) (by kernel_rfl) (by kernel_rfl) (fun _ _ _ h => h) (Or.inl ⟨by rfl, ?_⟩) hS ?_
        rotate_left
        · intro w hSw; skip; go_simp; try with_reducible rfl
        try simp only [Act.put, sp]
        refine wpAnyH_ready (rs := [12]) (by kernel_rfl) (by simp) ?_
        refine AllReadyH.cons rfl (fun K hK => ?_) AllReadyH.nil
        go_simp
        refine hK.out _ _ (keep6 (by repeat (first | exact Below.refl _ _ | refine Below.drew ?_ | refine bel_new ?_ _)) d00 d01 d02 d10 d11 d12) (fun hS => ?_)
        clear hK K
        try simp only [Act.put, sp]
        refine wpAnyH_ready (rs := [13]) (by kernel_rfl) (by simp) ?_
        refine AllReadyH.cons rfl (fun K hK => ?_) AllReadyH.nil
        refine step_tok2 _ _ w.heap.size (xs := (t0cells pa pb (w.heap.size + 1 + 1) (w.heap.size + 1 + 1 + 1 + 1)).toList) rfl rfl rfl rfl (by repeat (first | exact HROW.out | refine World.ownsRow.alloc ?_ _ | refine owns_drew ?_)) rfl (by simp [Value.oneCell']) (by simp) (by simp; omega) ?_
        intro o9 c9 w9 hown9 hg9 hf9 hb9
        have hp9 : w9.heap[p5]? = some (.cells #[.slice (some ⟨pt, 0, none⟩) 4 4, .slice none 0 0] 35 (0, 0)) := by
          rw [hg9.block _ (by simp; omega) (fun e => hN e.symm)]; exact bel_get (by repeat (first | exact Below.refl _ _ | refine Below.drew ?_ | refine bel_new ?_ _)) hpg
        have z0 : w9.cell? ⟨p5, 0, none⟩ = some (.slice (some ⟨pt, 0, none⟩) 4 4) := by simp [World.cell?, hp9]
        have z1 : w9.frozen? ⟨p5, 0, none⟩ = false := by simp [World.frozen?, hp9]
        have hC9 : ∀ q off, (q = pc ∨ q = pd) → w9.cell? ⟨q, off, none⟩ = W4.cell? ⟨q, off, none⟩ := six_far hg9 (by repeat (first | exact Below.refl _ _ | refine Below.drew ?_ | refine bel_new ?_ _)) hpcl4 hpdl4 n32 n33
        refine hK.out _ _ (keep6' hC9 d00 d01 d02 d10 d11 d12) (fun hS => ?_)
        clear hK K
        try simp only [Act.put, sp]
        refine wpAnyH_take (i := 14) (v := ?_) rfl (by kernel_rfl) (by kernel_rfl) (by kernel_rfl) (fun _ _ _ h => h) (Or.inl ⟨by rfl, ?_⟩) hS ?_
        rotate_left
        · intro w hSw; skip; go_simp; try with_reducible rfl
        try simp only [Act.put, sp]
        refine wpAnyH_ready (rs := [15]) (by kernel_rfl) (by simp) ?_
        refine AllReadyH.cons rfl (fun K hK => ?_) AllReadyH.nil
        go_simp
        refine hK.out _ _ (keep6s hC9 n30 n31 d00 d01 d02 d10 d11 d12) (fun hS => ?_)
        clear hK K
        try simp only [Act.put, sp]
        refine wpAnyH_done (by kernel_rfl) ?_ _
        refine NoPanic.normal ?_
        go_wp2_with fail
        go_meet
        exact ms_to (by first | rfl | exact hd2.symm) (ms_six5 H4.out.2 (fun X hch => ⟨by first | exact hch.1 | exact hch.2.1 | exact hch.2.2.1 | exact hch.2.2.2.1, by first | exact hch.1 | exact hch.2.1 | exact hch.2.2.1 | exact hch.2.2.2.1, by first | exact hch.1 | exact hch.2.1 | exact hch.2.2.1 | exact hch.2.2.2.1⟩) hown9 rfl hg9 hf9 rfl)
      · go_simp
        go_at_call 19
        refine (one_exact _ _).mono ?_
        rintro e w3 ⟨rfl, rfl⟩
        refine hK.out _ _ (keep6 (by repeat (first | exact Below.refl _ _ | refine Below.drew ?_ | refine bel_new ?_ _)) d00 d01 d02 d10 d11 d12) (fun hS => ?_)
        clear hK K
        try simp only [Act.put, sp]
        refine wpAnyH_ready (rs := [4, 9]) (by kernel_rfl) (by simp) ?_
        refine AllReadyH.cons rfl (fun K hK => ?_) (AllReadyH.cons rfl (fun K hK => ?_) AllReadyH.nil)
        · go_simp
          refine hK.out _ _ (keep6 (by repeat (first | exact Below.refl _ _ | refine Below.drew ?_ | refine bel_new ?_ _)) d00 d01 d02 d10 d11 d12) (fun hS => ?_)
          clear hK K
          try simp only [Act.put, sp]
          refine wpAnyH_take (i := 5) (v := ?_) rfl (by kernel_rfl) (by kernel_rfl) (by kernel_rfl) (fun _ _ _ h => h) (Or.inl ⟨by rfl, ?_⟩) hS ?_
          rotate_left
          · intro w hSw; skip; go_simp; try with_reducible rfl
          try simp only [Act.put, sp]
          refine wpAnyH_take (i := 6) (v := ?_) rfl (by kernel_rfl) (by kernel_rfl) (by kernel_rfl) (fun _ _ _ h => h) (Or.inl ⟨by rfl, ?_⟩) hS ?_
          rotate_left
          · intro w hSw; skip; go_simp; try with_reducible rfl
          try simp only [Act.put, sp]
          refine wpAnyH_ready (rs := [9]) (by kernel_rfl) (by simp) ?_
          refine AllReadyH.cons rfl (fun K hK => ?_) AllReadyH.nil
          go_simp
          refine hK.out _ _ (keep6 (by repeat (first | exact Below.refl _ _ | refine Below.drew ?_ | refine bel_new ?_ _)) d00 d01 d02 d10 d11 d12) (fun hS => ?_)
          clear hK K
          try simp only [Act.put, sp]
          refine wpAnyH_take (i := 10) (v := ?_) rfl (by kernel_rfl) (by kernel_rfl) (by kernel_rfl) (fun _ _ _ h => h) (Or.inl ⟨by rfl, ?_⟩) hS ?_
          rotate_left
          · intro w hSw; skip; go_simp; try with_reducible rfl
          try simp only [Act.put, sp]
          refine wpAnyH_take (i := 11) (v := ?_) rfl (by kernel_rfl) (by kernel_rfl) (by kernel_rfl) (fun _ _ _ h => h) (Or.inl ⟨by rfl, ?_⟩) hS ?_
          rotate_left
          · intro w hSw; skip; go_simp; try with_reducible rfl
          try simp only [Act.put, sp]
          refine wpAnyH_ready (rs := [12]) (by kernel_rfl) (by simp) ?_
          refine AllReadyH.cons rfl (fun K hK => ?_) AllReadyH.nil
          go_simp
          refine hK.out _ _ (keep6 (by repeat (first | exact Below.refl _ _ | refine Below.drew ?_ | refine bel_new ?_ _)) d00 d01 d02 d10 d11 d12) (fun hS => ?_)
          clear hK K
          try simp only [Act.put, sp]
          refine wpAnyH_ready (rs := [13]) (by kernel_rfl) (by simp) ?_
          refine AllReadyH.cons rfl (fun K hK => ?_) AllReadyH.nil
          refine step_tok2 _ _ w.heap.size (xs := (t0cells pa pb (w.heap.size + 1 + 1) (w.heap.size + 1 + 1 + 1 + 1)).toList) rfl rfl rfl rfl (by repeat (first | exact HROW.out | refine World.ownsRow.alloc ?_ _ | refine owns_drew ?_)) rfl (by simp [Value.oneCell']) (by simp) (by simp; omega) ?_
          intro o9 c9 w9 hown9 hg9 hf9 hb9
          have hp9 : w9.heap[p5]? = some (.cells #[.slice (some ⟨pt, 0, none⟩) 4 4, .slice none 0 0] 35 (0, 0)) := by
            rw [hg9.block _ (by simp; omega) (fun e => hN e.symm)]; exact bel_get (by repeat (first | exact Below.refl _ _ | refine Below.drew ?_ | refine bel_new ?_ _)) hpg
          have z0 : w9.cell? ⟨p5, 0, none⟩ = some (.slice (some ⟨pt, 0, none⟩) 4 4) := by simp [World.cell?, hp9]
          have z1 : w9.frozen? ⟨p5, 0, none⟩ = false := by simp [World.frozen?, hp9]
          have hC9 : ∀ q off, (q = pc ∨ q = pd) → w9.cell? ⟨q, off, none⟩ = W4.cell? ⟨q, off, none⟩ := six_far hg9 (by repeat (first | exact Below.refl _ _ | refine Below.drew ?_ | refine bel_new ?_ _)) hpcl4 hpdl4 n32 n33
          refine hK.out _ _ (keep6' hC9 d00 d01 d02 d10 d11 d12) (fun hS => ?_)
          clear hK K
          try simp only [Act.put, sp]
          refine wpAnyH_take (i := 14) (v := ?_) rfl (by kernel_rfl) (by kernel_rfl) (by kernel_rfl) (fun _ _ _ h => h) (Or.inl ⟨by rfl, ?_⟩) hS ?_
          rotate_left
          · intro w hSw; skip; go_simp; try with_reducible rfl
          try simp only [Act.put, sp]
          refine wpAnyH_ready (rs := [15]) (by kernel_rfl) (by simp) ?_
          refine AllReadyH.cons rfl (fun K hK => ?_) AllReadyH.nil
          go_simp
          refine hK.out _ _ (keep6s hC9 n30 n31 d00 d01 d02 d10 d11 d12) (fun hS => ?_)
          clear hK K
          try simp only [Act.put, sp]
          refine wpAnyH_done (by kernel_rfl) ?_ _
          refine NoPanic.normal ?_
          go_wp2_with fail
          go_meet
          exact ms_to (by first | rfl | exact hd2.symm) (ms_six5 H4.out.2 (fun X hch => ⟨by first | exact hch.1 | exact hch.2.1 | exact hch.2.2.1 | exact hch.2.2.2.1, by first | exact hch.1 | exact hch.2.1 | exact hch.2.2.1 | exact hch.2.2.2.1, by first | exact hch.1 | exact hch.2.1 | exact hch.2.2.1 | exact hch.2.2.2.1⟩) hown9 rfl hg9 hf9 rfl)
        · go_simp
          refine hK.out _ _ (keep6 (by repeat (first | exact Below.refl _ _ | refine Below.drew ?_ | refine bel_new ?_ _)) d00 d01 d02 d10 d11 d12) (fun hS => ?_)
          clear hK K
          try simp only [Act.put, sp]
          refine wpAnyH_take (i := 10) (v := ?_) rfl (by kernel_rfl) (by kernel_rfl) (by kernel_rfl) (fun _ _ _ h => h) (Or.inl ⟨by rfl, ?_⟩) hS ?_
          rotate_left
          · intro w hSw; skip; go_simp; try with_reducible rfl
          try simp only [Act.put, sp]
          refine wpAnyH_take (i := 11) (v := ?_) rfl (by kernel_rfl) (by kernel_rfl) (by kernel_rfl) (fun _ _ _ h => h) (Or.inl ⟨by rfl, ?_⟩) hS ?_
          rotate_left
          · intro w hSw; skip; go_simp; try with_reducible rfl
          try simp only [Act.put, sp]
          refine wpAnyH_ready (rs := [4]) (by kernel_rfl) (by simp) ?_
          refine AllReadyH.cons rfl (fun K hK => ?_) AllReadyH.nil
          go_simp
          refine hK.out _ _ (keep6 (by repeat (first | exact Below.refl _ _ | refine Below.drew ?_ | refine bel_new ?_ _)) d00 d01 d02 d10 d11 d12) (fun hS => ?_)
          clear hK K
          try simp only [Act.put, sp]
          refine wpAnyH_take (i := 5) (v := ?_) rfl (by kernel_rfl) (by kernel_rfl) (by kernel_rfl) (fun _ _ _ h => h) (Or.inl ⟨by rfl, ?_⟩) hS ?_
          rotate_left
          · intro w hSw; skip; go_simp; try with_reducible rfl
          try simp only [Act.put, sp]
          refine wpAnyH_take (i := 6) (v := ?_) rfl (by kernel_rfl) (by kernel_rfl) (by kernel_rfl) (fun _ _ _ h => h) (Or.inl ⟨by rfl, ?_⟩) hS ?_
          rotate_left
          · intro w hSw; skip; go_simp; try with_reducible rfl
          try simp only [Act.put, sp]
          refine wpAnyH_ready (rs := [12]) (by kernel_rfl) (by simp) ?_
          refine AllReadyH.cons rfl (fun K hK => ?_) AllReadyH.nil
          go_simp
          refine hK.out _ _ (keep6 (by repeat (first | exact Below.refl _ _ | refine Below.drew ?_ | refine bel_new ?_ _)) d00 d01 d02 d10 d11 d12) (fun hS => ?_)
          clear hK K
          try simp only [Act.put, sp]
          refine wpAnyH_ready (rs := [13]) (by kernel_rfl) (by simp) ?_
          refine AllReadyH.cons rfl (fun K hK => ?_) AllReadyH.nil
          refine step_tok2 _ _ w.heap.size (xs := (t0cells pa pb (w.heap.size + 1 + 1) (w.heap.size + 1 + 1 + 1 + 1)).toList) rfl rfl rfl rfl (by repeat (first | exact HROW.out | refine World.ownsRow.alloc ?_ _ | refine owns_drew ?_)) rfl (by simp [Value.oneCell']) (by simp) (by simp; omega) ?_
          intro o9 c9 w9 hown9 hg9 hf9 hb9
          have hp9 : w9.heap[p5]? = some (.cells #[.slice (some ⟨pt, 0, none⟩) 4 4, .slice none 0 0] 35 (0, 0)) := by
            rw [hg9.block _ (by simp; omega) (fun e => hN e.symm)]; exact bel_get (by repeat (first | exact Below.refl _ _ | refine Below.drew ?_ | refine bel_new ?_ _)) hpg
          have z0 : w9.cell? ⟨p5, 0, none⟩ = some (.slice (some ⟨pt, 0, none⟩) 4 4) := by simp [World.cell?, hp9]
          have z1 : w9.frozen? ⟨p5, 0, none⟩ = false := by simp [World.frozen?, hp9]
          have hC9 : ∀ q off, (q = pc ∨ q = pd) → w9.cell? ⟨q, off, none⟩ = W4.cell? ⟨q, off, none⟩ := six_far hg9 (by repeat (first | exact Below.refl _ _ | refine Below.drew ?_ | refine bel_new ?_ _)) hpcl4 hpdl4 n32 n33
          refine hK.out _ _ (keep6' hC9 d00 d01 d02 d10 d11 d12) (fun hS => ?_)
          clear hK K
          try simp only [Act.put, sp]
          refine wpAnyH_take (i := 14) (v := ?_) rfl (by kernel_rfl) (by kernel_rfl) (by kernel_rfl) (fun _ _ _ h => h) (Or.inl ⟨by rfl, ?_⟩) hS ?_
          rotate_left
          · intro w hSw; skip; go_simp; try with_reducible rfl
          try simp only [Act.put, sp]
          refine wpAnyH_ready (rs := [15]) (by kernel_rfl) (by simp) ?_
          refine AllReadyH.cons rfl (fun K hK => ?_) AllReadyH.nil
          go_simp
          refine hK.out _ _ (keep6s hC9 n30 n31 d00 d01 d02 d10 d11 d12) (fun hS => ?_)
          clear hK K
          try simp only [Act.put, sp]
          refine wpAnyH_done (by kernel_rfl) ?_ _
          refine NoPanic.normal ?_
          go_wp2_with fail
          go_meet
          exact ms_to (by first | rfl | exact hd2.symm) (ms_six5 H4.out.2 (fun X hch => ⟨by first | exact hch.1 | exact hch.2.1 | exact hch.2.2.1 | exact hch.2.2.2.1, by first | exact hch.1 | exact hch.2.1 | exact hch.2.2.1 | exact hch.2.2.2.1, by first | exact hch.1 | exact hch.2.1 | exact hch.2.2.1 | exact hch.2.2.2.1⟩) hown9 rfl hg9 hf9 rfl)
    · go_simp
      refine hK.out _ _ (keep6 (by repeat (first | exact Below.refl _ _ | refine Below.drew ?_ | refine bel_new ?_ _)) d00 d01 d02 d10 d11 d12) (fun hS => ?_)
      clear hK K
      try simp only [Act.put, sp]
      refine wpAnyH_take (i := 5) (v := ?_) rfl (by kernel_rfl) (by kernel_rfl) (by kernel_rfl) (fun _ _ _ h => h) (Or.inl ⟨by rfl, ?_⟩) hS ?_
      rotate_left
      · intro w hSw; skip; go_simp; try with_reducible rfl
      try simp only [Act.put, sp]
      refine wpAnyH_take (i := 6) (v := ?_) rfl (by kernel_rfl) (by kernel_rfl) (by kernel_rfl) (fun _ _ _ h => h) (Or.inl ⟨by rfl, ?_⟩) hS ?_
      rotate_left
      · intro w hSw; skip; go_simp; try with_reducible rfl
      try simp only [Act.put, sp]
      refine wpAnyH_ready (rs := [1, 8]) (by kernel_rfl) (by simp) ?_
      refine AllReadyH.cons rfl (fun K hK => ?_) (AllReadyH.cons rfl (fun K hK => ?_) AllReadyH.nil)
      · go_simp
        refine hK.out _ _ (keep6 (by repeat (first | exact Below.refl _ _ | refine Below.drew ?_ | refine bel_new ?_ _)) d00 d01 d02 d10 d11 d12) (fun hS => ?_)
        clear hK K
        try simp only [Act.put, sp]
        refine wpAnyH_ready (rs := [8]) (by kernel_rfl) (by simp) ?_
        refine AllReadyH.cons rfl (fun K hK => ?_) AllReadyH.nil
        go_simp
        go_at_call 19
        refine (one_exact _ _).mono ?_
        rintro e w3 ⟨rfl, rfl⟩
        refine hK.out _ _ (keep6 (by repeat (first | exact Below.refl _ _ | refine Below.drew ?_ | refine bel_new ?_ _)) d00 d01 d02 d10 d11 d12) (fun hS => ?_)
        clear hK K
        try simp only [Act.put, sp]
        refine wpAnyH_ready (rs := [9]) (by kernel_rfl) (by simp) ?_
        refine AllReadyH.cons rfl (fun K hK => ?_) AllReadyH.nil
        go_simp
        refine hK.out _ _ (keep6 (by repeat (first | exact Below.refl _ _ | refine Below.drew ?_ | refine bel_new ?_ _)) d00 d01 d02 d10 d11 d12) (fun hS => ?_)
        clear hK K
        try simp only [Act.put, sp]
        refine wpAnyH_take (i := 10) (v := ?_) rfl (by kernel_rfl) (by kernel_rfl) (by kernel_rfl) (fun _ _ _ h => h) (Or.inl ⟨by rfl, ?_⟩) hS ?_
        rotate_left
        · intro w hSw; skip; go_simp; try with_reducible rfl
        try simp only [Act.put, sp]
        refine wpAnyH_take (i := 11) (v := ?_) rfl (by kernel_rfl) (by kernel_rfl) (by kernel_rfl) (fun _ _ _ h => h) (Or.inl ⟨by rfl, ?_⟩) hS ?_
        rotate_left
        · intro w hSw; skip; go_simp; try with_reducible rfl
        try simp only [Act.put, sp]
        refine wpAnyH_ready (rs := [12]) (by kernel_rfl) (by simp) ?_
        refine AllReadyH.cons rfl (fun K hK => ?_) AllReadyH.nil
        go_simp
        refine hK.out _ _ (keep6 (by repeat (first | exact Below.refl _ _ | refine Below.drew ?_ | refine bel_new ?_ _)) d00 d01 d02 d10 d11 d12) (fun hS => ?_)
        clear hK K
        try simp only [Act.put, sp]
        refine wpAnyH_ready (rs := [13]) (by kernel_rfl) (by simp) ?_
        refine AllReadyH.cons rfl (fun K hK => ?_) AllReadyH.nil
        refine step_tok2 _ _ w.heap.size (xs := (t0cells pa pb (w.heap.size + 1 + 1) (w.heap.size + 1 + 1 + 1 + 1)).toList) rfl rfl rfl rfl (by repeat (first | exact HROW.out | refine World.ownsRow.alloc ?_ _ | refine owns_drew ?_)) rfl (by simp [Value.oneCell']) (by simp) (by simp; omega) ?_
        intro o9 c9 w9 hown9 hg9 hf9 hb9
        have hp9 : w9.heap[p5]? = some (.cells #[.slice (some ⟨pt, 0, none⟩) 4 4, .slice none 0 0] 35 (0, 0)) := by
          rw [hg9.block _ (by simp; omega) (fun e => hN e.symm)]; exact bel_get (by repeat (first | exact Below.refl _ _ | refine Below.drew ?_ | refine bel_new ?_ _)) hpg
        have z0 : w9.cell? ⟨p5, 0, none⟩ = some (.slice (some ⟨pt, 0, none⟩) 4 4) := by simp [World.cell?, hp9]
        have z1 : w9.frozen? ⟨p5, 0, none⟩ = false := by simp [World.frozen?, hp9]
        have hC9 : ∀ q off, (q = pc ∨ q = pd) → w9.cell? ⟨q, off, none⟩ = W4.cell? ⟨q, off, none⟩ := six_far hg9 (by repeat (first | exact Below.refl _ _ | refine Below.drew ?_ | refine bel_new ?_ _)) hpcl4 hpdl4 n32 n33
        refine hK.out _ _ (keep6' hC9 d00 d01 d02 d10 d11 d12) (fun hS => ?_)
        clear hK K
        try simp only [Act.put, sp]
        refine wpAnyH_take (i := 14) (v := ?_) rfl (by kernel_rfl) (by kernel_rfl) (by kernel_rfl) (fun _ _ _ h => h) (Or.inl ⟨by rfl, ?_⟩) hS ?_
        rotate_left
        · intro w hSw; skip; go_simp; try with_reducible rfl
        try simp only [Act.put, sp]
        refine wpAnyH_ready (rs := [15]) (by kernel_rfl) (by simp) ?_
        refine AllReadyH.cons rfl (fun K hK => ?_) AllReadyH.nil
        go_simp
        refine hK.out _ _ (keep6s hC9 n30 n31 d00 d01 d02 d10 d11 d12) (fun hS => ?_)
        clear hK K
        try simp only [Act.put, sp]
        refine wpAnyH_done (by kernel_rfl) ?_ _
        refine NoPanic.normal ?_
        go_wp2_with fail
        go_meet
        exact ms_to (by first | rfl | exact hd2.symm) (ms_six5 H4.out.2 (fun X hch => ⟨by first | exact hch.1 | exact hch.2.1 | exact hch.2.2.1 | exact hch.2.2.2.1, by first | exact hch.1 | exact hch.2.1 | exact hch.2.2.1 | exact hch.2.2.2.1, by first | exact hch.1 | exact hch.2.1 | exact hch.2.2.1 | exact hch.2.2.2.1⟩) hown9 rfl hg9 hf9 rfl)
      · go_simp
        go_at_call 19
        refine (one_exact _ _).mono ?_
        rintro e w3 ⟨rfl, rfl⟩
        refine hK.out _ _ (keep6 (by repeat (first | exact Below.refl _ _ | refine Below.drew ?_ | refine bel_new ?_ _)) d00 d01 d02 d10 d11 d12) (fun hS => ?_)
        clear hK K
        try simp only [Act.put, sp]
        refine wpAnyH_ready (rs := [1, 9]) (by kernel_rfl) (by simp) ?_
        refine AllReadyH.cons rfl (fun K hK => ?_) (AllReadyH.cons rfl (fun K hK => ?_) AllReadyH.nil)
        · go_simp
          refine hK.out _ _ (keep6 (by repeat (first | exact Below.refl _ _ | refine Below.drew ?_ | refine bel_new ?_ _)) d00 d01 d02 d10 d11 d12) (fun hS => ?_)
          clear hK K
          try simp only [Act.put, sp]
          refine wpAnyH_ready (rs := [9]) (by kernel_rfl) (by simp) ?_
          refine AllReadyH.cons rfl (fun K hK => ?_) AllReadyH.nil
          go_simp
          refine hK.out _ _ (keep6 (by repeat (first | exact Below.refl _ _ | refine Below.drew ?_ | refine bel_new ?_ _)) d00 d01 d02 d10 d11 d12) (fun hS => ?_)
          clear hK K
          try simp only [Act.put, sp]
          refine wpAnyH_take (i := 10) (v := ?_) rfl (by kernel_rfl) (by kernel_rfl) (by kernel_rfl) (fun _ _ _ h => h) (Or.inl ⟨by rfl, ?_⟩) hS ?_
          rotate_left
          · intro w hSw; skip; go_simp; try with_reducible rfl
          try simp only [Act.put, sp]
          refine wpAnyH_take (i := 11) (v := ?_) rfl (by kernel_rfl) (by kernel_rfl) (by kernel_rfl) (fun _ _ _ h => h) (Or.inl ⟨by rfl, ?_⟩) hS ?_
          rotate_left
          · intro w hSw; skip; go_simp; try with_reducible rfl
          try simp only [Act.put, sp]
          refine wpAnyH_ready (rs := [12]) (by kernel_rfl) (by simp) ?_
          refine AllReadyH.cons rfl (fun K hK => ?_) AllReadyH.nil
          go_simp
          refine hK.out _ _ (keep6 (by repeat (first | exact Below.refl _ _ | refine Below.drew ?_ | refine bel_new ?_ _)) d00 d01 d02 d10 d11 d12) (fun hS => ?_)
          clear hK K
          try simp only [Act.put, sp]
          refine wpAnyH_ready (rs := [13]) (by kernel_rfl) (by simp) ?_
          refine AllReadyH.cons rfl (fun K hK => ?_) AllReadyH.nil
          refine step_tok2 _ _ w.heap.size (xs := (t0cells pa pb (w.heap.size + 1 + 1) (w.heap.size + 1 + 1 + 1 + 1)).toList) rfl rfl rfl rfl (by repeat (first | exact HROW.out | refine World.ownsRow.alloc ?_ _ | refine owns_drew ?_)) rfl (by simp [Value.oneCell']) (by simp) (by simp; omega) ?_
          intro o9 c9 w9 hown9 hg9 hf9 hb9
          have hp9 : w9.heap[p5]? = some (.cells #[.slice (some ⟨pt, 0, none⟩) 4 4, .slice none 0 0] 35 (0, 0)) := by
            rw [hg9.block _ (by simp; omega) (fun e => hN e.symm)]; exact bel_get (by repeat (first | exact Below.refl _ _ | refine Below.drew ?_ | refine bel_new ?_ _)) hpg
          have z0 : w9.cell? ⟨p5, 0, none⟩ = some (.slice (some ⟨pt, 0, none⟩) 4 4) := by simp [World.cell?, hp9]
          have z1 : w9.frozen? ⟨p5, 0, none⟩ = false := by simp [World.frozen?, hp9]
          have hC9 : ∀ q off, (q = pc ∨ q = pd) → w9.cell? ⟨q, off, none⟩ = W4.cell? ⟨q, off, none⟩ := six_far hg9 (by repeat (first | exact Below.refl _ _ | refine Below.drew ?_ | refine bel_new ?_ _)) hpcl4 hpdl4 n32 n33
          refine hK.out _ _ (keep6' hC9 d00 d01 d02 d10 d11 d12) (fun hS => ?_)
          clear hK K
          try simp only [Act.put, sp]
          refine wpAnyH_take (i := 14) (v := ?_) rfl (by kernel_rfl) (by kernel_rfl) (by kernel_rfl) (fun _ _ _ h => h) (Or.inl ⟨by rfl, ?_⟩) hS ?_
          rotate_left
          · intro w hSw; skip; go_simp; try with_reducible rfl
          try simp only [Act.put, sp]
          refine wpAnyH_ready (rs := [15]) (by kernel_rfl) (by simp) ?_
          refine AllReadyH.cons rfl (fun K hK => ?_) AllReadyH.nil
          go_simp
          refine hK.out _ _ (keep6s hC9 n30 n31 d00 d01 d02 d10 d11 d12) (fun hS => ?_)
          clear hK K
          try simp only [Act.put, sp]
          refine wpAnyH_done (by kernel_rfl) ?_ _
          refine NoPanic.normal ?_
          go_wp2_with fail
          go_meet
          exact ms_to (by first | rfl | exact hd2.symm) (ms_six5 H4.out.2 (fun X hch => ⟨by first | exact hch.1 | exact hch.2.1 | exact hch.2.2.1 | exact hch.2.2.2.1, by first | exact hch.1 | exact hch.2.1 | exact hch.2.2.1 | exact hch.2.2.2.1, by first | exact hch.1 | exact hch.2.1 | exact hch.2.2.1 | exact hch.2.2.2.1⟩) hown9 rfl hg9 hf9 rfl)
        · go_simp
          refine hK.out _ _ (keep6 (by repeat (first | exact Below.refl _ _ | refine Below.drew ?_ | refine bel_new ?_ _)) d00 d01 d02 d10 d11 d12) (fun hS => ?_)
          clear hK K
          try simp only [Act.put, sp]
          refine wpAnyH_take (i := 10) (v := ?_) rfl (by kernel_rfl) (by kernel_rfl) (by kernel_rfl) (fun _ _ _ h => h) (Or.inl ⟨by rfl, ?_⟩) hS ?_
          rotate_left
          · intro w hSw; skip; go_simp; try with_reducible rfl
          try simp only [Act.put, sp]
          refine wpAnyH_take (i := 11) (v := ?_) rfl (by kernel_rfl) (by kernel_rfl) (by kernel_rfl) (fun _ _ _ h => h) (Or.inl ⟨by rfl, ?_⟩) hS ?_
          rotate_left
          · intro w hSw; skip; go_simp; try with_reducible rfl
          try simp only [Act.put, sp]
          refine wpAnyH_ready (rs := [1, 12]) (by kernel_rfl) (by simp) ?_
          refine AllReadyH.cons rfl (fun K hK => ?_) (AllReadyH.cons rfl (fun K hK => ?_) AllReadyH.nil)
          · go_simp
            refine hK.out _ _ (keep6 (by repeat (first | exact Below.refl _ _ | refine Below.drew ?_ | refine bel_new ?_ _)) d00 d01 d02 d10 d11 d12) (fun hS => ?_)
            clear hK K
            try simp only [Act.put, sp]
            refine wpAnyH_ready (rs := [12]) (by kernel_rfl) (by simp) ?_
            refine AllReadyH.cons rfl (fun K hK => ?_) AllReadyH.nil
            go_simp
            refine hK.out _ _ (keep6 (by repeat (first | exact Below.refl _ _ | refine Below.drew ?_ | refine bel_new ?_ _)) d00 d01 d02 d10 d11 d12) (fun hS => ?_)
            clear hK K
            try simp only [Act.put, sp]
            refine wpAnyH_ready (rs := [13]) (by kernel_rfl) (by simp) ?_
            refine AllReadyH.cons rfl (fun K hK => ?_) AllReadyH.nil
            refine step_tok2 _ _ w.heap.size (xs := (t0cells pa pb (w.heap.size + 1 + 1) (w.heap.size + 1 + 1 + 1 + 1)).toList) rfl rfl rfl rfl (by repeat (first | exact HROW.out | refine World.ownsRow.alloc ?_ _ | refine owns_drew ?_)) rfl (by simp [Value.oneCell']) (by simp) (by simp; omega) ?_
            intro o9 c9 w9 hown9 hg9 hf9 hb9
            have hp9 : w9.heap[p5]? = some (.cells #[.slice (some ⟨pt, 0, none⟩) 4 4, .slice none 0 0] 35 (0, 0)) := by
              rw [hg9.block _ (by simp; omega) (fun e => hN e.symm)]; exact bel_get (by repeat (first | exact Below.refl _ _ | refine Below.drew ?_ | refine bel_new ?_ _)) hpg
            have z0 : w9.cell? ⟨p5, 0, none⟩ = some (.slice (some ⟨pt, 0, none⟩) 4 4) := by simp [World.cell?, hp9]
            have z1 : w9.frozen? ⟨p5, 0, none⟩ = false := by simp [World.frozen?, hp9]
            have hC9 : ∀ q off, (q = pc ∨ q = pd) → w9.cell? ⟨q, off, none⟩ = W4.cell? ⟨q, off, none⟩ := six_far hg9 (by repeat (first | exact Below.refl _ _ | refine Below.drew ?_ | refine bel_new ?_ _)) hpcl4 hpdl4 n32 n33
            refine hK.out _ _ (keep6' hC9 d00 d01 d02 d10 d11 d12) (fun hS => ?_)
            clear hK K
            try simp only [Act.put, sp]
            refine wpAnyH_take (i := 14) (v := ?_) rfl (by kernel_rfl) (by kernel_rfl) (by kernel_rfl) (fun _ _ _ h => h) (Or.inl ⟨by rfl, ?_⟩) hS ?_
            rotate_left
            · intro w hSw; skip; go_simp; try with_reducible rfl
            try simp only [Act.put, sp]
            refine wpAnyH_ready (rs := [15]) (by kernel_rfl) (by simp) ?_
            refine AllReadyH.cons rfl (fun K hK => ?_) AllReadyH.nil
            go_simp
            refine hK.out _ _ (keep6s hC9 n30 n31 d00 d01 d02 d10 d11 d12) (fun hS => ?_)
            clear hK K
            try simp only [Act.put, sp]
            refine wpAnyH_done (by kernel_rfl) ?_ _
            refine NoPanic.normal ?_
            go_wp2_with fail
            go_meet
            exact ms_to (by first | rfl | exact hd2.symm) (ms_six5 H4.out.2 (fun X hch => ⟨by first | exact hch.1 | exact hch.2.1 | exact hch.2.2.1 | exact hch.2.2.2.1, by first | exact hch.1 | exact hch.2.1 | exact hch.2.2.1 | exact hch.2.2.2.1, by first | exact hch.1 | exact hch.2.1 | exact hch.2.2.1 | exact hch.2.2.2.1⟩) hown9 rfl hg9 hf9 rfl)
          · go_simp
            refine hK.out _ _ (keep6 (by repeat (first | exact Below.refl _ _ | refine Below.drew ?_ | refine bel_new ?_ _)) d00 d01 d02 d10 d11 d12) (fun hS => ?_)
            clear hK K
            try simp only [Act.put, sp]
            refine wpAnyH_ready (rs := [1]) (by kernel_rfl) (by simp) ?_
            refine AllReadyH.cons rfl (fun K hK => ?_) AllReadyH.nil
            go_simp
            refine hK.out _ _ (keep6 (by repeat (first | exact Below.refl _ _ | refine Below.drew ?_ | refine bel_new ?_ _)) d00 d01 d02 d10 d11 d12) (fun hS => ?_)
            clear hK K
            try simp only [Act.put, sp]
            refine wpAnyH_ready (rs := [13]) (by kernel_rfl) (by simp) ?_
            refine AllReadyH.cons rfl (fun K hK => ?_) AllReadyH.nil
            refine step_tok2 _ _ w.heap.size (xs := (t0cells pa pb (w.heap.size + 1 + 1) (w.heap.size + 1 + 1 + 1 + 1)).toList) rfl rfl rfl rfl (by repeat (first | exact HROW.out | refine World.ownsRow.alloc ?_ _ | refine owns_drew ?_)) rfl (by simp [Value.oneCell']) (by simp) (by simp; omega) ?_
            intro o9 c9 w9 hown9 hg9 hf9 hb9
            have hp9 : w9.heap[p5]? = some (.cells #[.slice (some ⟨pt, 0, none⟩) 4 4, .slice none 0 0] 35 (0, 0)) := by
              rw [hg9.block _ (by simp; omega) (fun e => hN e.symm)]; exact bel_get (by repeat (first | exact Below.refl _ _ | refine Below.drew ?_ | refine bel_new ?_ _)) hpg
            have z0 : w9.cell? ⟨p5, 0, none⟩ = some (.slice (some ⟨pt, 0, none⟩) 4 4) := by simp [World.cell?, hp9]
            have z1 : w9.frozen? ⟨p5, 0, none⟩ = false := by simp [World.frozen?, hp9]
            have hC9 : ∀ q off, (q = pc ∨ q = pd) → w9.cell? ⟨q, off, none⟩ = W4.cell? ⟨q, off, none⟩ := six_far hg9 (by repeat (first | exact Below.refl _ _ | refine Below.drew ?_ | refine bel_new ?_ _)) hpcl4 hpdl4 n32 n33
            refine hK.out _ _ (keep6' hC9 d00 d01 d02 d10 d11 d12) (fun hS => ?_)
            clear hK K
            try simp only [Act.put, sp]
            refine wpAnyH_take (i := 14) (v := ?_) rfl (by kernel_rfl) (by kernel_rfl) (by kernel_rfl) (fun _ _ _ h => h) (Or.inl ⟨by rfl, ?_⟩) hS ?_
            rotate_left
            · intro w hSw; skip; go_simp; try with_reducible rfl
            try simp only [Act.put, sp]
            refine wpAnyH_ready (rs := [15]) (by kernel_rfl) (by simp) ?_
            refine AllReadyH.cons rfl (fun K hK => ?_) AllReadyH.nil
            go_simp
            refine hK.out _ _ (keep6s hC9 n30 n31 d00 d01 d02 d10 d11 d12) (fun hS => ?_)
            clear hK K
            try simp only [Act.put, sp]
            refine wpAnyH_done (by kernel_rfl) ?_ _
            refine NoPanic.normal ?_
            go_wp2_with fail
            go_meet
            exact ms_to (by first | rfl | exact hd2.symm) (ms_six5 H4.out.2 (fun X hch => ⟨by first | exact hch.1 | exact hch.2.1 | exact hch.2.2.1 | exact hch.2.2.2.1, by first | exact hch.1 | exact hch.2.1 | exact hch.2.2.1 | exact hch.2.2.2.1, by first | exact hch.1 | exact hch.2.1 | exact hch.2.2.1 | exact hch.2.2.2.1⟩) hown9 rfl hg9 hf9 rfl)
    · go_simp
      go_at_call 19
      refine (one_exact _ _).mono ?_
      rintro e w3 ⟨rfl, rfl⟩
      refine hK.out _ _ (keep6 (by repeat (first | exact Below.refl _ _ | refine Below.drew ?_ | refine bel_new ?_ _)) d00 d01 d02 d10 d11 d12) (fun hS => ?_)
      clear hK K
      try simp only [Act.put, sp]
      refine wpAnyH_ready (rs := [1, 4, 9]) (by kernel_rfl) (by simp) ?_
      refine AllReadyH.cons rfl (fun K hK => ?_) (AllReadyH.cons rfl (fun K hK => ?_) (AllReadyH.cons rfl (fun K hK => ?_) AllReadyH.nil))
      · go_simp
        refine hK.out _ _ (keep6 (by repeat (first | exact Below.refl _ _ | refine Below.drew ?_ | refine bel_new ?_ _)) d00 d01 d02 d10 d11 d12) (fun hS => ?_)
        clear hK K
        try simp only [Act.put, sp]
        refine wpAnyH_ready (rs := [4, 9]) (by kernel_rfl) (by simp) ?_
        refine AllReadyH.cons rfl (fun K hK => ?_) (AllReadyH.cons rfl (fun K hK => ?_) AllReadyH.nil)
        · go_simp
          refine hK.out _ _ (keep6 (by repeat (first | exact Below.refl _ _ | refine Below.drew ?_ | refine bel_new ?_ _)) d00 d01 d02 d10 d11 d12) (fun hS => ?_)
          clear hK K
          try simp only [Act.put, sp]
          refine wpAnyH_take (i := 5) (v := ?_) rfl (by kernel_rfl) (by kernel_rfl) (by kernel_rfl) (fun _ _ _ h => h) (Or.inl ⟨by rfl, ?_⟩) hS ?_
          rotate_left
          · intro w hSw; skip; go_simp; try with_reducible rfl
          try simp only [Act.put, sp]
          refine wpAnyH_take (i := 6) (v := ?_) rfl (by kernel_rfl) (by kernel_rfl) (by kernel_rfl) (fun _ _ _ h => h) (Or.inl ⟨by rfl, ?_⟩) hS ?_
          rotate_left
          · intro w hSw; skip; go_simp; try with_reducible rfl
          try simp only [Act.put, sp]
          refine wpAnyH_ready (rs := [9]) (by kernel_rfl) (by simp) ?_
          refine AllReadyH.cons rfl (fun K hK => ?_) AllReadyH.nil
          go_simp
          refine hK.out _ _ (keep6 (by repeat (first | exact Below.refl _ _ | refine Below.drew ?_ | refine bel_new ?_ _)) d00 d01 d02 d10 d11 d12) (fun hS => ?_)
          clear hK K
          try simp only [Act.put, sp]
          refine wpAnyH_take (i := 10) (v := ?_) rfl (by kernel_rfl) (by kernel_rfl) (by kernel_rfl) (fun _ _ _ h => h) (Or.inl ⟨by rfl, ?_⟩) hS ?_
          rotate_left
          · intro w hSw; skip; go_simp; try with_reducible rfl
          try simp only [Act.put, sp]
          refine wpAnyH_take (i := 11) (v := ?_) rfl (by kernel_rfl) (by kernel_rfl) (by kernel_rfl) (fun _ _ _ h => h) (Or.inl ⟨by rfl, ?_⟩) hS ?_
          rotate_left
          · intro w hSw; skip; go_simp; try with_reducible rfl
          try simp only [Act.put, sp]
          refine wpAnyH_ready (rs := [12]) (by kernel_rfl) (by simp) ?_
          refine AllReadyH.cons rfl (fun K hK => ?_) AllReadyH.nil
          go_simp
          refine hK.out _ _ (keep6 (by repeat (first | exact Below.refl _ _ | refine Below.drew ?_ | refine bel_new ?_ _)) d00 d01 d02 d10 d11 d12) (fun hS => ?_)
          clear hK K
          try simp only [Act.put, sp]
          refine wpAnyH_ready (rs := [13]) (by kernel_rfl) (by simp) ?_
          refine AllReadyH.cons rfl (fun K hK => ?_) AllReadyH.nil
          refine step_tok2 _ _ w.heap.size (xs := (t0cells pa pb (w.heap.size + 1 + 1) (w.heap.size + 1 + 1 + 1 + 1)).toList) rfl rfl rfl rfl (by repeat (first | exact HROW.out | refine World.ownsRow.alloc ?_ _ | refine owns_drew ?_)) rfl (by simp [Value.oneCell']) (by simp) (by simp; omega) ?_
          intro o9 c9 w9 hown9 hg9 hf9 hb9
          have hp9 : w9.heap[p5]? = some (.cells #[.slice (some ⟨pt, 0, none⟩) 4 4, .slice none 0 0] 35 (0, 0)) := by
            rw [hg9.block _ (by simp; omega) (fun e => hN e.symm)]; exact bel_get (by repeat (first | exact Below.refl _ _ | refine Below.drew ?_ | refine bel_new ?_ _)) hpg
          have z0 : w9.cell? ⟨p5, 0, none⟩ = some (.slice (some ⟨pt, 0, none⟩) 4 4) := by simp [World.cell?, hp9]
          have z1 : w9.frozen? ⟨p5, 0, none⟩ = false := by simp [World.frozen?, hp9]
          have hC9 : ∀ q off, (q = pc ∨ q = pd) → w9.cell? ⟨q, off, none⟩ = W4.cell? ⟨q, off, none⟩ := six_far hg9 (by repeat (first | exact Below.refl _ _ | refine Below.drew ?_ | refine bel_new ?_ _)) hpcl4 hpdl4 n32 n33
          refine hK.out _ _ (keep6' hC9 d00 d01 d02 d10 d11 d12) (fun hS => ?_)
          clear hK K
          try simp only [Act.put, sp]
          refine wpAnyH_take (i := 14) (v := ?_) rfl (by kernel_rfl) (by kernel_rfl) (by kernel_rfl) (fun _ _ _ h => h) (Or.inl ⟨by rfl, ?_⟩) hS ?_
          rotate_left
          · intro w hSw; skip; go_simp; try with_reducible rfl
          try simp only [Act.put, sp]
          refine wpAnyH_ready (rs := [15]) (by kernel_rfl) (by simp) ?_
          refine AllReadyH.cons rfl (fun K hK => ?_) AllReadyH.nil
          go_simp
          refine hK.out _ _ (keep6s hC9 n30 n31 d00 d01 d02 d10 d11 d12) (fun hS => ?_)
          clear hK K
          try simp only [Act.put, sp]
          refine wpAnyH_done (by kernel_rfl) ?_ _
          refine NoPanic.normal ?_
          go_wp2_with fail
          go_meet
          exact ms_to (by first | rfl | exact hd2.symm) (ms_six5 H4.out.2 (fun X hch => ⟨by first | exact hch.1 | exact hch.2.1 | exact hch.2.2.1 | exact hch.2.2.2.1, by first | exact hch.1 | exact hch.2.1 | exact hch.2.2.1 | exact hch.2.2.2.1, by first | exact hch.1 | exact hch.2.1 | exact hch.2.2.1 | exact hch.2.2.2.1⟩) hown9 rfl hg9 hf9 rfl)
        · go_simp
          refine hK.out _ _ (keep6 (by repeat (first | exact Below.refl _ _ | refine Below.drew ?_ | refine bel_new ?_ _)) d00 d01 d02 d10 d11 d12) (fun hS => ?_)
          clear hK K
          try simp only [Act.put, sp]
          refine wpAnyH_take (i := 10) (v := ?_) rfl (by kernel_rfl) (by kernel_rfl) (by kernel_rfl) (fun _ _ _ h => h) (Or.inl ⟨by rfl, ?_⟩) hS ?_
          rotate_left
          · intro w hSw; skip; go_simp; try with_reducible rfl
          try simp only [Act.put, sp]
          refine wpAnyH_take (i := 11) (v := ?_) rfl (by kernel_rfl) (by kernel_rfl) (by kernel_rfl) (fun _ _ _ h => h) (Or.inl ⟨by rfl, ?_⟩) hS ?_
          rotate_left
          · intro w hSw; skip; go_simp; try with_reducible rfl
          try simp only [Act.put, sp]
          refine wpAnyH_ready (rs := [4]) (by kernel_rfl) (by simp) ?_
          refine AllReadyH.cons rfl (fun K hK => ?_) AllReadyH.nil
          go_simp
          refine hK.out _ _ (keep6 (by repeat (first | exact Below.refl _ _ | refine Below.drew ?_ | refine bel_new ?_ _)) d00 d01 d02 d10 d11 d12) (fun hS => ?_)
          clear hK K
          try simp only [Act.put, sp]
          refine wpAnyH_take (i := 5) (v := ?_) rfl (by kernel_rfl) (by kernel_rfl) (by kernel_rfl) (fun _ _ _ h => h) (Or.inl ⟨by rfl, ?_⟩) hS ?_
          rotate_left
          · intro w hSw; skip; go_simp; try with_reducible rfl
          try simp only [Act.put, sp]
          refine wpAnyH_take (i := 6) (v := ?_) rfl (by kernel_rfl) (by kernel_rfl) (by kernel_rfl) (fun _ _ _ h => h) (Or.inl ⟨by rfl, ?_⟩) hS ?_
          rotate_left
          · intro w hSw; skip; go_simp; try with_reducible rfl
          try simp only [Act.put, sp]
          refine wpAnyH_ready (rs := [12]) (by kernel_rfl) (by simp) ?_
          refine AllReadyH.cons rfl (fun K hK => ?_) AllReadyH.nil
          go_simp
          refine hK.out _ _ (keep6 (by repeat (first | exact Below.refl _ _ | refine Below.drew ?_ | refine bel_new ?_ _)) d00 d01 d02 d10 d11 d12) (fun hS => ?_)
          clear hK K
          try simp only [Act.put, sp]
          refine wpAnyH_ready (rs := [13]) (by kernel_rfl) (by simp) ?_
          refine AllReadyH.cons rfl (fun K hK => ?_) AllReadyH.nil
          refine step_tok2 _ _ w.heap.size (xs := (t0cells pa pb (w.heap.size + 1 + 1) (w.heap.size + 1 + 1 + 1 + 1)).toList) rfl rfl rfl rfl (by repeat (first | exact HROW.out | refine World.ownsRow.alloc ?_ _ | refine owns_drew ?_)) rfl (by simp [Value.oneCell']) (by simp) (by simp; omega) ?_
          intro o9 c9 w9 hown9 hg9 hf9 hb9
          have hp9 : w9.heap[p5]? = some (.cells #[.slice (some ⟨pt, 0, none⟩) 4 4, .slice none 0 0] 35 (0, 0)) := by
            rw [hg9.block _ (by simp; omega) (fun e => hN e.symm)]; exact bel_get (by repeat (first | exact Below.refl _ _ | refine Below.drew ?_ | refine bel_new ?_ _)) hpg
          have z0 : w9.cell? ⟨p5, 0, none⟩ = some (.slice (some ⟨pt, 0, none⟩) 4 4) := by simp [World.cell?, hp9]
          have z1 : w9.frozen? ⟨p5, 0, none⟩ = false := by simp [World.frozen?, hp9]
          have hC9 : ∀ q off, (q = pc ∨ q = pd) → w9.cell? ⟨q, off, none⟩ = W4.cell? ⟨q, off, none⟩ := six_far hg9 (by repeat (first | exact Below.refl _ _ | refine Below.drew ?_ | refine bel_new ?_ _)) hpcl4 hpdl4 n32 n33
          refine hK.out _ _ (keep6' hC9 d00 d01 d02 d10 d11 d12) (fun hS => ?_)
          clear hK K
          try simp only [Act.put, sp]
          refine wpAnyH_take (i := 14) (v := ?_) rfl (by kernel_rfl) (by kernel_rfl) (by kernel_rfl) (fun _ _ _ h => h) (Or.inl ⟨by rfl, ?_⟩) hS ?_
          rotate_left
          · intro w hSw; skip; go_simp; try with_reducible rfl
          try simp only [Act.put, sp]
          refine wpAnyH_ready (rs := [15]) (by kernel_rfl) (by simp) ?_
          refine AllReadyH.cons rfl (fun K hK => ?_) AllReadyH.nil
          go_simp
          refine hK.out _ _ (keep6s hC9 n30 n31 d00 d01 d02 d10 d11 d12) (fun hS => ?_)
          clear hK K
          try simp only [Act.put, sp]
          refine wpAnyH_done (by kernel_rfl) ?_ _
          refine NoPanic.normal ?_
          go_wp2_with fail
          go_meet
          exact ms_to (by first | rfl | exact hd2.symm) (ms_six5 H4.out.2 (fun X hch => ⟨by first | exact hch.1 | exact hch.2.1 | exact hch.2.2.1 | exact hch.2.2.2.1, by first | exact hch.1 | exact hch.2.1 | exact hch.2.2.1 | exact hch.2.2.2.1, by first | exact hch.1 | exact hch.2.1 | exact hch.2.2.1 | exact hch.2.2.2.1⟩) hown9 rfl hg9 hf9 rfl)
      · go_simp
        refine hK.out _ _ (keep6 (by repeat (first | exact Below.refl _ _ | refine Below.drew ?_ | refine bel_new ?_ _)) d00 d01 d02 d10 d11 d12) (fun hS => ?_)
        clear hK K
        try simp only [Act.put, sp]
        refine wpAnyH_take (i := 5) (v := ?_) rfl (by kernel_rfl) (by kernel_rfl) (by kernel_rfl) (fun _ _ _ h => h) (Or.inl ⟨by rfl, ?_⟩) hS ?_
        rotate_left
        · intro w hSw; skip; go_simp; try with_reducible rfl
        try simp only [Act.put, sp]
        refine wpAnyH_take (i := 6) (v := ?_) rfl (by kernel_rfl) (by kernel_rfl) (by kernel_rfl) (fun _ _ _ h => h) (Or.inl ⟨by rfl, ?_⟩) hS ?_
        rotate_left
        · intro w hSw; skip; go_simp; try with_reducible rfl
        try simp only [Act.put, sp]
        refine wpAnyH_ready (rs := [1, 9]) (by kernel_rfl) (by simp) ?_
        refine AllReadyH.cons rfl (fun K hK => ?_) (AllReadyH.cons rfl (fun K hK => ?_) AllReadyH.nil)
        · go_simp
          refine hK.out _ _ (keep6 (by repeat (first | exact Below.refl _ _ | refine Below.drew ?_ | refine bel_new ?_ _)) d00 d01 d02 d10 d11 d12) (fun hS => ?_)
          clear hK K
          try simp only [Act.put, sp]
          refine wpAnyH_ready (rs := [9]) (by kernel_rfl) (by simp) ?_
          refine AllReadyH.cons rfl (fun K hK => ?_) AllReadyH.nil
          go_simp
          refine hK.out _ _ (keep6 (by repeat (first | exact Below.refl _ _ | refine Below.drew ?_ | refine bel_new ?_ _)) d00 d01 d02 d10 d11 d12) (fun hS => ?_)
          clear hK K
          try simp only [Act.put, sp]
          refine wpAnyH_take (i := 10) (v := ?_) rfl (by kernel_rfl) (by kernel_rfl) (by kernel_rfl) (fun _ _ _ h => h) (Or.inl ⟨by rfl, ?_⟩) hS ?_
          rotate_left
          · intro w hSw; skip; go_simp; try with_reducible rfl
          try simp only [Act.put, sp]
          refine wpAnyH_take (i := 11) (v := ?_) rfl (by kernel_rfl) (by kernel_rfl) (by kernel_rfl) (fun _ _ _ h => h) (Or.inl ⟨by rfl, ?_⟩) hS ?_
          rotate_left
          · intro w hSw; skip; go_simp; try with_reducible rfl
          try simp only [Act.put, sp]
          refine wpAnyH_ready (rs := [12]) (by kernel_rfl) (by simp) ?_
          refine AllReadyH.cons rfl (fun K hK => ?_) AllReadyH.nil
          go_simp
          refine hK.out _ _ (keep6 (by repeat (first | exact Below.refl _ _ | refine Below.drew ?_ | refine bel_new ?_ _)) d00 d01 d02 d10 d11 d12) (fun hS => ?_)
          clear hK K
          try simp only [Act.put, sp]
          refine wpAnyH_ready (rs := [13]) (by kernel_rfl) (by simp) ?_
          refine AllReadyH.cons rfl (fun K hK => ?_) AllReadyH.nil
          refine step_tok2 _ _ w.heap.size (xs := (t0cells pa pb (w.heap.size + 1 + 1) (w.heap.size + 1 + 1 + 1 + 1)).toList) rfl rfl rfl rfl (by repeat (first | exact HROW.out | refine World.ownsRow.alloc ?_ _ | refine owns_drew ?_)) rfl (by simp [Value.oneCell']) (by simp) (by simp; omega) ?_
          intro o9 c9 w9 hown9 hg9 hf9 hb9
          have hp9 : w9.heap[p5]? = some (.cells #[.slice (some ⟨pt, 0, none⟩) 4 4, .slice none 0 0] 35 (0, 0)) := by
            rw [hg9.block _ (by simp; omega) (fun e => hN e.symm)]; exact bel_get (by repeat (first | exact Below.refl _ _ | refine Below.drew ?_ | refine bel_new ?_ _)) hpg
          have z0 : w9.cell? ⟨p5, 0, none⟩ = some (.slice (some ⟨pt, 0, none⟩) 4 4) := by simp [World.cell?, hp9]
          have z1 : w9.frozen? ⟨p5, 0, none⟩ = false := by simp [World.frozen?, hp9]
          have hC9 : ∀ q off, (q = pc ∨ q = pd) → w9.cell? ⟨q, off, none⟩ = W4.cell? ⟨q, off, none⟩ := six_far hg9 (by repeat (first | exact Below.refl _ _ | refine Below.drew ?_ | refine bel_new ?_ _)) hpcl4 hpdl4 n32 n33
          refine hK.out _ _ (keep6' hC9 d00 d01 d02 d10 d11 d12) (fun hS => ?_)
          clear hK K
          try simp only [Act.put, sp]
          refine wpAnyH_take (i := 14) (v := ?_) rfl (by kernel_rfl) (by kernel_rfl) (by kernel_rfl) (fun _ _ _ h => h) (Or.inl ⟨by rfl, ?_⟩) hS ?_
          rotate_left
          · intro w hSw; skip; go_simp; try with_reducible rfl
          try simp only [Act.put, sp]
          refine wpAnyH_ready (rs := [15]) (by kernel_rfl) (by simp) ?_
          refine AllReadyH.cons rfl (fun K hK => ?_) AllReadyH.nil
          go_simp
          refine hK.out _ _ (keep6s hC9 n30 n31 d00 d01 d02 d10 d11 d12) (fun hS => ?_)
          clear hK K
          try simp only [Act.put, sp]
          refine wpAnyH_done (by kernel_rfl) ?_ _
          refine NoPanic.normal ?_
          go_wp2_with fail
          go_meet
          exact ms_to (by first | rfl | exact hd2.symm) (ms_six5 H4.out.2 (fun X hch => ⟨by first | exact hch.1 | exact hch.2.1 | exact hch.2.2.1 | exact hch.2.2.2.1, by first | exact hch.1 | exact hch.2.1 | exact hch.2.2.1 | exact hch.2.2.2.1, by first | exact hch.1 | exact hch.2.1 | exact hch.2.2.1 | exact hch.2.2.2.1⟩) hown9 rfl hg9 hf9 rfl)
        · go_simp
          refine hK.out _ _ (keep6 (by repeat (first | exact Below.refl _ _ | refine Below.drew ?_ | refine bel_new ?_ _)) d00 d01 d02 d10 d11 d12) (fun hS => ?_)
          clear hK K
          try simp only [Act.put, sp]
          refine wpAnyH_take (i := 10) (v := ?_) rfl (by kernel_rfl) (by kernel_rfl) (by kernel_rfl) (fun _ _ _ h => h) (Or.inl ⟨by rfl, ?_⟩) hS ?_
          rotate_left
          · intro w hSw; skip; go_simp; try with_reducible rfl
          try simp only [Act.put, sp]
          refine wpAnyH_take (i := 11) (v := ?_) rfl (by kernel_rfl) (by kernel_rfl) (by kernel_rfl) (fun _ _ _ h => h) (Or.inl ⟨by rfl, ?_⟩) hS ?_
          rotate_left
          · intro w hSw; skip; go_simp; try with_reducible rfl
          try simp only [Act.put, sp]
          refine wpAnyH_ready (rs := [1, 12]) (by kernel_rfl) (by simp) ?_
          refine AllReadyH.cons rfl (fun K hK => ?_) (AllReadyH.cons rfl (fun K hK => ?_) AllReadyH.nil)
          · go_simp
            refine hK.out _ _ (keep6 (by repeat (first | exact Below.refl _ _ | refine Below.drew ?_ | refine bel_new ?_ _)) d00 d01 d02 d10 d11 d12) (fun hS => ?_)
            clear hK K
            try simp only [Act.put, sp]
            refine wpAnyH_ready (rs := [12]) (by kernel_rfl) (by simp) ?_
            refine AllReadyH.cons rfl (fun K hK => ?_) AllReadyH.nil
            go_simp
            refine hK.out _ _ (keep6 (by repeat (first | exact Below.refl _ _ | refine Below.drew ?_ | refine bel_new ?_ _)) d00 d01 d02 d10 d11 d12) (fun hS => ?_)
            clear hK K
            try simp only [Act.put, sp]
            refine wpAnyH_ready (rs := [13]) (by kernel_rfl) (by simp) ?_
            refine AllReadyH.cons rfl (fun K hK => ?_) AllReadyH.nil
            refine step_tok2 _ _ w.heap.size (xs := (t0cells pa pb (w.heap.size + 1 + 1) (w.heap.size + 1 + 1 + 1 + 1)).toList) rfl rfl rfl rfl (by repeat (first | exact HROW.out | refine World.ownsRow.alloc ?_ _ | refine owns_drew ?_)) rfl (by simp [Value.oneCell']) (by simp) (by simp; omega) ?_
            intro o9 c9 w9 hown9 hg9 hf9 hb9
            have hp9 : w9.heap[p5]? = some (.cells #[.slice (some ⟨pt, 0, none⟩) 4 4, .slice none 0 0] 35 (0, 0)) := by
              rw [hg9.block _ (by simp; omega) (fun e => hN e.symm)]; exact bel_get (by repeat (first | exact Below.refl _ _ | refine Below.drew ?_ | refine bel_new ?_ _)) hpg
            have z0 : w9.cell? ⟨p5, 0, none⟩ = some (.slice (some ⟨pt, 0, none⟩) 4 4) := by simp [World.cell?, hp9]
            have z1 : w9.frozen? ⟨p5, 0, none⟩ = false := by simp [World.frozen?, hp9]
            have hC9 : ∀ q off, (q = pc ∨ q = pd) → w9.cell? ⟨q, off, none⟩ = W4.cell? ⟨q, off, none⟩ := six_far hg9 (by repeat (first | exact Below.refl _ _ | refine Below.drew ?_ | refine bel_new ?_ _)) hpcl4 hpdl4 n32 n33
            refine hK.out _ _ (keep6' hC9 d00 d01 d02 d10 d11 d12) (fun hS => ?_)
            clear hK K
            try simp only [Act.put, sp]
            refine wpAnyH_take (i := 14) (v := ?_) rfl (by kernel_rfl) (by kernel_rfl) (by kernel_rfl) (fun _ _ _ h => h) (Or.inl ⟨by rfl, ?_⟩) hS ?_
            rotate_left
            · intro w hSw; skip; go_simp; try with_reducible rfl
            try simp only [Act.put, sp]
            refine wpAnyH_ready (rs := [15]) (by kernel_rfl) (by simp) ?_
            refine AllReadyH.cons rfl (fun K hK => ?_) AllReadyH.nil
            go_simp
            refine hK.out _ _ (keep6s hC9 n30 n31 d00 d01 d02 d10 d11 d12) (fun hS => ?_)
            clear hK K
            try simp only [Act.put, sp]
            refine wpAnyH_done (by kernel_rfl) ?_ _
            refine NoPanic.normal ?_
            go_wp2_with fail
            go_meet
            exact ms_to (by first | rfl | exact hd2.symm) (ms_six5 H4.out.2 (fun X hch => ⟨by first | exact hch.1 | exact hch.2.1 | exact hch.2.2.1 | exact hch.2.2.2.1, by first | exact hch.1 | exact hch.2.1 | exact hch.2.2.1 | exact hch.2.2.2.1, by first | exact hch.1 | exact hch.2.1 | exact hch.2.2.1 | exact hch.2.2.2.1⟩) hown9 rfl hg9 hf9 rfl)
          · go_simp
            refine hK.out _ _ (keep6 (by repeat (first | exact Below.refl _ _ | refine Below.drew ?_ | refine bel_new ?_ _)) d00 d01 d02 d10 d11 d12) (fun hS => ?_)
            clear hK K
            try simp only [Act.put, sp]
            refine wpAnyH_ready (rs := [1]) (by kernel_rfl) (by simp) ?_
            refine AllReadyH.cons rfl (fun K hK => ?_) AllReadyH.nil
            go_simp
            refine hK.out _ _ (keep6 (by repeat (first | exact Below.refl _ _ | refine Below.drew ?_ | refine bel_new ?_ _)) d00 d01 d02 d10 d11 d12) (fun hS => ?_)
            clear hK K
            try simp only [Act.put, sp]
            refine wpAnyH_ready (rs := [13]) (by kernel_rfl) (by simp) ?_
            refine AllReadyH.cons rfl (fun K hK => ?_) AllReadyH.nil
            refine step_tok2 _ _ w.heap.size (xs := (t0cells pa pb (w.heap.size + 1 + 1) (w.heap.size + 1 + 1 + 1 + 1)).toList) rfl rfl rfl rfl (by repeat (first | exact HROW.out | refine World.ownsRow.alloc ?_ _ | refine owns_drew ?_)) rfl (by simp [Value.oneCell']) (by simp) (by simp; omega) ?_
            intro o9 c9 w9 hown9 hg9 hf9 hb9
            have hp9 : w9.heap[p5]? = some (.cells #[.slice (some ⟨pt, 0, none⟩) 4 4, .slice none 0 0] 35 (0, 0)) := by
              rw [hg9.block _ (by simp; omega) (fun e => hN e.symm)]; exact bel_get (by repeat (first | exact Below.refl _ _ | refine Below.drew ?_ | refine bel_new ?_ _)) hpg
            have z0 : w9.cell? ⟨p5, 0, none⟩ = some (.slice (some ⟨pt, 0, none⟩) 4 4) := by simp [World.cell?, hp9]
            have z1 : w9.frozen? ⟨p5, 0, none⟩ = false := by simp [World.frozen?, hp9]
            have hC9 : ∀ q off, (q = pc ∨ q = pd) → w9.cell? ⟨q, off, none⟩ = W4.cell? ⟨q, off, none⟩ := six_far hg9 (by repeat (first | exact Below.refl _ _ | refine Below.drew ?_ | refine bel_new ?_ _)) hpcl4 hpdl4 n32 n33
            refine hK.out _ _ (keep6' hC9 d00 d01 d02 d10 d11 d12) (fun hS => ?_)
            clear hK K
            try simp only [Act.put, sp]
            refine wpAnyH_take (i := 14) (v := ?_) rfl (by kernel_rfl) (by kernel_rfl) (by kernel_rfl) (fun _ _ _ h => h) (Or.inl ⟨by rfl, ?_⟩) hS ?_
            rotate_left
            · intro w hSw; skip; go_simp; try with_reducible rfl
            try simp only [Act.put, sp]
            refine wpAnyH_ready (rs := [15]) (by kernel_rfl) (by simp) ?_
            refine AllReadyH.cons rfl (fun K hK => ?_) AllReadyH.nil
            go_simp
            refine hK.out _ _ (keep6s hC9 n30 n31 d00 d01 d02 d10 d11 d12) (fun hS => ?_)
            clear hK K
            try simp only [Act.put, sp]
            refine wpAnyH_done (by kernel_rfl) ?_ _
            refine NoPanic.normal ?_
            go_wp2_with fail
            go_meet
            exact ms_to (by first | rfl | exact hd2.symm) (ms_six5 H4.out.2 (fun X hch => ⟨by first | exact hch.1 | exact hch.2.1 | exact hch.2.2.1 | exact hch.2.2.2.1, by first | exact hch.1 | exact hch.2.1 | exact hch.2.2.1 | exact hch.2.2.2.1, by first | exact hch.1 | exact hch.2.1 | exact hch.2.2.1 | exact hch.2.2.2.1⟩) hown9 rfl hg9 hf9 rfl)
      · go_simp
        refine hK.out _ _ (keep6 (by repeat (first | exact Below.refl _ _ | refine Below.drew ?_ | refine bel_new ?_ _)) d00 d01 d02 d10 d11 d12) (fun hS => ?_)
        clear hK K
        try simp only [Act.put, sp]
        refine wpAnyH_take (i := 10) (v := ?_) rfl (by kernel_rfl) (by kernel_rfl) (by kernel_rfl) (fun _ _ _ h => h) (Or.inl ⟨by rfl, ?_⟩) hS ?_
        rotate_left
        · intro w hSw; skip; go_simp; try with_reducible rfl
        try simp only [Act.put, sp]
        refine wpAnyH_take (i := 11) (v := ?_) rfl (by kernel_rfl) (by kernel_rfl) (by kernel_rfl) (fun _ _ _ h => h) (Or.inl ⟨by rfl, ?_⟩) hS ?_
        rotate_left
        · intro w hSw; skip; go_simp; try with_reducible rfl
        try simp only [Act.put, sp]
        refine wpAnyH_ready (rs := [1, 4]) (by kernel_rfl) (by simp) ?_
        refine AllReadyH.cons rfl (fun K hK => ?_) (AllReadyH.cons rfl (fun K hK => ?_) AllReadyH.nil)
        · go_simp
          refine hK.out _ _ (keep6 (by repeat (first | exact Below.refl _ _ | refine Below.drew ?_ | refine bel_new ?_ _)) d00 d01 d02 d10 d11 d12) (fun hS => ?_)
          clear hK K
          try simp only [Act.put, sp]
          refine wpAnyH_ready (rs := [4]) (by kernel_rfl) (by simp) ?_
          refine AllReadyH.cons rfl (fun K hK => ?_) AllReadyH.nil
          go_simp
          refine hK.out _ _ (keep6 (by repeat (first | exact Below.refl _ _ | refine Below.drew ?_ | refine bel_new ?_ _)) d00 d01 d02 d10 d11 d12) (fun hS => ?_)
          clear hK K
          try simp only [Act.put, sp]
          refine wpAnyH_take (i := 5) (v := ?_) rfl (by kernel_rfl) (by kernel_rfl) (by kernel_rfl) (fun _ _ _ h => h) (Or.inl ⟨by rfl, ?_⟩) hS ?_
          rotate_left
          · intro w hSw; skip; go_simp; try with_reducible rfl
          try simp only [Act.put, sp]
          refine wpAnyH_take (i := 6) (v := ?_) rfl (by kernel_rfl) (by kernel_rfl) (by kernel_rfl) (fun _ _ _ h => h) (Or.inl ⟨by rfl, ?_⟩) hS ?_
          rotate_left
          · intro w hSw; skip; go_simp; try with_reducible rfl
          try simp only [Act.put, sp]
          refine wpAnyH_ready (rs := [12]) (by kernel_rfl) (by simp) ?_
          refine AllReadyH.cons rfl (fun K hK => ?_) AllReadyH.nil
          go_simp
          refine hK.out _ _ (keep6 (by repeat (first | exact Below.refl _ _ | refine Below.drew ?_ | refine bel_new ?_ _)) d00 d01 d02 d10 d11 d12) (fun hS => ?_)
          clear hK K
          try simp only [Act.put, sp]
          refine wpAnyH_ready (rs := [13]) (by kernel_rfl) (by simp) ?_
          refine AllReadyH.cons rfl (fun K hK => ?_) AllReadyH.nil
          refine step_tok2 _ _ w.heap.size (xs := (t0cells pa pb (w.heap.size + 1 + 1) (w.heap.size + 1 + 1 + 1 + 1)).toList) rfl rfl rfl rfl (by repeat (first | exact HROW.out | refine World.ownsRow.alloc ?_ _ | refine owns_drew ?_)) rfl (by simp [Value.oneCell']) (by simp) (by simp; omega) ?_
          intro o9 c9 w9 hown9 hg9 hf9 hb9
          have hp9 : w9.heap[p5]? = some (.cells #[.slice (some ⟨pt, 0, none⟩) 4 4, .slice none 0 0] 35 (0, 0)) := by
            rw [hg9.block _ (by simp; omega) (fun e => hN e.symm)]; exact bel_get (by repeat (first | exact Below.refl _ _ | refine Below.drew ?_ | refine bel_new ?_ _)) hpg
          have z0 : w9.cell? ⟨p5, 0, none⟩ = some (.slice (some ⟨pt, 0, none⟩) 4 4) := by simp [World.cell?, hp9]
          have z1 : w9.frozen? ⟨p5, 0, none⟩ = false := by simp [World.frozen?, hp9]
          have hC9 : ∀ q off, (q = pc ∨ q = pd) → w9.cell? ⟨q, off, none⟩ = W4.cell? ⟨q, off, none⟩ := six_far hg9 (by repeat (first | exact Below.refl _ _ | refine Below.drew ?_ | refine bel_new ?_ _)) hpcl4 hpdl4 n32 n33
          refine hK.out _ _ (keep6' hC9 d00 d01 d02 d10 d11 d12) (fun hS => ?_)
          clear hK K
          try simp only [Act.put, sp]
          refine wpAnyH_take (i := 14) (v := ?_) rfl (by kernel_rfl) (by kernel_rfl) (by kernel_rfl) (fun _ _ _ h => h) (Or.inl ⟨by rfl, ?_⟩) hS ?_
          rotate_left
          · intro w hSw; skip; go_simp; try with_reducible rfl
          try simp only [Act.put, sp]
          refine wpAnyH_ready (rs := [15]) (by kernel_rfl) (by simp) ?_
          refine AllReadyH.cons rfl (fun K hK => ?_) AllReadyH.nil
          go_simp
          refine hK.out _ _ (keep6s hC9 n30 n31 d00 d01 d02 d10 d11 d12) (fun hS => ?_)
          clear hK K
          try simp only [Act.put, sp]
          refine wpAnyH_done (by kernel_rfl) ?_ _
          refine NoPanic.normal ?_
          go_wp2_with fail
          go_meet
          exact ms_to (by first | rfl | exact hd2.symm) (ms_six5 H4.out.2 (fun X hch => ⟨by first | exact hch.1 | exact hch.2.1 | exact hch.2.2.1 | exact hch.2.2.2.1, by first | exact hch.1 | exact hch.2.1 | exact hch.2.2.1 | exact hch.2.2.2.1, by first | exact hch.1 | exact hch.2.1 | exact hch.2.2.1 | exact hch.2.2.2.1⟩) hown9 rfl hg9 hf9 rfl)
        · go_simp
          refine hK.out _ _ (keep6 (by repeat (first | exact Below.refl _ _ | refine Below.drew ?_ | refine bel_new ?_ _)) d00 d01 d02 d10 d11 d12) (fun hS => ?_)
          clear hK K
          try simp only [Act.put, sp]
          refine wpAnyH_take (i := 5) (v := ?_) rfl (by kernel_rfl) (by kernel_rfl) (by kernel_rfl) (fun _ _ _ h => h) (Or.inl ⟨by rfl, ?_⟩) hS ?_
          rotate_left
          · intro w hSw; skip; go_simp; try with_reducible rfl
          try simp only [Act.put, sp]
          refine wpAnyH_take (i := 6) (v := ?_) rfl (by kernel_rfl) (by kernel_rfl) (by kernel_rfl) (fun _ _ _ h => h) (Or.inl ⟨by rfl, ?_⟩) hS ?_
          rotate_left
          · intro w hSw; skip; go_simp; try with_reducible rfl
          try simp only [Act.put, sp]
          refine wpAnyH_ready (rs := [1, 12]) (by kernel_rfl) (by simp) ?_
          refine AllReadyH.cons rfl (fun K hK => ?_) (AllReadyH.cons rfl (fun K hK => ?_) AllReadyH.nil)
          · go_simp
            refine hK.out _ _ (keep6 (by repeat (first | exact Below.refl _ _ | refine Below.drew ?_ | refine bel_new ?_ _)) d00 d01 d02 d10 d11 d12) (fun hS => ?_)
            clear hK K
            try simp only [Act.put, sp]
            refine wpAnyH_ready (rs := [12]) (by kernel_rfl) (by simp) ?_
            refine AllReadyH.cons rfl (fun K hK => ?_) AllReadyH.nil
            go_simp
            refine hK.out _ _ (keep6 (by repeat (first | exact Below.refl _ _ | refine Below.drew ?_ | refine bel_new ?_ _)) d00 d01 d02 d10 d11 d12) (fun hS => ?_)
            clear hK K
            try simp only [Act.put, sp]
            refine wpAnyH_ready (rs := [13]) (by kernel_rfl) (by simp) ?_
            refine AllReadyH.cons rfl (fun K hK => ?_) AllReadyH.nil
            refine step_tok2 _ _ w.heap.size (xs := (t0cells pa pb (w.heap.size + 1 + 1) (w.heap.size + 1 + 1 + 1 + 1)).toList) rfl rfl rfl rfl (by repeat (first | exact HROW.out | refine World.ownsRow.alloc ?_ _ | refine owns_drew ?_)) rfl (by simp [Value.oneCell']) (by simp) (by simp; omega) ?_
            intro o9 c9 w9 hown9 hg9 hf9 hb9
            have hp9 : w9.heap[p5]? = some (.cells #[.slice (some ⟨pt, 0, none⟩) 4 4, .slice none 0 0] 35 (0, 0)) := by
              rw [hg9.block _ (by simp; omega) (fun e => hN e.symm)]; exact bel_get (by repeat (first | exact Below.refl _ _ | refine Below.drew ?_ | refine bel_new ?_ _)) hpg
            have z0 : w9.cell? ⟨p5, 0, none⟩ = some (.slice (some ⟨pt, 0, none⟩) 4 4) := by simp [World.cell?, hp9]
            have z1 : w9.frozen? ⟨p5, 0, none⟩ = false := by simp [World.frozen?, hp9]
            have hC9 : ∀ q off, (q = pc ∨ q = pd) → w9.cell? ⟨q, off, none⟩ = W4.cell? ⟨q, off, none⟩ := six_far hg9 (by repeat (first | exact Below.refl _ _ | refine Below.drew ?_ | refine bel_new ?_ _)) hpcl4 hpdl4 n32 n33
            refine hK.out _ _ (keep6' hC9 d00 d01 d02 d10 d11 d12) (fun hS => ?_)
            clear hK K
            try simp only [Act.put, sp]
            refine wpAnyH_take (i := 14) (v := ?_) rfl (by kernel_rfl) (by kernel_rfl) (by kernel_rfl) (fun _ _ _ h => h) (Or.inl ⟨by rfl, ?_⟩) hS ?_
            rotate_left
            · intro w hSw; skip; go_simp; try with_reducible rfl
            try simp only [Act.put, sp]
            refine wpAnyH_ready (rs := [15]) (by kernel_rfl) (by simp) ?_
            refine AllReadyH.cons rfl (fun K hK => ?_) AllReadyH.nil
            go_simp
            refine hK.out _ _ (keep6s hC9 n30 n31 d00 d01 d02 d10 d11 d12) (fun hS => ?_)
            clear hK K
            try simp only [Act.put, sp]
            refine wpAnyH_done (by kernel_rfl) ?_ _
            refine NoPanic.normal ?_
            go_wp2_with fail
            go_meet
            exact ms_to (by first | rfl | exact hd2.symm) (ms_six5 H4.out.2 (fun X hch => ⟨by first | exact hch.1 | exact hch.2.1 | exact hch.2.2.1 | exact hch.2.2.2.1, by first | exact hch.1 | exact hch.2.1 | exact hch.2.2.1 | exact hch.2.2.2.1, by first | exact hch.1 | exact hch.2.1 | exact hch.2.2.1 | exact hch.2.2.2.1⟩) hown9 rfl hg9 hf9 rfl)
          · go_simp
            refine hK.out _ _ (keep6 (by repeat (first | exact Below.refl _ _ | refine Below.drew ?_ | refine bel_new ?_ _)) d00 d01 d02 d10 d11 d12) (fun hS => ?_)
            clear hK K
            try simp only [Act.put, sp]
            refine wpAnyH_ready (rs := [1]) (by kernel_rfl) (by simp) ?_
            refine AllReadyH.cons rfl (fun K hK => ?_) AllReadyH.nil
            go_simp
            refine hK.out _ _ (keep6 (by repeat (first | exact Below.refl _ _ | refine Below.drew ?_ | refine bel_new ?_ _)) d00 d01 d02 d10 d11 d12) (fun hS => ?_)
            clear hK K
            try simp only [Act.put, sp]
            refine wpAnyH_ready (rs := [13]) (by kernel_rfl) (by simp) ?_
            refine AllReadyH.cons rfl (fun K hK => ?_) AllReadyH.nil
            refine step_tok2 _ _ w.heap.size (xs := (t0cells pa pb (w.heap.size + 1 + 1) (w.heap.size + 1 + 1 + 1 + 1)).toList) rfl rfl rfl rfl (by repeat (first | exact HROW.out | refine World.ownsRow.alloc ?_ _ | refine owns_drew ?_)) rfl (by simp [Value.oneCell']) (by simp) (by simp; omega) ?_
            intro o9 c9 w9 hown9 hg9 hf9 hb9
            have hp9 : w9.heap[p5]? = some (.cells #[.slice (some ⟨pt, 0, none⟩) 4 4, .slice none 0 0] 35 (0, 0)) := by
              rw [hg9.block _ (by simp; omega) (fun e => hN e.symm)]; exact bel_get (by repeat (first | exact Below.refl _ _ | refine Below.drew ?_ | refine bel_new ?_ _)) hpg
            have z0 : w9.cell? ⟨p5, 0, none⟩ = some (.slice (some ⟨pt, 0, none⟩) 4 4) := by simp [World.cell?, hp9]
            have z1 : w9.frozen? ⟨p5, 0, none⟩ = false := by simp [World.frozen?, hp9]
            have hC9 : ∀ q off, (q = pc ∨ q = pd) → w9.cell? ⟨q, off, none⟩ = W4.cell? ⟨q, off, none⟩ := six_far hg9 (by repeat (first | exact Below.refl _ _ | refine Below.drew ?_ | refine bel_new ?_ _)) hpcl4 hpdl4 n32 n33
            refine hK.out _ _ (keep6' hC9 d00 d01 d02 d10 d11 d12) (fun hS => ?_)
            clear hK K
            try simp only [Act.put, sp]
            refine wpAnyH_take (i := 14) (v := ?_) rfl (by kernel_rfl) (by kernel_rfl) (by kernel_rfl) (fun _ _ _ h => h) (Or.inl ⟨by rfl, ?_⟩) hS ?_
            rotate_left
            · intro w hSw; skip; go_simp; try with_reducible rfl
            try simp only [Act.put, sp]
            refine wpAnyH_ready (rs := [15]) (by kernel_rfl) (by simp) ?_
            refine AllReadyH.cons rfl (fun K hK => ?_) AllReadyH.nil
            go_simp
            refine hK.out _ _ (keep6s hC9 n30 n31 d00 d01 d02 d10 d11 d12) (fun hS => ?_)
            clear hK K
            try simp only [Act.put, sp]
            refine wpAnyH_done (by kernel_rfl) ?_ _
            refine NoPanic.normal ?_
            go_wp2_with fail
            go_meet
            exact ms_to (by first | rfl | exact hd2.symm) (ms_six5 H4.out.2 (fun X hch => ⟨by first | exact hch.1 | exact hch.2.1 | exact hch.2.2.1 | exact hch.2.2.2.1, by first | exact hch.1 | exact hch.2.1 | exact hch.2.2.1 | exact hch.2.2.2.1, by first | exact hch.1 | exact hch.2.1 | exact hch.2.2.1 | exact hch.2.2.2.1⟩) hown9 rfl hg9 hf9 rfl)
--r5e
  · have hd : decide ((3 : Int) < (L.length : Int)) = false := by simp; omega
    have hd2 : decide (3 < L.length) = false := by simpa using hl3
    go_wp2_with fail
    go_meet
    case rel =>
      exact ms_to (by first | rfl | exact hd2.symm) H4.out.1
end Go.Proofs.YtbanmggkfpnalaaGreatDoor
