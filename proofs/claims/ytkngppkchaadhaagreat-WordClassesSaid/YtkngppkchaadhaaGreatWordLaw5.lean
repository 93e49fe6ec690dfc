/- The walk of WordClasses. -/
import Derived.Test.YtkngppkchaadhaaGreatClsLaw0
import Derived.BigQuiet
set_option linter.unusedVariables false
set_option linter.unusedSimpArgs false
namespace Go.Proofs.YtkngppkchaadhaaGreat
open Go.RowKit De Wd Ru

theorem u64_26 (a : Int) : ∃ i : Nat, i < 26 ∧ (IntKind.u64.wrap a).tmod 26 = (i : Int) := by
  have h0 : 0 ≤ IntKind.u64.wrap a := by unfold IntKind.wrap; simp [IntKind.bits, IntKind.signed]; omega
  have h1 := Int.tmod_nonneg 26 h0
  have h2 := Int.tmod_lt_of_pos (IntKind.u64.wrap a) (show (0 : Int) < 26 by omega)
  exact ⟨((IntKind.u64.wrap a).tmod 26).toNat, by omega, by omega⟩
theorem Row.lit2 (w : World) (e : TypeId) (l : List (Int × Int)) (cs : Array Value) (n B : Nat) (hcs : cs.toList = flatK .i32 l) (hB : w.heap.size = B) (hm : n ≤ maxLen) : Row (w.alloc (.cells cs e)) (.slice (some ⟨B, 0, none⟩) n n) n (flatK .i32 l) := by
  subst hB
  refine ⟨_, _, rfl, Nat.le_refl _, hm, .inr ⟨w.heap.size, 0, rfl, by simp, fun j u hu => ?_⟩⟩
  rw [Nat.zero_add, World.cell?_alloc_mark]
  rw [← hcs] at hu
  simpa using hu
theorem i32_one {a b : Int} (ha : 97 ≤ a ∧ a ≤ 122) (hb : 97 ≤ b ∧ b ≤ 122) : i32s [(a, b)] := by
  intro p hp
  simp only [List.mem_singleton] at hp
  subst hp
  exact ⟨⟨by simp only; omega, by simp only; omega⟩, ⟨by simp only; omega, by simp only; omega⟩⟩

set_option maxHeartbeats 4000000 in
set_option maxRecDepth 1000000 in
theorem wordClasses_walk (a b c : Int) (ha : (Lit.int .i64 a).wf = true) (hb : (Lit.int .i64 b).wf = true) (hc : (Lit.int .i64 c).wf = true) (w : World) :
    Calls Tryz.prog 3 #[.int .i64 a, .int .i64 b, .int .i64 c] w fun e w' => e = .returned (.bool true) ∧ Below w.heap.size w w' := by
  clear ha hb hc
  obtain ⟨x, hx, mx⟩ := u64_26 a
  obtain ⟨y, hy, my⟩ := u64_26 b
  obtain ⟨z, hz, mz⟩ := u64_26 c
  obtain ⟨S, hS⟩ : ∃ S, S = alphaB.extract x (x + 1) ++ (⟨#[45]⟩ : ByteArray) ++ alphaB.extract y (y + 1) ++ alphaB.extract z (z + 1) := ⟨_, rfl⟩
  have hT := cls_text hx hy hz hS
  have h3 := fun w => class_three hx hy hz hT w
  have h4 := fun w => class_four hx hy hz hT w
  have hsz : S.size = 4 := by rw [← sb_len, hT]; rfl
  unfold alphaB at hS
  have b1 : (0 : Int) ≤ (x : Int) := by omega
  have b2 : (x : Int) ≤ (x : Int) + 1 := by omega
  have b3 : (x : Int) + 1 ≤ 26 := by omega
  have b4 : ((x : Int) + 1).toNat = x + 1 := by omega
  have c1 : (0 : Int) ≤ (y : Int) := by omega
  have c2 : (y : Int) ≤ (y : Int) + 1 := by omega
  have c3 : (y : Int) + 1 ≤ 26 := by omega
  have c4 : ((y : Int) + 1).toNat = y + 1 := by omega
  have d1 : (0 : Int) ≤ (z : Int) := by omega
  have d2 : (z : Int) ≤ (z : Int) + 1 := by omega
  have d3 : (z : Int) + 1 ≤ 26 := by omega
  have d4 : ((z : Int) + 1).toNat = z + 1 := by omega
  by_cases hlt : y < x
  · simp only [if_pos hlt] at h3 h4
    have HH := Lib.hid (And.intro hS (And.intro h3 h4))
    have g1 : decide ((y : Int) < (x : Int)) = true := by simp; omega
    have g1' : decide (y < x) = true := by simp; omega
    clear hS h3 h4 hT hlt
    go_enter Tryz.func3, Tryz.ntmps3
    go_wp2_with fail
    go_quiet (fail)
    go_wp2_with fail
    rw [← HH.out.1]
    refine (HH.out.2.1 _).mono ?_
    rintro e w1 ⟨rfl, hb1⟩
    have hB1 : Below w.heap.size w w1 := bel_then (below_drewN (Below.refl _ _) _) hb1
    clear hb1
    go_wp2_with fail
    refine (HH.out.2.2 _).mono ?_
    rintro e w2 ⟨rfl, hb2⟩
    go_wp2_with (go_at_call 5; refine (told_any _).mono ?_; rintro e w3 ⟨rfl, hb3⟩)
    go_ret
    exact ⟨rfl, bel_then hB1 (bel_then hb2 hb3)⟩
  · simp only [if_neg hlt] at h3 h4
    obtain ⟨N, hN⟩ : ∃ N, N = Ru.nrm [((97 : Int) + x, 97 + y), (97 + z, 97 + z)] := ⟨_, rfl⟩
    obtain ⟨M, hM⟩ : ∃ M, M = Ru.nt [((97 : Int) + x, 97 + y), (97 + z, 97 + z)] := ⟨_, rfl⟩
    have hor : orF [((97 : Int) + x, 97 + y)] [(97 + z, 97 + z)] = N := by rw [hN]; rfl
    have hnt : Ru.nt N = M := by rw [hN, hM, nt_nrm]
    have hNl : N.length ≤ 1000 := by rw [hN]; have := nrm_le [((97 : Int) + x, (97 : Int) + y), (97 + z, 97 + z)]; simp at this; omega
    have hMl : M.length ≤ 1000 := by rw [hM]; have := nt_le [((97 : Int) + x, (97 : Int) + y), (97 + z, 97 + z)]; simp at this; omega
    have hNi : i32s N := by rw [hN]; exact i32_nrm _
    rw [← hN] at h3
    rw [← hM] at h4
    have z1 : i32s [((97 : Int) + x, (97 : Int) + y)] := i32_one (by omega) (by omega)
    have z2 : i32s [((97 : Int) + z, (97 : Int) + z)] := i32_one (by omega) (by omega)
    have hOR : ∀ (u v : Value) (W : World), Row W u 1 (flatK .i32 [((97 : Int) + x, (97 : Int) + y)]) → Row W v 1 (flatK .i32 [((97 : Int) + z, (97 : Int) + z)]) → Calls Tryz.prog 6 #[u, v] W fun e w' => ∃ q, e = .returned q ∧ w'.ownsRow W.heap.size 29 2 q N.length (flatK .i32 N) ∧ Below W.heap.size W w' := by
      intro u v W hu hv
      have := or_any [((97 : Int) + x, (97 : Int) + y)] [((97 : Int) + z, (97 : Int) + z)] u v W hu hv z1 z2 (by simp) (by simp)
      rw [hor] at this
      exact this
    have hNT : ∀ (v : Value) (W : World), Row W v N.length (flatK .i32 N) → Calls Tryz.prog 8 #[v] W fun e w' => ∃ q, e = .returned q ∧ w'.ownsRow W.heap.size 29 2 q M.length (flatK .i32 M) ∧ Below W.heap.size W w' := by
      intro v W hv
      have := not_any N v W hv hNi (by omega)
      rw [hnt] at this
      exact this
    have hSM : ∀ (l : List (Int × Int)) (u v : Value) (W : World), l.length ≤ 1000 → Row W u l.length (flatK .i32 l) → Row W v l.length (flatK .i32 l) → Calls Tryz.prog 7 #[u, v] W fun e w' => e = .returned (.bool true) ∧ Below W.heap.size W w' := by
      intro l u v W hl hu hv
      have := same_any l l u v W hu hv (by omega) (by omega)
      rw [decide_eq_true rfl] at this
      exact this
    have HH := Lib.hid (And.intro hS (And.intro h3 (And.intro h4 (And.intro hOR (And.intro hNT hSM)))))
    have g1 : decide ((y : Int) < (x : Int)) = false := by simp; omega
    have g1' : decide (y < x) = false := by simp; omega
    have wx : IntKind.i32.wrap (97 + (x : Int)) = 97 + x := by unfold IntKind.wrap; simp [IntKind.bits, IntKind.signed]; omega
    have wy : IntKind.i32.wrap (97 + (y : Int)) = 97 + y := by unfold IntKind.wrap; simp [IntKind.bits, IntKind.signed]; omega
    have wz : IntKind.i32.wrap (97 + (z : Int)) = 97 + z := by unfold IntKind.wrap; simp [IntKind.bits, IntKind.signed]; omega
    clear hS h3 h4 hT hlt hN hM hor hnt hNi z1 z2 hOR hNT hSM
    go_enter Tryz.func3, Tryz.ntmps3
    go_wp2_with fail
    go_quiet (fail)
    go_wp2_with fail
    rw [← HH.out.1]
    refine (HH.out.2.1 _).mono ?_
    rintro e w1 ⟨u1, rfl, hown1, hb1⟩
    obtain ⟨o1, k1, rfl⟩ := owns_slice hown1
    have H1 := Lib.hid (And.intro (Row.owned hown1) (bel_then (below_drewN (Below.refl _ _) _) hb1))
    clear hown1 hb1
    go_wp2_with fail
    refine (HH.out.2.2.1 _).mono ?_
    rintro e w2 ⟨u2, rfl, hown2, hb2⟩
    obtain ⟨o2, k2, rfl⟩ := owns_slice hown2
    have H2 := Lib.hid (And.intro (Row.owned hown2) hb2)
    clear hown2 hb2
    go_wp2_with fail
    have rA : Row ((w2.alloc (.cells #[.int .i32 (97 + (x : Int)), .int .i32 (97 + (y : Int))] 29)).alloc (.cells #[.int .i32 (97 + (z : Int)), .int .i32 (97 + (z : Int))] 29)) (.slice (some ⟨w2.heap.size, 0, none⟩) 1 1) 1 (flatK .i32 [((97 : Int) + x, (97 : Int) + y)]) :=
      (Row.lit2 w2 29 [((97 : Int) + x, (97 : Int) + y)] _ 1 _ rfl rfl (by decide)).below (bel_new (Below.refl _ _) _)
    have rB : Row ((w2.alloc (.cells #[.int .i32 (97 + (x : Int)), .int .i32 (97 + (y : Int))] 29)).alloc (.cells #[.int .i32 (97 + (z : Int)), .int .i32 (97 + (z : Int))] 29)) (.slice (some ⟨w2.heap.size + 1, 0, none⟩) 1 1) 1 (flatK .i32 [((97 : Int) + z, (97 : Int) + z)]) :=
      Row.lit2 _ 29 [((97 : Int) + z, (97 : Int) + z)] _ 1 _ rfl (by simp) (by decide)
    refine (HH.out.2.2.2.1 _ _ _ rA rB).mono ?_
    clear rA rB
    rintro e w3 ⟨u3, rfl, hown3, hb3⟩
    obtain ⟨o3, k3, rfl⟩ := owns_slice hown3
    have hB3 : Below w2.heap.size w2 w3 := bel_then (bel_new (bel_new (Below.refl _ w2) _) _) hb3
    have hB13 : Below w1.heap.size w1 w3 := bel_then H2.out.2 hB3
    have r1 := H1.out.1.below hB13
    have r2 := H2.out.1.below hB3
    have H3 := Lib.hid (And.intro r1 (And.intro r2 (And.intro (Row.owned hown3) (bel_then H1.out.2 hB13))))
    clear hown3 hb3 hB3 hB13 r1 r2
    go_wp2_with (first
      | (go_at_call 5; refine (told_any _).mono ?_; rintro e w4 ⟨rfl, hb4⟩)
      | (go_at_call_of 7 (Value.slice o1 N.length k1); refine (HH.out.2.2.2.2.2 N _ _ _ hNl (H3.out.1.below hb4) (H3.out.2.2.1.below hb4)).mono ?_; rintro e w5 ⟨rfl, hb5⟩; have hb45 := bel_then hb4 hb5)
      | (go_at_call 8; refine (HH.out.2.2.2.2.1 _ _ (H3.out.2.2.1.below hb45)).mono ?_; rintro e w6 ⟨u6, rfl, hown6, hb6⟩; have r6 := Row.owned hown6; have hb46 := bel_then hb45 hb6)
      | (go_at_call_of 7 (Value.slice o2 M.length k2); refine (HH.out.2.2.2.2.2 M _ _ _ hMl (H3.out.2.1.below hb46) r6).mono ?_; rintro e w7 ⟨rfl, hb7⟩))
    go_ret
    exact ⟨rfl, bel_then H3.out.2.2.2 (bel_then hb46 hb7)⟩
end Go.Proofs.YtkngppkchaadhaaGreat
