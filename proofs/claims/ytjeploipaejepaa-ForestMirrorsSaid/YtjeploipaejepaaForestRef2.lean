/- The reference's alone, Open, Lost, Well, Deep. -/
import Derived.Test.YtjeploipaejepaaForestRef
set_option linter.unusedVariables false
set_option linter.unusedSimpArgs false
namespace Go.Proofs.Ytjeploipaejepaa
open Go.RowKit Fo

set_option maxHeartbeats 1000000 in
set_option maxRecDepth 1000000 in
theorem refAlone_any (l : List (Int × Int)) (K : Int) (v : Value) (w : World) (hr : Syms w v l) (hn : l.length ≤ 100000) :
    Calls Try.prog 48 #[v, .int .i64 K] w fun e w' => ∃ u, e = .returned u ∧ w'.ownsRow w.heap.size 3 1 u (alone l K).length ((alone l K).map (Value.int .i64)) ∧ Below w.heap.size w w' := by
  obtain ⟨i0, hi, hz0, hz1, hz2⟩ := infoInt
  have hpairs := fun (w : World) hr => refPairs_any l v w hr hn
  have hr0 := hr
  obtain ⟨o, cap, rfl, hcap, hmax, hrow⟩ := hr
  have Hr := Lib.hid hrow
  clear hrow
  go_enter Try.func48, Try.ntmps48
  go_wp2_with fail
  refine (hpairs _ hr0).mono ?_
  rintro e w1 ⟨u, rfl, hown1, hb1⟩
  obtain ⟨ou, cu, rfl⟩ := owns_slice hown1
  have hru := Row.owned hown1
  obtain ⟨ou', cu', e', _, _, hrowu⟩ := hru
  simp only [Value.slice.injEq, true_and] at e'
  obtain ⟨rfl, rfl⟩ := e'
  have Hu := Lib.hid hrowu
  have hb1s := hb1.size
  clear hrowu hown1 hpairs hr0
  go_wp2_with fail
  go_loopw [6, 7] (fun x i wr => ∃ k : Nat, k ≤ l.length ∧ i = .int .i64 k ∧ wr.ownsRow w1.heap.size 3 1 x (alo (kns l) K l.length k).length (((alo (kns l) K l.length k).map fun n : Nat => (n : Int)).map (Value.int .i64)) ∧ Below w1.heap.size w1 wr)
    (fun _ i _ => l.length - (intOf i).toNat)
  case atStart => exact ⟨0, Nat.zero_le _, rfl, World.ownsRow_nil _ _ _ _, Below.refl _ _⟩
  case round =>
    obtain ⟨k, hk, rfl, hown, hbel⟩ := hrel
    have hle := alo_le (kns l) K l.length k
    have hbs := hbel.size
    by_cases hkl : k < l.length
    · rcases Hr.out with ⟨h0, _⟩ | ⟨bl, off, rfl, hlt, hcell⟩
      · omega
      rcases Hu.out with ⟨h0, _⟩ | ⟨bu, offu, rfl, hltu, hcellu⟩
      · omega
      have c2 := hcell _ _ (flat_get l k hkl).2
      rw [← hb1.cell hlt, ← hbel.cell (Nat.lt_of_lt_of_le hlt hb1s), ← Nat.add_assoc] at c2
      have c3 := hcellu _ _ (prsRow_get l k hkl)
      rw [← hbel.cell hltu] at c3
      obtain ⟨kind, hkind⟩ : ∃ x, x = (kns l).getD k 0 := ⟨_, rfl⟩
      obtain ⟨pk, hpk⟩ : ∃ x, x = prs (kns l) l.length k := ⟨_, rfl⟩
      rw [← hkind] at c2
      rw [← hpk] at c3
      have hs := alo_succ (kns l) K l.length k
      rw [← hkind, ← hpk] at hs
      have HS := Lib.hid hs
      clear hcell hcellu hkind hpk hs
      by_cases h1 : pk < 0 ∧ kind = K
      · have h1a := h1.1
        have h1b := h1.2
        subst h1b
        go_wp2_with (first
          | (at_builtin; refine wpList_append_own _ rfl _ _ 23 rfl w1.heap.size 3 i0 (.int .i64 0) 1 8 Try.underlying23 hi hz0 hz1 hz2 rfl (by decide) _ _ _ rfl (hown.alloc _) ⟨wr.heap.size, 0, none⟩ 1 1 [.int .i64 k] rfl rfl ?c1 ?c2 ?c3 ?c4 ?c5 ?_)
          | go_in)
        any_goals (first | rfl | omega | (unfold maxLen; omega) | (simp; omega; done) | (intro u hu; simp at hu; subst hu; rfl))
        intro v' w4 hown' hgrow _
        have hB1 : Below w1.heap.size w1 w4 := (hbel.alloc hbel.size _).grown hgrow (by have := hbel.size; simp; omega) (fun j hj => (hown.lt j hj).1)
        have hs := HS.out
        rw [if_pos h1] at hs
        have HE := Lib.hid hs
        clear hgrow hown hbel c2 c3 h1 hs HS
        go_wp2
        go_roundw
        case rel => exact ⟨k + 1, by omega, by go_num, by rw [HE.out]; simpa using hown', hB1⟩
        case measure => simp [intOf]; omega
      · have hs := HS.out
        rw [if_neg h1] at hs
        have HE := Lib.hid hs
        have h2 : ¬ kind = K ∨ (kind = K ∧ ¬ pk < 0) := by
          by_cases h : kind = K
          · exact .inr ⟨h, fun h3 => h1 ⟨h3, h⟩⟩
          · exact .inl h
        clear h1 hs HS
        rcases h2 with h2 | ⟨h2, h3⟩
        all_goals (
          go_wp2
          go_roundw
          case rel => exact ⟨k + 1, by omega, by go_num, by rw [HE.out]; exact hown, hbel⟩
          case measure => simp [intOf]; omega)
    · have hkn : k = l.length := by omega
      subst hkn
      go_wp2
      go_ret
      refine ⟨_, rfl, ?_, bel_then hb1 hbel⟩
      rw [alone_len]
      exact owns_base hown hb1s
theorem refOpen_any (l : List (Int × Int)) (v : Value) (w : World) (hr : Syms w v l) (hn : l.length ≤ 100000) :
    Calls Try.prog 34 #[v] w fun e w' => ∃ u, e = .returned u ∧ w'.ownsRow w.heap.size 3 1 u (alone l 1).length ((alone l 1).map (Value.int .i64)) ∧ Below w.heap.size w w' := by
  have hx := fun (w : World) hr => refAlone_any l 1 v w hr hn
  go_enter Try.func34, Try.ntmps34
  go_wp2_with fail
  refine (hx _ hr).mono ?_
  rintro e w1 ⟨u, rfl, h1, h2⟩
  go_wp2
  go_ret
  exact ⟨_, rfl, h1, h2⟩
theorem refLost_any (l : List (Int × Int)) (v : Value) (w : World) (hr : Syms w v l) (hn : l.length ≤ 100000) :
    Calls Try.prog 36 #[v] w fun e w' => ∃ u, e = .returned u ∧ w'.ownsRow w.heap.size 3 1 u (alone l 2).length ((alone l 2).map (Value.int .i64)) ∧ Below w.heap.size w w' := by
  have hx := fun (w : World) hr => refAlone_any l 2 v w hr hn
  go_enter Try.func36, Try.ntmps36
  go_wp2_with fail
  refine (hx _ hr).mono ?_
  rintro e w1 ⟨u, rfl, h1, h2⟩
  go_wp2
  go_ret
  exact ⟨_, rfl, h1, h2⟩
set_option maxHeartbeats 1000000 in
theorem refWell_any (l : List (Int × Int)) (v : Value) (w : World) (hr : Syms w v l) (hn : l.length ≤ 100000) :
    Calls Try.prog 37 #[v] w fun e w' => e = .returned (.bool (wellB l)) ∧ Below w.heap.size w w' := by
  have hx := fun (w : World) hr => refOpen_any l v w hr hn
  have hy := fun (w : World) hr => refLost_any l v w hr hn
  by_cases h0 : (alone l 1).length = 0
  · obtain ⟨n2, hn2⟩ : ∃ n, n = (alone l 2).length := ⟨_, rfl⟩
    have e : wellB l = decide (n2 = 0) := by unfold wellB; rw [hn2]; simp [h0]
    have E := Lib.hid (And.intro e (And.intro hn2 h0))
    rw [e]
    clear e h0 hn2
    by_cases h2 : n2 = 0
    · subst h2
      go_enter Try.func37, Try.ntmps37
      go_wp2_with fail
      refine (hx _ hr).mono ?_
      rintro e w1 ⟨u, rfl, h1, hb1⟩
      rw [E.out.2.2] at h1
      obtain ⟨o1, c1, rfl⟩ := owns_slice h1
      clear h1
      go_wp2_with fail
      refine (hy _ (hr.below hb1)).mono ?_
      rintro e w2 ⟨u2, rfl, h2, hb2⟩
      rw [← E.out.2.1] at h2
      obtain ⟨o2, c2, rfl⟩ := owns_slice h2
      have hB := bel_then hb1 hb2
      clear h2
      go_wp2
      go_ret
      exact ⟨by simp, hB⟩
    · go_enter Try.func37, Try.ntmps37
      go_wp2_with fail
      refine (hx _ hr).mono ?_
      rintro e w1 ⟨u, rfl, h1, hb1⟩
      rw [E.out.2.2] at h1
      obtain ⟨o1, c1, rfl⟩ := owns_slice h1
      clear h1
      go_wp2_with fail
      refine (hy _ (hr.below hb1)).mono ?_
      rintro e w2 ⟨u2, rfl, h2', hb2⟩
      rw [← E.out.2.1] at h2'
      obtain ⟨o2, c2, rfl⟩ := owns_slice h2'
      have hB := bel_then hb1 hb2
      clear h2'
      go_wp2
      go_ret
      exact ⟨by simp [h2], hB⟩
  · obtain ⟨n1, hn1⟩ : ∃ n, n = (alone l 1).length := ⟨_, rfl⟩
    have e : wellB l = false := by unfold wellB; simp [h0]
    rw [← hn1] at h0
    have E := Lib.hid hn1
    rw [e]
    clear e hn1
    go_enter Try.func37, Try.ntmps37
    go_wp2_with fail
    refine (hx _ hr).mono ?_
    rintro e w1 ⟨u, rfl, h1, hb1⟩
    rw [← E.out] at h1
    obtain ⟨o1, c1, rfl⟩ := owns_slice h1
    clear h1
    go_wp2
    go_ret
    exact ⟨by simp [h0], hb1⟩

end Go.Proofs.Ytjeploipaejepaa
