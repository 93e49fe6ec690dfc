/- forest: Open, Lost, Well, Deep. -/
import Derived.Test.YtjeploipaejepaaForestAlone
set_option linter.unusedVariables false
set_option linter.unusedSimpArgs false
namespace Go.Proofs.Ytjeploipaejepaa
open Go.RowKit Fo

theorem open_any (l : List (Int × Int)) (v : Value) (w : World) (hr : Syms w v l) (hn : l.length ≤ 100000) :
    Calls Try.prog 33 #[v] w fun e w' => ∃ u, e = .returned u ∧ w'.ownsRow w.heap.size 3 1 u (alone l 1).length ((alone l 1).map (Value.int .i64)) ∧ Below w.heap.size w w' := by
  have hx := fun (w : World) hr => alone_any l 1 v w hr hn
  go_enter Try.func33, Try.ntmps33
  go_wp2_with fail
  refine (hx _ hr).mono ?_
  rintro e w1 ⟨u, rfl, h1, h2⟩
  go_wp2
  go_ret
  exact ⟨_, rfl, h1, h2⟩
theorem lost_any (l : List (Int × Int)) (v : Value) (w : World) (hr : Syms w v l) (hn : l.length ≤ 100000) :
    Calls Try.prog 35 #[v] w fun e w' => ∃ u, e = .returned u ∧ w'.ownsRow w.heap.size 3 1 u (alone l 2).length ((alone l 2).map (Value.int .i64)) ∧ Below w.heap.size w w' := by
  have hx := fun (w : World) hr => alone_any l 2 v w hr hn
  go_enter Try.func35, Try.ntmps35
  go_wp2_with fail
  refine (hx _ hr).mono ?_
  rintro e w1 ⟨u, rfl, h1, h2⟩
  go_wp2
  go_ret
  exact ⟨_, rfl, h1, h2⟩
/-- is a word balanced? -/
def wellB (l : List (Int × Int)) : Bool := decide ((alone l 1).length = 0) && decide ((alone l 2).length = 0)
set_option maxHeartbeats 1000000 in
theorem well_any (l : List (Int × Int)) (v : Value) (w : World) (hr : Syms w v l) (hn : l.length ≤ 100000) :
    Calls Try.prog 26 #[v] w fun e w' => e = .returned (.bool (wellB l)) ∧ Below w.heap.size w w' := by
  have hx := fun (w : World) hr => open_any l v w hr hn
  have hy := fun (w : World) hr => lost_any l v w hr hn
  by_cases h0 : (alone l 1).length = 0
  · obtain ⟨n2, hn2⟩ : ∃ n, n = (alone l 2).length := ⟨_, rfl⟩
    have e : wellB l = decide (n2 = 0) := by unfold wellB; rw [hn2]; simp [h0]
    have E := Lib.hid (And.intro e (And.intro hn2 h0))
    rw [e]
    clear e h0 hn2
    by_cases h2 : n2 = 0
    · subst h2
      go_enter Try.func26, Try.ntmps26
      go_wp2_with fail
      refine (hx _ hr).mono ?_
      rintro e w1 ⟨u, rfl, h1, hb1⟩
      rw [E.out.2.2] at h1
      obtain ⟨o1, c1, rfl⟩ := owns_slice h1
      clear h1
      go_wp2_with fail
      refine (hy _ (hr.below hb1)).mono ?_
      rintro e w2 ⟨u2, rfl, h2, hb2⟩
      rw [← E.out.2.1] at h2
      obtain ⟨o2, c2, rfl⟩ := owns_slice h2
      have hB := bel_then hb1 hb2
      clear h2
      go_wp2
      go_ret
      exact ⟨by simp, hB⟩
    · go_enter Try.func26, Try.ntmps26
      go_wp2_with fail
      refine (hx _ hr).mono ?_
      rintro e w1 ⟨u, rfl, h1, hb1⟩
      rw [E.out.2.2] at h1
      obtain ⟨o1, c1, rfl⟩ := owns_slice h1
      clear h1
      go_wp2_with fail
      refine (hy _ (hr.below hb1)).mono ?_
      rintro e w2 ⟨u2, rfl, h2', hb2⟩
      rw [← E.out.2.1] at h2'
      obtain ⟨o2, c2, rfl⟩ := owns_slice h2'
      have hB := bel_then hb1 hb2
      clear h2'
      go_wp2
      go_ret
      exact ⟨by simp [h2], hB⟩
  · obtain ⟨n1, hn1⟩ : ∃ n, n = (alone l 1).length := ⟨_, rfl⟩
    have e : wellB l = false := by unfold wellB; simp [h0]
    rw [← hn1] at h0
    have E := Lib.hid hn1
    rw [e]
    clear e hn1
    go_enter Try.func26, Try.ntmps26
    go_wp2_with fail
    refine (hx _ hr).mono ?_
    rintro e w1 ⟨u, rfl, h1, hb1⟩
    rw [← E.out] at h1
    obtain ⟨o1, c1, rfl⟩ := owns_slice h1
    clear h1
    go_wp2
    go_ret
    exact ⟨by simp [h0], hb1⟩

set_option maxHeartbeats 1000000 in
set_option maxRecDepth 1000000 in
theorem deep_any (l : List (Int × Int)) (v : Value) (w : World) (hr : Syms w v l) (hn : l.length ≤ 100000) :
    Calls Try.prog 27 #[v] w fun e w' => e = .returned (.int .i64 (dp (kns l) l.length)) ∧ Below w.heap.size w w' := by
  obtain ⟨o, cap, rfl, hcap, hmax, hrow⟩ := hr
  have Hr := Lib.hid hrow
  clear hrow
  go_enter Try.func27, Try.ntmps27
  go_wp2_with fail
  refine (matcherE_any _).mono ?_
  rintro e w1 ⟨qa, qo, rfl, hmat, hqa, hqo, hqa1, hqo1, hb1⟩
  have hM := hmat w1.heap.size (Nat.le_refl _) w1 (Below.refl _ _) (Nat.le_refl _)
  obtain ⟨b, hb⟩ : ∃ b, b = w1.heap.size := ⟨_, rfl⟩
  have hbw : w.heap.size ≤ b := by have := hb1.size; omega
  rw [← hb] at hM hqa1 hqo1
  have hM0 : Mat w1 b qa qo 0 (stk (kns l) 0) := hM
  have HH := Lib.hid (And.intro hM0 hb1)
  clear hb hM hM0 hmat hb1
  go_wp2_with fail
  go_loopw [4, 12] (fun m i wr => ∃ k : Nat, k ≤ l.length ∧ i = .int .i64 k ∧ m = .int .i64 (dp (kns l) k) ∧ Mat wr b qa qo k (stk (kns l) k) ∧ Below w.heap.size w wr)
    (fun _ i _ => l.length - (intOf i).toNat)
  case atStart => exact ⟨0, Nat.zero_le _, rfl, rfl, HH.out.1, HH.out.2⟩
  case round =>
    obtain ⟨k, hk, rfl, rfl, hM, hbel⟩ := hrel
    by_cases hkl : k < l.length
    · rcases Hr.out with ⟨h0, _⟩ | ⟨bl, off, rfl, hlt, hcell⟩
      · omega
      obtain ⟨hc1, hc2⟩ := flat_get l k hkl
      have c1 := hcell _ _ hc1
      have c2 := hcell _ _ hc2
      rw [← hbel.cell hlt] at c1 c2
      rw [← Nat.add_assoc] at c2
      obtain ⟨tok, htok⟩ : ∃ x, x = (tks l).getD k 0 := ⟨_, rfl⟩
      obtain ⟨kind, hkind⟩ : ∃ x, x = (kns l).getD k 0 := ⟨_, rfl⟩
      rw [← htok] at c1
      rw [← hkind] at c2
      have hdp := dp_le (kns l) k
      obtain ⟨dk, hdk⟩ : ∃ x, x = dp (kns l) k := ⟨_, rfl⟩
      rw [← hdk] at hdp ⊢
      have hsl := stk_len (kns l) (k + 1)
      obtain ⟨sl, hsl'⟩ : ∃ x, x = (stk (kns l) (k + 1)).length := ⟨_, rfl⟩
      rw [← hsl'] at hsl
      have hd : dp (kns l) (k + 1) = max dk sl := by simp only [dp]; rw [← hdk, ← hsl']
      have HK := Lib.hid (And.intro hkind (And.intro hsl' hd))
      have HM := Lib.hid (And.intro hM hbel)
      clear hcell hc1 hc2 htok hkind hM hbel hdk hsl' hd
      go_wp2_with fail
      obtain ⟨hM, hbel⟩ := HM.out
      refine (next_any b qa qo k (stk (kns l) k) tok kind _ (mat_alloc hM _) (by omega) (by have := stk_len (kns l) k; omega)).mono ?_
      rintro e w3 ⟨rfl, hM3, hbt⟩
      have hbel3 : Below w.heap.size w w3 := (hbel.alloc hbel.size _).trans (but_below hbt hbw hqa hqo)
      have hn1 := (outAt_next (kns l) l.length k hkl).1
      rw [← HK.out.1] at hn1
      rw [hn1] at hM3 ⊢
      rw [← HK.out.2.1]
      have HS := Lib.hid (And.intro hM3 hbel3)
      clear hM hbel hbt c1 c2 hM3 hbel3 hn1
      go_wp2
      go_roundw
      case rel => exact ⟨k + 1, by omega, by go_num, by rw [HK.out.2.2]; congr 1; omega, HS.out.1, HS.out.2⟩
      case measure => simp [intOf]; omega
    · have hkn : k = l.length := by omega
      subst hkn
      go_wp2
      go_ret
      exact ⟨rfl, hbel⟩
end Go.Proofs.Ytjeploipaejepaa
