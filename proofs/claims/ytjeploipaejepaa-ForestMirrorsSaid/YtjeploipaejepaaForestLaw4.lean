/- The walk of ForestDeep. -/
import Derived.Test.YtjeploipaejepaaForestLaw2
import Derived.Test.YtjeploipaejepaaForestWords
set_option linter.unusedVariables false
set_option linter.unusedSimpArgs false
namespace Go.Proofs.Ytjeploipaejepaa
open Go.RowKit Fo

theorem news2 (X : World) (c0 c1 : Value) (t : TypeId) (n : Nat) (hn : n = X.heap.size) : ∀ (j : Nat) (u : Value), [c0, c1][j]? = some u → (X.alloc (.cells #[c0, c1] t)).cell? ((⟨n, 0, none⟩ : Addr).add j) = some u := by
  intro j u hj
  have hb : (X.alloc (.cells #[c0, c1] t)).heap[n]? = some (.cells #[c0, c1] t (0, 0)) := by rw [hn]; exact heap_alloc_new X _
  match j, hj with
  | 0, hj => simp at hj; subst hj; simp [Addr.add, World.cell?, hb]
  | 1, hj => simp at hj; subst hj; simp [Addr.add, World.cell?, hb]

/-- the law's end: a word whose answers are known -/
def endsWell (l : List (Int × Int)) (k want : Nat) : Prop := l.length = 2 * k ∧ wellB l = true ∧ dp (kns l) l.length = want

set_option maxHeartbeats 4000000 in
set_option maxRecDepth 1000000 in
theorem forestDeep_walk (a : Int) (b : Bool) (ha : (Lit.int .i64 a).wf = true) (w : World) :
    Calls Try.prog 7 #[.int .i64 a, .bool b] w fun e w' => e = .returned (.bool true) ∧ Below w.heap.size w w' := by
  clear ha
  obtain ⟨i0, hi, hz0, hz1, hz2⟩ := infoSym
  obtain ⟨k, hk, ek'⟩ := u64_mod' a 101 (by omega) (by omega)
  have ek : (IntKind.u64.wrap a).tmod 101 = (k : Int) := ek'
  clear ek'
  cases b with
  | true =>
    go_enter Try.func7, Try.ntmps7
    go_wp2_with fail
    go_loopw [6, 7] (fun u i wr => ∃ j : Nat, j ≤ k ∧ i = .int .i64 j ∧ wr.ownsRow w.heap.size 47 2 u (2 * j) (flat (wF fS (2 * j))) ∧ Below w.heap.size w wr) (fun _ i _ => k - (intOf i).toNat)
    case atStart => exact ⟨0, Nat.zero_le _, rfl, World.ownsRow_nil _ _ _ _, by repeat (first | exact Below.refl _ _ | assumption | (refine Below.drew ?_) | (refine below_drewN ?_ _) | (refine bel_new ?_ _) | (refine bel_then ?_ (by assumption)))⟩
    case round =>
      obtain ⟨j, hj, rfl, hown, hbel⟩ := hrel
      have hbs := hbel.size
      by_cases hjk : j < k
      · have e1 : flat (wF fS (2 * j + 1)) = flat (wF fS (2 * j)) ++ [.int .i64 0, .int .i64 1] := by rw [wF_flat]; simp [fS]
        have e2 : flat (wF fS (2 * (j + 1))) = flat (wF fS (2 * j + 1)) ++ [.int .i64 0, .int .i64 2] := by
          rw [show 2 * (j + 1) = 2 * j + 1 + 1 from by omega, wF_flat]; simp [fS] <;> omega
        have HE := Lib.hid (And.intro e1 e2)
        clear e1 e2
        go_wp2_with (first
          | (at_builtin; refine wpList_append_own _ rfl _ _ 45 rfl w.heap.size 47 i0 (.agg #[.int .i64 0, .int .i64 0]) 2 16 Try.underlying45 hi hz0 hz1 hz2 rfl (by decide) _ (2 * j) (flat (wF fS (2 * j))) rfl (hown.alloc _) ⟨wr.heap.size, 0, none⟩ 1 1 [.int .i64 0, .int .i64 1] rfl rfl (news2 _ _ _ _ _ rfl) (by intro u hu; simp at hu; rcases hu with rfl | rfl <;> rfl) (by unfold maxLen; omega) (by omega) (by simp; omega) ?_; intro v1 w1 hown1 hg1 _; have hB1 : Below w.heap.size w w1 := (hbel.alloc hbs _).grown hg1 (by simp; omega) (fun j hj => (hown.lt j hj).1); have hb1s := hB1.size)
          | (at_builtin; refine wpList_append_own _ rfl _ _ 45 rfl w.heap.size 47 i0 (.agg #[.int .i64 0, .int .i64 0]) 2 16 Try.underlying45 hi hz0 hz1 hz2 rfl (by decide) _ (2 * j + 1) (flat (wF fS (2 * j)) ++ [.int .i64 0, .int .i64 1]) rfl (hown1.alloc _) ⟨w1.heap.size, 0, none⟩ 1 1 [.int .i64 0, .int .i64 2] rfl rfl (news2 _ _ _ _ _ rfl) (by intro u hu; simp at hu; rcases hu with rfl | rfl <;> rfl) (by unfold maxLen; omega) (by omega) (by simp; omega) ?_; intro v2 w2 hown2 hg2 _; have hB2 : Below w.heap.size w w2 := (hB1.alloc hb1s _).grown hg2 (by simp; omega) (fun j hj => (hown1.lt j hj).1))
          | go_in)
        rw [← HE.out.1, ← HE.out.2] at hown2
        have HO := Lib.hid (And.intro hown2 hB2)
        clear hown hbel hown1 hg1 hB1 hown2 hg2 hB2
        go_wp2
        go_roundw
        case rel => exact ⟨j + 1, by omega, by go_num, HO.out.1, HO.out.2⟩
        case measure => simp [intOf] <;> omega
      · have hjk2 : j = k := by omega
        subst hjk2
        have hS : Syms wr u6 (wF fS (2 * j)) := by unfold Syms; rw [wF_len]; exact Row.owned hown
        obtain ⟨o6', c6', rfl⟩ := owns_slice hown
        have HQ := Lib.hid (And.intro hS hbel)
        clear hS hown hbel
        go_wp2_with fail
        go_loopw [6, 8] (fun u i wr2 => u = .slice o6' (2 * j) c6' ∧ i = .int .i64 0 ∧ wr2 = wr) (fun _ _ _ => 0)
        case atStart => exact ⟨rfl, rfl, rfl⟩
        case round =>
          obtain ⟨rfl, rfl, rfl⟩ := hrel
          have hk01 : j = 0 ∨ 0 < j := by omega
          rcases hk01 with h | h
          · subst h
            have hm0 : min (0 : Int) 1 = 0 := by decide
            have hd0 : ((min 0 1 : Nat) : Int) = 0 := by decide
            go_wp2_with fail
            refine (told15_any _).mono ?_
            rintro e w3 ⟨rfl, hb3⟩
            have hS3 := (HQ.out.1).below hb3
            have hB3 : Below w.heap.size w w3 := bel_then HQ.out.2 hb3
            clear hb3
            go_wp2_with fail
            refine (well_any (wF fS (2 * 0)) _ _ hS3 (by rw [wF_len]; omega)).mono ?_
            rintro e w4 ⟨rfl, hb4⟩
            rw [wellS 0]
            have hS4 := hS3.below hb4
            have hB4 : Below w.heap.size w w4 := bel_then hB3 hb4
            clear hb4 hS3 hB3
            go_wp2_with fail
            refine (deep_any (wF fS (2 * 0)) _ _ hS4 (by rw [wF_len]; omega)).mono ?_
            rintro e w5 ⟨rfl, hb5⟩
            rw [wF_len, deepS 0]
            have hS5 := hS4.below hb5
            have hB5 : Below w.heap.size w w5 := bel_then hB4 hb5
            clear hb5 hS4 hB4
            go_wp2_with fail
            refine (pairs_any (wF fS (2 * 0)) _ _ hS5 (by rw [wF_len]; omega)).mono ?_
            rintro e w6 ⟨u6', rfl, hown6, hb6⟩
            rw [wF_len] at hown6
            obtain ⟨o6, c6, rfl⟩ := owns_slice hown6
            have hB6 : Below w.heap.size w w6 := bel_then hB5 hb6
            clear hb6 hS5 hB5 hown6
            go_wp2
            go_ret
            exact ⟨by simp <;> omega, hB6⟩
          · have hm0 : min (j : Int) 1 = 1 := by omega
            have hd0 : ((min j 1 : Nat) : Int) = 1 := by omega
            go_wp2_with fail
            refine (told15_any _).mono ?_
            rintro e w3 ⟨rfl, hb3⟩
            have hS3 := (HQ.out.1).below hb3
            have hB3 : Below w.heap.size w w3 := bel_then HQ.out.2 hb3
            clear hb3
            go_wp2_with fail
            refine (well_any (wF fS (2 * j)) _ _ hS3 (by rw [wF_len]; omega)).mono ?_
            rintro e w4 ⟨rfl, hb4⟩
            rw [wellS j]
            have hS4 := hS3.below hb4
            have hB4 : Below w.heap.size w w4 := bel_then hB3 hb4
            clear hb4 hS3 hB3
            go_wp2_with fail
            refine (deep_any (wF fS (2 * j)) _ _ hS4 (by rw [wF_len]; omega)).mono ?_
            rintro e w5 ⟨rfl, hb5⟩
            rw [wF_len, deepS j]
            have hS5 := hS4.below hb5
            have hB5 : Below w.heap.size w w5 := bel_then hB4 hb5
            clear hb5 hS4 hB4
            go_wp2_with fail
            refine (pairs_any (wF fS (2 * j)) _ _ hS5 (by rw [wF_len]; omega)).mono ?_
            rintro e w6 ⟨u6', rfl, hown6, hb6⟩
            rw [wF_len] at hown6
            obtain ⟨o6, c6, rfl⟩ := owns_slice hown6
            have hB6 : Below w.heap.size w w6 := bel_then hB5 hb6
            clear hb6 hS5 hB5 hown6
            go_wp2
            go_ret
            exact ⟨by simp <;> omega, hB6⟩
  | false =>
    go_enter Try.func7, Try.ntmps7
    go_wp2_with fail
    go_loopw [6, 7] (fun u i wr => ∃ j : Nat, j ≤ k ∧ i = .int .i64 j ∧ wr.ownsRow w.heap.size 47 2 u j (flat (wF (fN k) j)) ∧ Below w.heap.size w wr) (fun _ i _ => k - (intOf i).toNat)
    case atStart => exact ⟨0, Nat.zero_le _, rfl, World.ownsRow_nil _ _ _ _, by repeat (first | exact Below.refl _ _ | assumption | (refine Below.drew ?_) | (refine below_drewN ?_ _) | (refine bel_new ?_ _) | (refine bel_then ?_ (by assumption)))⟩
    case round =>
      obtain ⟨j, hj, rfl, hown, hbel⟩ := hrel
      have hbs := hbel.size
      by_cases hjk : j < k
      · have e1 : flat (wF (fN k) (j + 1)) = flat (wF (fN k) j) ++ [.int .i64 0, .int .i64 1] := by rw [wF_flat]; simp [fN, hjk]
        have HE := Lib.hid e1
        clear e1
        go_wp2_with (first
          | (at_builtin; refine wpList_append_own _ rfl _ _ 45 rfl w.heap.size 47 i0 (.agg #[.int .i64 0, .int .i64 0]) 2 16 Try.underlying45 hi hz0 hz1 hz2 rfl (by decide) _ j (flat (wF (fN k) j)) rfl (hown.alloc _) ⟨wr.heap.size, 0, none⟩ 1 1 [.int .i64 0, .int .i64 1] rfl rfl (news2 _ _ _ _ _ rfl) (by intro u hu; simp at hu; rcases hu with rfl | rfl <;> rfl) (by unfold maxLen; omega) (by omega) (by simp; omega) ?_; intro v1 w1 hown1 hg1 _; have hB1 : Below w.heap.size w w1 := (hbel.alloc hbs _).grown hg1 (by simp; omega) (fun j hj => (hown.lt j hj).1))
          | go_in)
        rw [← HE.out] at hown1
        have HO := Lib.hid (And.intro hown1 hB1)
        clear hown hbel hown1 hg1 hB1
        go_wp2
        go_roundw
        case rel => exact ⟨j + 1, by omega, by go_num, HO.out.1, HO.out.2⟩
        case measure => simp [intOf] <;> omega
      · have hjk2 : j = k := by omega
        subst hjk2
        have HQ := Lib.hid (And.intro hown hbel)
        clear hown hbel
        go_wp2_with fail
        go_loopw [6, 8] (fun u i wr => ∃ m : Nat, m ≤ j ∧ i = .int .i64 m ∧ wr.ownsRow w.heap.size 47 2 u (j + m) (flat (wF (fN j) (j + m))) ∧ Below w.heap.size w wr) (fun _ i _ => j - (intOf i).toNat)
        case atStart => exact ⟨0, Nat.zero_le _, rfl, HQ.out.1, HQ.out.2⟩
        case round =>
          obtain ⟨m, hm, rfl, hown, hbel⟩ := hrel
          have hbs := hbel.size
          by_cases hmk : m < j
          · have e1 : flat (wF (fN j) (j + (m + 1))) = flat (wF (fN j) (j + m)) ++ [.int .i64 0, .int .i64 2] := by rw [← Nat.add_assoc, wF_flat]; simp [fN]
            have HE := Lib.hid e1
            clear e1
            go_wp2_with (first
              | (at_builtin; refine wpList_append_own _ rfl _ _ 45 rfl w.heap.size 47 i0 (.agg #[.int .i64 0, .int .i64 0]) 2 16 Try.underlying45 hi hz0 hz1 hz2 rfl (by decide) _ (j + m) (flat (wF (fN j) (j + m))) rfl (hown.alloc _) ⟨wr.heap.size, 0, none⟩ 1 1 [.int .i64 0, .int .i64 2] rfl rfl (news2 _ _ _ _ _ rfl) (by intro u hu; simp at hu; rcases hu with rfl | rfl <;> rfl) (by unfold maxLen; omega) (by omega) (by simp; omega) ?_; intro v1 w1 hown1 hg1 _; have hB1 : Below w.heap.size w w1 := (hbel.alloc hbs _).grown hg1 (by simp; omega) (fun j hj => (hown.lt j hj).1))
              | go_in)
            rw [← HE.out] at hown1
            have HO := Lib.hid (And.intro hown1 hB1)
            clear hown hbel hown1 hg1 hB1
            go_wp2
            go_roundw
            case rel => exact ⟨m + 1, by omega, by go_num, HO.out.1, HO.out.2⟩
            case measure => simp [intOf] <;> omega
          · have hmk2 : m = j := by omega
            subst hmk2
            have hS : Syms wr u6 (wF (fN m) (m + m)) := by unfold Syms; rw [wF_len]; exact Row.owned hown
            obtain ⟨o6', c6', rfl⟩ := owns_slice hown
            have HQ2 := Lib.hid (And.intro hS hbel)
            clear hS hown hbel
            go_wp2_with fail
            refine (told15_any _).mono ?_
            rintro e w3 ⟨rfl, hb3⟩
            have hS3 := (HQ2.out.1).below hb3
            have hB3 : Below w.heap.size w w3 := bel_then HQ2.out.2 hb3
            clear hb3
            go_wp2_with fail
            refine (well_any (wF (fN m) (m + m)) _ _ hS3 (by rw [wF_len]; omega)).mono ?_
            rintro e w4 ⟨rfl, hb4⟩
            rw [wellN m]
            have hS4 := hS3.below hb4
            have hB4 : Below w.heap.size w w4 := bel_then hB3 hb4
            clear hb4 hS3 hB3
            go_wp2_with fail
            refine (deep_any (wF (fN m) (m + m)) _ _ hS4 (by rw [wF_len]; omega)).mono ?_
            rintro e w5 ⟨rfl, hb5⟩
            rw [wF_len, deepN m]
            have hS5 := hS4.below hb5
            have hB5 : Below w.heap.size w w5 := bel_then hB4 hb5
            clear hb5 hS4 hB4
            go_wp2_with fail
            refine (pairs_any (wF (fN m) (m + m)) _ _ hS5 (by rw [wF_len]; omega)).mono ?_
            rintro e w6 ⟨u6', rfl, hown6, hb6⟩
            rw [wF_len] at hown6
            obtain ⟨o6, c6, rfl⟩ := owns_slice hown6
            have hB6 : Below w.heap.size w w6 := bel_then hB5 hb6
            clear hb6 hS5 hB5 hown6
            go_wp2
            go_ret
            exact ⟨by simp <;> omega, hB6⟩
end Go.Proofs.Ytjeploipaejepaa
