/- decode, the reference: items, All, Fed, Put, Scalar. -/
import Derived.Test.YtkngppkchaadhaaDecRef2W
set_option linter.unusedVariables false
set_option linter.unusedSimpArgs false
namespace Go.Proofs.Ytkngppkchaadhaa
open Go.RowKit De

/-- the items that are told: all of them, or those that are whole by now -/
def itsA (full : Bool) (a : Nat) (l : List Int) : List (Nat × It) := if full = true then all a l else (wh a l).1
theorem itsA_nil (full : Bool) (a : Nat) : itsA full a [] = [] := by unfold itsA; split <;> simp [all_nil, wh_nil]
theorem itsA_cons (full : Bool) (a : Nat) (l : List Int) (hl : l ≠ []) (h : (De.one l).opn = false ∨ full = true) : itsA full a l = (a, De.one l) :: itsA full (a + (De.one l).n) (l.drop (De.one l).n) := by
  unfold itsA
  split
  · exact all_cons a l hl
  · rename_i hf
    rcases h with h | h
    · rw [wh_cons hl h]
    · exact absurd h hf
theorem itsA_stop (a : Nat) (l : List Int) (h : (De.one l).opn = true) : itsA false a l = [] := by
  unfold itsA; rw [if_neg (by simp), wh_open h]
theorem itsA_len (full : Bool) (a : Nat) (l : List Int) : (itsA full a l).length ≤ l.length := by
  unfold itsA; split
  · exact all_len a l
  · exact wh_len a l

set_option maxHeartbeats 4000000 in
set_option maxRecDepth 1000000 in
theorem refItems_any (s : ByteArray) (full : Bool) (w : World) (hs : s.size ≤ 100000) :
    Calls Try.prog 39 #[.string s, .bool full] w fun e w' => ∃ u, e = .returned u ∧ w'.ownsRow w.heap.size 54 5 u (itsA full 0 (sb s)).length (itsc (itsA full 0 (sb s))) ∧ Below w.heap.size w w' := by
  obtain ⟨ii, hi, hz0, hz1, hz2⟩ := infoItem
  have hsb := sb_len s
  have HS := Lib.hid hsb
  clear hsb
  go_enter Try.func39, Try.ntmps39
  go_wp2_with fail
  go_loopw [5, 6] (fun u i wr => ∃ (k : Nat) (A : List (Nat × It)), k ≤ s.size ∧ i = .int .i64 k ∧ wr.ownsRow w.heap.size 54 5 u A.length (itsc A) ∧ Below w.heap.size w wr ∧ A.length ≤ k ∧
      itsA full 0 (sb s) = A ++ itsA full k ((sb s).drop k))
    (fun _ i _ => s.size - (intOf i).toNat)
  case atStart => exact ⟨0, [], Nat.zero_le _, rfl, World.ownsRow_nil _ _ _ _, Below.refl _ _, Nat.le_refl _, by simp⟩
  case round =>
    obtain ⟨k, A, hk, rfl, hown, hbel, hAk, hwh⟩ := hrel
    obtain ⟨wo, rfl⟩ : ∃ wo : World, wo = wr := ⟨_, rfl⟩
    by_cases hkt : k < s.size
    · obtain ⟨x, hx⟩ : ∃ x, x = De.one ((sb s).drop k) := ⟨_, rfl⟩
      have hn := one_n ((sb s).drop k)
      have hne : (sb s).drop k ≠ [] := by rw [sb_drop s k hkt]; simp
      have hdl : ((sb s).drop k).length = s.size - k := by rw [List.length_drop, HS.out]
      have hnl : x.n ≤ s.size - k := by rw [hx, ← hdl]; exact hn.2.2 hne
      have hn1 : 1 ≤ x.n := by rw [hx]; exact hn.1
      have hc := refOne_any s k wo hkt (by omega)
      rw [← hx] at hc
      obtain ⟨ov, cv, rfl⟩ := owns_slice hown
      have HW := Lib.hid (And.intro hwh (And.intro hne (And.intro hdl hx)))
      have HO := Lib.hid (And.intro hown hbel)
      clear hwh hne hdl hx hown hbel hn
      go_wp2_with fail
      refine hc.mono ?_
      rintro e w1 ⟨rfl, hb1⟩
      have hB1 : Below w.heap.size w w1 := HO.out.2.trans (hb1.mono HO.out.2.size)
      have hown1 := owns_below HO.out.1 hb1
      have hsz := hB1.size
      clear hc
      obtain ⟨r, n, bad, more, opn⟩ := x
      simp only at hnl hn1
      by_cases hstop : opn = true ∧ full = false
      · obtain ⟨rfl, rfl⟩ := hstop
        have HO2 := Lib.hid (And.intro hown1 hB1)
        clear hown1 hB1 hb1
        go_wp2
        go_ret
        have h := HW.out.1
        have hop : (De.one ((sb s).drop k)).opn = true := by rw [← HW.out.2.2.2]
        rw [itsA_stop _ _ hop, List.append_nil] at h
        rw [h]
        exact ⟨_, rfl, by simpa using HO2.out.1.alloc _, HO2.out.2.alloc (by omega) _⟩
      · have hcase : opn = false ∨ (opn = true ∧ full = true) := by cases opn <;> cases full <;> simp_all
        clear hstop
        rcases hcase with rfl | ⟨rfl, rfl⟩
        all_goals (
          go_wp2_with (at_builtin; refine wpList_append_row _ rfl _ _ 51 rfl w.heap.size 54 ii (.agg #[.int .i32 0, .int .i64 0, .int .i64 0, .bool false, .bool false]) 5 32 Try.underlying51 hi hz0 hz1 hz2 rfl (by decide) _ _ _ rfl ((hown1.alloc _).alloc _) _ 1 [.int .i32 r, .int .i64 (k : Int), .int .i64 ((k : Int) + n), .bool bad, .bool more] rfl (rowNew5 _ _ _ _ _ _ _ _ (by simp)) rfl (by simp [Value.oneCell']) (by unfold maxLen; omega) (by omega) (by simp; omega) ?_; intro v' w2 hown2 hgrow2; have q5 := grown_item hgrow2 (fun j hj => (hown1.lt j hj).2); obtain ⟨⟨_, i1, i2, _, _⟩, _⟩ := cell5_of q5; have q6 : Below w.heap.size w w2 := ((hB1.alloc (by omega) _).alloc (by simp; omega) _).grown hgrow2 (by simp; omega) (fun j hj => (hown1.lt j hj).1); clear q5)
          have H3 := Lib.hid (And.intro hown2 q6)
          clear hown2 q6 hgrow2 hown1 hB1 hb1
          go_roundw
          case rel =>
            refine ⟨k + n, A ++ [(k, De.one ((sb s).drop k))], by omega, int_eq (by simp), ?_, H3.out.2, by simp; omega, ?_⟩
            · have h := H3.out.1
              rw [itsc_append, List.length_append, ← HW.out.2.2.2]
              simpa [itsc, itc] using h
            · have h := HW.out.1
              have hx := HW.out.2.2.2
              have hn' : (De.one ((sb s).drop k)).n = n := by rw [← hx]
              rw [itsA_cons _ _ _ HW.out.2.1 (by rw [← hx]; simp), hn', List.drop_drop] at h
              rw [h]
              simp only [List.append_assoc, List.singleton_append]
          case measure => simp [intOf] <;> omega)
    · have hkn : k = s.size := by omega
      subst hkn
      have HW := Lib.hid hwh
      obtain ⟨ov, cv, rfl⟩ := owns_slice hown
      have HO := Lib.hid (And.intro hown hbel)
      clear hwh hown
      go_wp2
      go_ret
      have h := HW.out
      rw [List.drop_eq_nil_of_le (by rw [HS.out]; omega), itsA_nil, List.append_nil] at h
      rw [h]
      exact ⟨_, rfl, HO.out.1, HO.out.2⟩

theorem refAll_any (s : ByteArray) (w : World) (hs : s.size ≤ 100000) :
    Calls Try.prog 18 #[.string s] w fun e w' => ∃ u, e = .returned u ∧ w'.ownsRow w.heap.size 54 5 u (all 0 (sb s)).length (itsc (all 0 (sb s))) ∧ Below w.heap.size w w' := by
  go_enter Try.func18, Try.ntmps18
  go_wp2_with fail
  refine (refItems_any s true _ hs).mono ?_
  rintro e w' ⟨u, rfl, h, hb⟩
  go_wp2
  go_ret
  exact ⟨_, rfl, by simpa [itsA] using h, hb⟩
end Go.Proofs.Ytkngppkchaadhaa
