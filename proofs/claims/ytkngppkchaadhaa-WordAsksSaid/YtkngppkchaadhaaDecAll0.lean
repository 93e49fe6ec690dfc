/- decode: All alone (for seats without the decoder). -/
import Derived.Test.YtkngppkchaadhaaDecWhole
set_option linter.unusedVariables false
set_option linter.unusedSimpArgs false
namespace Go.Proofs.Ytkngppkchaadhaa
open Go.RowKit De

set_option maxHeartbeats 2000000 in
set_option maxRecDepth 1000000 in
theorem all_any (bs : List Int) (v : Value) (w : World) (hr : Row w v bs.length (bs.map (Value.int .u8))) (hu : ∀ x ∈ bs, 0 ≤ x ∧ x < 256) (hl : bs.length ≤ 1000000) :
    Calls Try.prog 21 #[v] w fun e w' => ∃ u, e = .returned u ∧ w'.ownsRow w.heap.size 54 5 u (all 0 bs).length (itsc (all 0 bs)) ∧ Below w.heap.size w w' := by
  obtain ⟨ii, hi, hz0, hz1, hz2⟩ := infoItem
  have HR := Lib.hid hr
  have HU := Lib.hid hu
  obtain ⟨o, cap, rfl, hcap, hmax, _⟩ := hr
  have hw := whole_any bs (.slice o bs.length cap) 0 w HR.out hu (by omega) hl
  have hrest := wh_rest 0 bs
  have hlen := wh_len 0 bs
  have HA : Hid (all 0 bs = (wh 0 bs).1 ++ (if (wh 0 bs).2 = [] then [] else [(0 + bs.length - (wh 0 bs).2.length, one (wh 0 bs).2)])) := Lib.hid rfl
  obtain ⟨A, R, hAR⟩ : ∃ A R, wh 0 bs = (A, R) := ⟨_, _, rfl⟩
  rw [hAR] at hw hrest hlen HA
  simp only at hw hrest hlen HA
  clear hAR hu
  obtain ⟨r1, r2, r3, r4⟩ := hrest
  go_enter Try.func21, Try.ntmps21
  go_wp2_with fail
  refine hw.mono ?_
  rintro e w1 ⟨u, rfl, hown, hb1⟩
  obtain ⟨ou, cu, rfl⟩ := owns_slice hown
  obtain ⟨k, hk⟩ : ∃ k, k = bs.length - R.length := ⟨_, rfl⟩
  have hkl : k ≤ bs.length := by omega
  rw [← hk]
  by_cases hR : R = []
  · subst hR
    simp only [List.length_nil, Nat.sub_zero] at hk
    have HO := Lib.hid (And.intro hown hb1)
    have hg : decide (k < bs.length) = false := by simp; omega
    clear hown hb1 r4 r3 hk
    go_wp2
    go_ret
    rw [HA.out]
    exact ⟨_, rfl, by simpa using HO.out.1, HO.out.2⟩
  · have hR1 : 0 < R.length := List.length_pos_iff.2 hR
    have hg : k < bs.length := by omega
    obtain ⟨o1, c1, hst, hsl⟩ := cutB_l o cap bs.length (bs.map (Value.int .u8)) (by simp) k hkl hcap
    have hrow := hsl w1 (HR.out.below hb1)
    rw [drop_map', show bs.drop k = R by rw [r4, hk]] at hrow
    have hl2 : bs.length - k = R.length := by omega
    have hc := one_L R hR (.slice o1 (bs.length - k) c1) k w1 (bs.length - k) hl2 hrow (fun y hy => HU.out y (by rw [r4] at hy; exact List.mem_of_mem_drop hy)) (by omega) (by omega)
    have HK := Lib.hid hk
    have HR4 := Lib.hid (And.intro r4 (And.intro r3 hl2))
    obtain ⟨x, hx⟩ : ∃ x, x = one R := ⟨_, rfl⟩
    rw [← hx] at hc
    have HX := Lib.hid hx
    clear hsl hrow r4 r3 hk hl2 hx
    go_wp2_with fail
    refine hc.mono ?_
    rintro e w2 ⟨rfl, hb2⟩
    have hown2 := owns_below hown hb2
    have hB2 : Below w.heap.size w w2 := hb1.trans (hb2.mono hb1.size)
    have hs2 := hB2.size
    clear hown hb1 hb2 hc hw
    go_wp2_with (at_builtin; refine wpList_append_row _ rfl _ _ 51 rfl w.heap.size 54 ii (.agg #[.int .i32 0, .int .i64 0, .int .i64 0, .bool false, .bool false]) 5 32 Try.underlying51 hi hz0 hz1 hz2 rfl (by decide) _ _ _ rfl ((hown2.alloc _).alloc _) _ 1 [.int .i32 x.r, .int .i64 (k : Int), .int .i64 ((k : Int) + x.n), .bool x.bad, .bool x.more] rfl (rowNew5 _ _ _ _ _ _ _ _ (by simp)) rfl (by simp [Value.oneCell']) (by unfold maxLen; omega) (by omega) (by simp; omega) ?_; intro v' w3 hown3 hgrow3; have q6 : Below w.heap.size w w3 := ((hB2.alloc (by omega) _).alloc (by simp; omega) _).grown hgrow3 (by simp; omega) (fun j hj => (hown2.lt j hj).1))
    have H3 := Lib.hid (And.intro hown3 q6)
    clear hown3 q6 hgrow3 hown2 hB2
    go_wp2
    go_ret
    rw [HA.out, if_neg hR]
    refine ⟨_, rfl, ?_, H3.out.2⟩
    have h := H3.out.1
    rw [itsc_append, List.length_append, ← HX.out]
    have ek : 0 + bs.length - R.length = k := by rw [HK.out]; omega
    rw [ek]
    simpa [itsc, itc] using h

end Go.Proofs.Ytkngppkchaadhaa
