/- decode: Feed and Close. -/
import Derived.Test.YtjdgfhgpbhjcpaaDecAll
import Derived.Deep.RegionHeld3
import Derived.StillTailTactics
set_option linter.unusedVariables false
set_option linter.unusedSimpArgs false
namespace Go.Proofs.Ytjdgfhgpbhjcpaa
open Go.RowKit De

theorem owns_at {w w' : World} {base size n : Nat} {e : TypeId} {v : Value} {xs : List Value} (h : w.ownsRow base e size v n xs) (hk : ∀ k, v.ownBlock = some k → w'.heap[k]? = w.heap[k]?) : w'.ownsRow base e size v n xs := by
  obtain ⟨h1, ⟨rfl, rfl⟩ | ⟨g, cap, cur, rfl, hg, hh, hr⟩⟩ := h
  · exact ⟨h1, .inl ⟨rfl, rfl⟩⟩
  · exact ⟨h1, .inr ⟨g, cap, cur, rfl, hg, by rw [hk g rfl]; exact hh, hr⟩⟩
theorem len_app (a b : List Int) : (a.map (Value.int .u8) ++ b.map (Value.int .u8)) = (a ++ b).map (Value.int .u8) := by simp

def FeedPost (p : Nat) (v : Value) (A : List (Nat × It)) (R : List Int) (f' : Nat) (w : World) (e : Ending) (w' : World) : Prop :=
  ∃ u v', e = .returned u ∧ w'.ownsRow w.heap.size 36 5 u A.length (itsc A) ∧ DecV w' p w.heap.size v' f' R false ∧ Fr w w' p v.ownBlock

set_option maxHeartbeats 4000000 in
set_option maxRecDepth 1000000 in
theorem decFeed_any (p bv f : Nat) (v x : Value) (held bs : List Int) (w : World) (hd : DecV w p bv v f held false) (hbv : bv ≤ w.heap.size)
    (hr : Row w x bs.length (bs.map (Value.int .u8))) (hu : ∀ y ∈ held ++ bs, 0 ≤ y ∧ y < 256) (hh3 : held.length ≤ 3) (hl : bs.length ≤ 100000) (hf : f ≤ 1000000) :
    Calls Try.prog 16 #[.pointer (some ⟨p, 0, none⟩), x] w (FeedPost p v (wh f (held ++ bs)).1 (wh f (held ++ bs)).2 (f + ((held ++ bs).length - (wh f (held ++ bs)).2.length)) w) := by
  obtain ⟨i0, hi, hz0, hz1, hz2⟩ := infoByte
  have hfar := hd.far
  obtain ⟨hh, own⟩ := hd
  have hplt := blk_lt hh
  obtain ⟨⟨c0, c1, c2⟩, f0, f1, f2⟩ := cells3_of hh
  have hll : (held ++ bs).length = held.length + bs.length := by simp
  have hrest := wh_rest f (held ++ bs)
  have hlen := wh_len f (held ++ bs)
  have hwa := fun (v1 : Value) (w1 : World) (hr : Row w1 v1 (held ++ bs).length ((held ++ bs).map (Value.int .u8))) => whole_any (held ++ bs) v1 f w1 hr hu (by omega) (by omega)
  obtain ⟨A, R, hAR⟩ : ∃ A R, wh f (held ++ bs) = (A, R) := ⟨_, _, rfl⟩
  rw [hAR] at hrest hlen hwa ⊢
  simp only at hrest hlen hwa ⊢
  obtain ⟨r1, r2, r3, r4⟩ := hrest
  obtain ⟨k, hk⟩ : ∃ k, k = (held ++ bs).length - R.length := ⟨_, rfl⟩
  rw [← hk] at hwa r4 ⊢
  have hkl : k ≤ held.length + bs.length := by omega
  have hkr : held.length + bs.length - k = R.length := by omega
  have HK := Lib.hid (And.intro hk (And.intro r4 hkr))
  have HA := Lib.hid (And.intro hfar (And.intro hh (And.intro own hr)))
  have HW := Lib.hid hwa
  have HL := Lib.hid hll
  obtain ⟨ox, cx, rfl⟩ : ∃ o c, x = .slice o bs.length c := by obtain ⟨o, c, rfl, _⟩ := hr; exact ⟨_, _, rfl⟩
  obtain ⟨ov, cv, rfl⟩ := owns_slice own
  clear hwa hfar hh hk r4 hkr hAR hr hu own hll
  go_enter Try.func16, Try.ntmps16
  go_wp2_with (at_builtin; refine wpList_append_row _ rfl _ _ 22 rfl bv 5 i0 (.int .u8 0) 1 1 Try.underlying22 hi hz0 hz1 hz2 rfl (by decide) _ _ _ rfl HA.out.2.2.1 _ _ _ rfl HA.out.2.2.2 (by simp) (ints_one _ _) (by unfold maxLen; omega) (by omega) hbv ?_; intro v1 w1 hown1 hg1; have g1 := (hg1.block p hplt HA.out.1).trans HA.out.2.1; obtain ⟨⟨d0, d1, d2⟩, e0, e1, e2⟩ := cells3_of g1; obtain ⟨o1, cap1, rfl⟩ := owns_slice hown1; clear c0 c1 c2 f0 f1 f2; have G1 := Lib.hid (And.intro g1 (And.intro hown1 hg1)); clear g1 hown1 hg1)
  have hrow1 : Row w1 (.slice o1 (held.length + bs.length) cap1) (held ++ bs).length ((held ++ bs).map (Value.int .u8)) := by rw [HL.out, ← len_app]; exact Row.owned G1.out.2.1
  have hsz1 := G1.out.2.2.size
  have hcap1 : held.length + bs.length ≤ cap1 := by obtain ⟨_, _, e, h, _⟩ := Row.owned G1.out.2.1; simp only [Value.slice.injEq, true_and] at e; omega
  have Hr1 := Lib.hid hrow1
  refine (HW.out _ w1 hrow1).mono ?_
  rintro e w2 ⟨u, rfl, hownu, hb2⟩
  have g2 := (hb2.block p (by omega)).trans G1.out.1
  obtain ⟨⟨d0', d1', d2'⟩, e0', e1', e2'⟩ := cells3_of g2
  obtain ⟨ou, cu, rfl⟩ := owns_slice hownu
  obtain ⟨o4, c4, hst, hsl⟩ := cutB_l o1 cap1 (held.length + bs.length) ((held ++ bs).map (Value.int .u8)) (by simp) k hkl hcap1
  have hrow4 := hsl w2 (by have := (Hr1.out.below hb2); rw [HL.out] at this; exact this)
  rw [drop_map', ← HK.out.2.1] at hrow4
  have hs2 := hb2.size
  have H2 := Lib.hid (And.intro g2 (And.intro hownu (And.intro hb2 hrow4)))
  clear d0 d1 d2 e0 e1 e2 g2 hownu hb2 hrow4 hsl hrow1
  go_wp2_with (at_builtin; refine wpList_append_row _ rfl _ _ 22 rfl w.heap.size 5 i0 (.int .u8 0) 1 1 Try.underlying22 hi hz0 hz1 hz2 rfl (by decide) (.slice none 0 0) 0 [] rfl (World.ownsRow_nil _ _ _ _) (.slice o4 (held.length + bs.length - k) c4) (held.length + bs.length - k) (R.map (Value.int .u8)) rfl H2.out.2.2.2 (by rw [HK.out.2.2]; simp) (ints_one _ _) (by unfold maxLen; omega) (by omega) (by omega) ?_; intro v3 w3 hown3 hg3; have g3 := (hg3.block p (by omega) (by simp [Value.ownBlock])).trans H2.out.1; obtain ⟨⟨q0, q1, q2⟩, t0, t1, t2⟩ := cells3_of g3; obtain ⟨o3, cap3, rfl⟩ := owns_slice hown3; clear d0' d1' d2' e0' e1' e2'; have G3 := Lib.hid (And.intro g3 (And.intro hown3 hg3)); clear g3 hown3 hg3)
  go_ret
  obtain ⟨g3, hown3, hg3⟩ := G3.out
  obtain ⟨g2, hownu, hb2, hrow4⟩ := H2.out
  obtain ⟨g1, hown1, hg1⟩ := G1.out
  have hs3 := hg3.size
  have hpu : ∀ j, (Value.slice ou A.length cu).ownBlock = some j → j ≠ p ∧ j < w2.heap.size := fun j hj => by have := hownu.lt j hj; omega
  have hp3 : ∀ j, (Value.slice o3 (0 + (held.length + bs.length - k)) cap3).ownBlock = some j → j ≠ p := fun j hj => by have := hown3.lt j hj; omega
  refine ⟨_, .slice o3 (0 + (held.length + bs.length - k)) cap3, rfl, ?_, ⟨?_, ?_⟩, ⟨?_, ?_, ?_, ?_, ?_⟩⟩
  · refine owns_base (owns_at hownu fun j hj => ?_) hsz1
    rw [Below.heap_setCell _ _ _ _ (hpu j hj).1, Below.heap_setCell _ _ _ _ (hpu j hj).1]
    exact hg3.block j (hpu j hj).2 (by simp [Value.ownBlock])
  · have := set3_1 (set3_0 g3 (.slice o3 (0 + (held.length + bs.length - k)) cap3)) (.int .i64 ((f : Int) + k))
    simpa using this
  · have h := owns_at hown3 (w' := (w3.setCell ⟨p, 0, none⟩ (.slice o3 (0 + (held.length + bs.length - k)) cap3)).setCell ⟨p, 1, none⟩ (.int .i64 ((f : Int) + k))) (fun j hj => by
      rw [Below.heap_setCell _ _ _ _ (hp3 j hj), Below.heap_setCell _ _ _ _ (hp3 j hj)])
    have e9 : R.length = 0 + (held.length + bs.length - k) := by rw [HK.out.2.2]; omega
    rw [e9]
    simpa using h
  · exact hg3.os.trans (hb2.os.trans hg1.os)
  · exact hg3.tape.trans (hb2.tape.trans hg1.tape)
  · exact hg3.output.trans (hb2.output.trans hg1.output)
  · simp [World.setCell]; omega
  · intro j hj hjp hjq
    rw [Below.heap_setCell _ _ _ _ hjp, Below.heap_setCell _ _ _ _ hjp, hg3.block j (by omega) (by simp [Value.ownBlock]), hb2.block j (by omega)]
    exact hg1.block j hj hjq

end Go.Proofs.Ytjdgfhgpbhjcpaa
