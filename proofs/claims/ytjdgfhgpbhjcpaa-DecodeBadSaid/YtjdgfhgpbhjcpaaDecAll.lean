/- decode: All, New, Held; what a decoder is. -/
import Derived.Test.YtjdgfhgpbhjcpaaDecWhole
set_option linter.unusedVariables false
set_option linter.unusedSimpArgs false
namespace Go.Proofs.Ytjdgfhgpbhjcpaa
open Go.RowKit De

set_option maxHeartbeats 2000000 in
set_option maxRecDepth 1000000 in
theorem all_any (bs : List Int) (v : Value) (w : World) (hr : Row w v bs.length (bs.map (Value.int .u8))) (hu : ∀ x ∈ bs, 0 ≤ x ∧ x < 256) (hl : bs.length ≤ 1000000) :
    Calls Try.prog 11 #[v] w fun e w' => ∃ u, e = .returned u ∧ w'.ownsRow w.heap.size 36 5 u (all 0 bs).length (itsc (all 0 bs)) ∧ Below w.heap.size w w' := by
  obtain ⟨ii, hi, hz0, hz1, hz2⟩ := infoItem
  have HR := Lib.hid hr
  have HU := Lib.hid hu
  obtain ⟨o, cap, rfl, hcap, hmax, _⟩ := hr
  have hw := whole_any bs (.slice o bs.length cap) 0 w HR.out hu (by omega) hl
  have hrest := wh_rest 0 bs
  have hlen := wh_len 0 bs
  have HA : Hid (all 0 bs = (wh 0 bs).1 ++ (if (wh 0 bs).2 = [] then [] else [(0 + bs.length - (wh 0 bs).2.length, one (wh 0 bs).2)])) := Lib.hid rfl
  obtain ⟨A, R, hAR⟩ : ∃ A R, wh 0 bs = (A, R) := ⟨_, _, rfl⟩
  rw [hAR] at hw hrest hlen HA
  simp only at hw hrest hlen HA
  clear hAR hu
  obtain ⟨r1, r2, r3, r4⟩ := hrest
  go_enter Try.func11, Try.ntmps11
  go_wp2_with fail
  refine hw.mono ?_
  rintro e w1 ⟨u, rfl, hown, hb1⟩
  obtain ⟨ou, cu, rfl⟩ := owns_slice hown
  obtain ⟨k, hk⟩ : ∃ k, k = bs.length - R.length := ⟨_, rfl⟩
  have hkl : k ≤ bs.length := by omega
  rw [← hk]
  by_cases hR : R = []
  · subst hR
    simp only [List.length_nil, Nat.sub_zero] at hk
    have HO := Lib.hid (And.intro hown hb1)
    have hg : decide (k < bs.length) = false := by simp; omega
    clear hown hb1 r4 r3 hk
    go_wp2
    go_ret
    rw [HA.out]
    exact ⟨_, rfl, by simpa using HO.out.1, HO.out.2⟩
  · have hR1 : 0 < R.length := List.length_pos_iff.2 hR
    have hg : k < bs.length := by omega
    obtain ⟨o1, c1, hst, hsl⟩ := cutB_l o cap bs.length (bs.map (Value.int .u8)) (by simp) k hkl hcap
    have hrow := hsl w1 (HR.out.below hb1)
    rw [drop_map', show bs.drop k = R by rw [r4, hk]] at hrow
    have hl2 : bs.length - k = R.length := by omega
    have hc := one_L R hR (.slice o1 (bs.length - k) c1) k w1 (bs.length - k) hl2 hrow (fun y hy => HU.out y (by rw [r4] at hy; exact List.mem_of_mem_drop hy)) (by omega) (by omega)
    have HK := Lib.hid hk
    have HR4 := Lib.hid (And.intro r4 (And.intro r3 hl2))
    obtain ⟨x, hx⟩ : ∃ x, x = one R := ⟨_, rfl⟩
    rw [← hx] at hc
    have HX := Lib.hid hx
    clear hsl hrow r4 r3 hk hl2 hx
    go_wp2_with fail
    refine hc.mono ?_
    rintro e w2 ⟨rfl, hb2⟩
    have hown2 := owns_below hown hb2
    have hB2 : Below w.heap.size w w2 := hb1.trans (hb2.mono hb1.size)
    have hs2 := hB2.size
    clear hown hb1 hb2 hc hw
    go_wp2_with (at_builtin; refine wpList_append_row _ rfl _ _ 25 rfl w.heap.size 36 ii (.agg #[.int .i32 0, .int .i64 0, .int .i64 0, .bool false, .bool false]) 5 32 Try.underlying25 hi hz0 hz1 hz2 rfl (by decide) _ _ _ rfl ((hown2.alloc _).alloc _) _ 1 [.int .i32 x.r, .int .i64 (k : Int), .int .i64 ((k : Int) + x.n), .bool x.bad, .bool x.more] rfl (rowNew5 _ _ _ _ _ _ _ _ (by simp)) rfl (by simp [Value.oneCell']) (by unfold maxLen; omega) (by omega) (by simp; omega) ?_; intro v' w3 hown3 hgrow3; have q6 : Below w.heap.size w w3 := ((hB2.alloc (by omega) _).alloc (by simp; omega) _).grown hgrow3 (by simp; omega) (fun j hj => (hown2.lt j hj).1))
    have H3 := Lib.hid (And.intro hown3 q6)
    clear hown3 q6 hgrow3 hown2 hB2
    go_wp2
    go_ret
    rw [HA.out, if_neg hR]
    refine ⟨_, rfl, ?_, H3.out.2⟩
    have h := H3.out.1
    rw [itsc_append, List.length_append, ← HX.out]
    have ek : 0 + bs.length - R.length = k := by rw [HK.out]; omega
    rw [ek]
    simpa [itsc, itc] using h

/-- block p is a decoder: where what it holds begins, what it holds (in v, at bv or behind), is it closed -/
structure DecV (w : World) (p bv : Nat) (v : Value) (f : Nat) (held : List Int) (closed : Bool) : Prop where
  hh : w.heap[p]? = some (.cells #[v, .int .i64 f, .bool closed] 55 (0, 0))
  own : w.ownsRow bv 5 1 v held.length (held.map (Value.int .u8))

theorem cells3_of {w : World} {p : Nat} {a b c : Value} {t : TypeId} (h : w.heap[p]? = some (.cells #[a, b, c] t (0, 0))) :
    (w.cell? ⟨p, 0, none⟩ = some a ∧ w.cell? ⟨p, 1, none⟩ = some b ∧ w.cell? ⟨p, 2, none⟩ = some c) ∧ w.frozen? ⟨p, 0, none⟩ = false ∧ w.frozen? ⟨p, 1, none⟩ = false ∧ w.frozen? ⟨p, 2, none⟩ = false := by
  simp [World.cell?, World.frozen?, h]
theorem set3_0 {w : World} {p : Nat} {a b c : Value} {t : TypeId} (h : w.heap[p]? = some (.cells #[a, b, c] t (0, 0))) (x : Value) : (w.setCell ⟨p, 0, none⟩ x).heap[p]? = some (.cells #[x, b, c] t (0, 0)) := by
  simp [World.setCell, Array.getElem?_modify, h]
theorem set3_1 {w : World} {p : Nat} {a b c : Value} {t : TypeId} (h : w.heap[p]? = some (.cells #[a, b, c] t (0, 0))) (x : Value) : (w.setCell ⟨p, 1, none⟩ x).heap[p]? = some (.cells #[a, x, c] t (0, 0)) := by
  simp [World.setCell, Array.getElem?_modify, h]
theorem set3_2 {w : World} {p : Nat} {a b c : Value} {t : TypeId} (h : w.heap[p]? = some (.cells #[a, b, c] t (0, 0))) (x : Value) : (w.setCell ⟨p, 2, none⟩ x).heap[p]? = some (.cells #[a, b, x] t (0, 0)) := by
  simp [World.setCell, Array.getElem?_modify, h]
theorem blk_lt {w : World} {p : Nat} {o : Obj} (h : w.heap[p]? = some o) : p < w.heap.size := by
  rcases Nat.lt_or_ge p w.heap.size with h1 | h1
  · exact h1
  · rw [Array.getElem?_eq_none h1] at h; cases h
theorem DecV.far {w : World} {p bv f : Nat} {v : Value} {held : List Int} {closed : Bool} (h : DecV w p bv v f held closed) : some p ≠ v.ownBlock := by
  obtain ⟨hh, h1, ⟨rfl, _⟩ | ⟨g, cap, cur, rfl, hg, hb, h2⟩⟩ := h
  · simp [Value.ownBlock]
  · simp only [Value.ownBlock, ne_eq, Option.some.injEq]
    rintro rfl
    rw [hh] at hb
    simp at hb
/-- the world is as it was, but for what is new, block p and the row q -/
structure Fr (w w' : World) (p : Nat) (q : Option Nat) : Prop where
  os : w'.os = w.os
  tape : w'.tape = w.tape
  output : w'.output = w.output
  size : w.heap.size ≤ w'.heap.size
  block : ∀ k, k < w.heap.size → k ≠ p → some k ≠ q → w'.heap[k]? = w.heap[k]?
theorem Fr.below {w w' : World} {p b : Nat} {q : Option Nat} (h : Fr w w' p q) (hb : b ≤ w.heap.size) (hp : b ≤ p) (hq : ∀ j, q = some j → b ≤ j) : Below b w w' :=
  ⟨h.os, h.tape, h.output, h.size, fun k hk => h.block k (by omega) (by omega) (fun e => by have := hq k e.symm; omega)⟩

theorem decNew_any (w : World) : Calls Try.prog 15 #[] w fun e w' => e = .returned (.pointer (some ⟨w.heap.size, 0, none⟩)) ∧ w'.heap.size = w.heap.size + 1 ∧
    DecV w' w.heap.size w.heap.size (.slice none 0 0) 0 [] false ∧ Below w.heap.size w w' := by
  go_enter Try.func15, Try.ntmps15
  go_wp2
  go_ret
  exact ⟨rfl, by simp, ⟨heap_alloc_new w _, World.ownsRow_nil _ _ _ _⟩, bel_new (Below.refl _ _) _⟩
theorem held_any (p bv f : Nat) (v : Value) (held : List Int) (closed : Bool) (w : World) (hd : DecV w p bv v f held closed) :
    Calls Try.prog 18 #[.pointer (some ⟨p, 0, none⟩)] w fun e w' => e = .returned (.int .i64 held.length) ∧ w' = w := by
  obtain ⟨hh, own⟩ := hd
  obtain ⟨⟨c0, c1, c2⟩, f0, f1, f2⟩ := cells3_of hh
  obtain ⟨o, c, rfl⟩ := owns_slice own
  clear hh own
  go_enter Try.func18, Try.ntmps18
  go_wp2
  go_ret
  exact ⟨rfl, rfl⟩
theorem held_nil (w : World) : Calls Try.prog 18 #[.pointer none] w fun e w' => e = .returned (.int .i64 0) ∧ w' = w := by
  go_enter Try.func18, Try.ntmps18
  go_wp2
  go_ret
  exact ⟨rfl, rfl⟩
theorem decFeed_nil (x : Value) (w : World) : Calls Try.prog 16 #[.pointer none, x] w fun e w' => e = .returned (.slice none 0 0) ∧ w' = w := by
  go_enter Try.func16, Try.ntmps16
  go_wp2
  go_ret
  exact ⟨rfl, rfl⟩
theorem decClose_nil (w : World) : Calls Try.prog 19 #[.pointer none] w fun e w' => e = .returned (.slice none 0 0) ∧ w' = w := by
  go_enter Try.func19, Try.ntmps19
  go_wp2
  go_ret
  exact ⟨rfl, rfl⟩
theorem decFeed_closed (p bv f : Nat) (v x : Value) (held : List Int) (w : World) (hd : DecV w p bv v f held true) : Calls Try.prog 16 #[.pointer (some ⟨p, 0, none⟩), x] w fun e w' => e = .returned (.slice none 0 0) ∧ w' = w := by
  obtain ⟨hh, own⟩ := hd
  obtain ⟨⟨c0, c1, c2⟩, f0, f1, f2⟩ := cells3_of hh
  clear hh own
  go_enter Try.func16, Try.ntmps16
  go_wp2
  go_ret
  exact ⟨rfl, rfl⟩
theorem decClose_closed (p bv f : Nat) (v : Value) (held : List Int) (w : World) (hd : DecV w p bv v f held true) : Calls Try.prog 19 #[.pointer (some ⟨p, 0, none⟩)] w fun e w' => e = .returned (.slice none 0 0) ∧ w' = w := by
  obtain ⟨hh, own⟩ := hd
  obtain ⟨⟨c0, c1, c2⟩, f0, f1, f2⟩ := cells3_of hh
  clear hh own
  go_enter Try.func19, Try.ntmps19
  go_wp2
  go_ret
  exact ⟨rfl, rfl⟩
end Go.Proofs.Ytjdgfhgpbhjcpaa
