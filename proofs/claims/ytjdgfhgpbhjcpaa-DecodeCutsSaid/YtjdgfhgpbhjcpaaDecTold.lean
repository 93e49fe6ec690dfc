/- decode: the law's own examples. -/
import Derived.Test.YtjdgfhgpbhjcpaaDecItems
import Derived.Test.YtjdgfhgpbhjcpaaDecClose
import Derived.Test.YtjdgfhgpbhjcpaaDecConv
import Derived.Lib.SlBytesConst
set_option linter.unusedVariables false
set_option linter.unusedSimpArgs false
namespace Go.Proofs.Ytjdgfhgpbhjcpaa
open Go.RowKit De

namespace De
theorem t_all : all 0 [226, 130, 65] = [(0, ⟨65533, 2, true, true, false⟩), (2, ⟨65, 1, false, false, false⟩)] := by
  have h1 : one [226, 130, 65] = ⟨65533, 2, true, true, false⟩ := rfl
  have h2 : one [65] = ⟨65, 1, false, false, false⟩ := rfl
  rw [all_cons _ _ (by simp), h1]
  show (0, _) :: all (0 + 2) [65] = _
  rw [all_cons _ _ (by simp), h2]
  show (0, _) :: (0 + 2, _) :: all (0 + 2 + 1) [] = _
  rw [all_nil]
theorem t_w1 : wh 0 ([] ++ [195]) = ([], [195]) := wh_open (by rfl)
theorem t_w2 : wh 0 ([195] ++ [169]) = ([(0, ⟨233, 2, false, false, false⟩)], []) := by
  have h1 : one ([195] ++ [169]) = ⟨233, 2, false, false, false⟩ := rfl
  rw [wh_cons (by simp) (by rw [h1]), h1]
  show ((0, _) :: (wh 2 []).1, (wh 2 []).2) = _
  rw [wh_nil]
theorem t_w3 : wh 2 ([] ++ [240]) = ([], [240]) := wh_open (by rfl)
theorem t_c : one [240] = ⟨65533, 1, true, true, true⟩ := rfl
end De

/-- a []byte of a constant text, as the run-time lays it -/
theorem Row.mark (w : World) (e : TypeId) (fr : Nat × Nat) (cs : List Value) (n : Nat) (h : cs.length = n) (hm : n ≤ maxLen) : Row (w.alloc (.cells cs.toArray e fr)) (.slice (some ⟨w.heap.size, 0, none⟩) n n) n cs := by
  refine ⟨_, _, rfl, Nat.le_refl _, hm, .inr ⟨w.heap.size, 0, rfl, by simp, fun j u hu => ?_⟩⟩
  rw [Nat.zero_add, World.cell?_alloc_mark]
  simpa using hu
theorem DecV.below {w w' : World} {p bv f : Nat} {v : Value} {held : List Int} {closed : Bool} (h : DecV w p bv v f held closed) (hb : Below w.heap.size w w') : DecV w' p bv v f held closed :=
  ⟨by rw [hb.block p (blk_lt h.hh)]; exact h.hh, owns_below h.own hb⟩
/-- rows of other types are kept where a decoder is fed -/
theorem owns_fr {w w' : World} {p bv f base size n : Nat} {v u : Value} {held : List Int} {closed : Bool} {T : TypeId} {xs : List Value} (h : w.ownsRow base T size u n xs) (hd : DecV w p bv v f held closed) (hf : Fr w w' p v.ownBlock)
    (h1 : T ≠ 5) (h2 : T ≠ 55) : w'.ownsRow base T size u n xs := by
  have hlt := h.lt
  have hh := h
  obtain ⟨_, ⟨rfl, rfl⟩ | ⟨g, cap, cur, rfl, hg, hgh, hr⟩⟩ := hh
  · exact ⟨h.1, .inl ⟨rfl, rfl⟩⟩
  refine owns_at h fun k hk => ?_
  obtain rfl : g = k := by simpa [Value.ownBlock] using hk
  refine hf.block g (hlt g rfl).2 ?_ ?_
  · rintro rfl
    have := hd.hh
    rw [hgh] at this
    simp at this
    exact h2 this.2
  · intro e
    obtain ⟨_, ⟨rfl, _⟩ | ⟨g', cap', cur', rfl, _, hgh', _⟩⟩ := hd.own
    · simp [Value.ownBlock] at e
    · simp only [Value.ownBlock, Option.some.injEq] at e
      subst e
      rw [hgh] at hgh'
      simp at hgh'
      exact h1 hgh'.2
theorem owns_frn {w w' : World} {p bv f base size n : Nat} {v u : Value} {held : List Int} {closed : Bool} {T : TypeId} {xs : List Value} (h : w.ownsRow base T size u n xs) (hd : DecV w p bv v f held closed) (hf : Fr w w' p none)
    (h1 : T ≠ 5) (h2 : T ≠ 55) : w'.ownsRow base T size u n xs :=
  owns_fr h hd ⟨hf.os, hf.tape, hf.output, hf.size, fun k hk hkp _ => hf.block k hk hkp (by simp)⟩ h1 h2
theorem DecV.low {w : World} {p bv f b : Nat} {v : Value} {held : List Int} {closed : Bool} (h : DecV w p bv v f held closed) (hb : b ≤ bv) : ∀ j, v.ownBlock = some j → b ≤ j := fun j hj => by have := h.own.lt j hj; omega

theorem ownsRow_form' {w : World} {base size n : Nat} {e : TypeId} {v : Value} {xs : List Value} (h : w.ownsRow base e size v n xs) (hn : 0 < n) : ∃ g cap, v = .slice (some ⟨g, 0, none⟩) n cap := by
  rcases h.2 with ⟨_, h0⟩ | ⟨g, cap, _, hv, _⟩
  · omega
  · exact ⟨g, cap, hv⟩
/-- a decoder that was made behind W0, and what is known of it -/
structure Dk (W0 w : World) (p f : Nat) (held : List Int) (closed : Bool) (v : Value) : Prop where
  dec : ∃ bv, bv ≤ w.heap.size ∧ W0.heap.size ≤ bv ∧ DecV w p bv v f held closed
  low : W0.heap.size ≤ p
  bel : Below W0.heap.size W0 w
/-- rows of other types are kept -/
def Keeps (w w' : World) : Prop := ∀ (base : Nat) (T : TypeId) (size n : Nat) (u : Value) (xs : List Value), w.ownsRow base T size u n xs → T ≠ 5 → T ≠ 55 → w'.ownsRow base T size u n xs
theorem Keeps.trans {a b c : World} (h : Keeps a b) (k : Keeps b c) : Keeps a c := fun base T size n u xs hu h1 h2 => k base T size n u xs (h base T size n u xs hu h1 h2) h1 h2
theorem Keeps.below {w w' : World} (h : Below w.heap.size w w') : Keeps w w' := fun _ _ _ _ _ _ hu _ _ => owns_below hu h
theorem Dk.below {W0 w w' : World} {p f : Nat} {held : List Int} {closed : Bool} {v : Value} (h : Dk W0 w p f held closed v) (hb : Below w.heap.size w w') : Dk W0 w' p f held closed v := by
  obtain ⟨bv, h1, h2, h3⟩ := h.dec
  exact ⟨⟨bv, Nat.le_trans h1 hb.size, h2, h3.below hb⟩, h.low, h.bel.trans (hb.mono h.bel.size)⟩
def FedPost (W0 : World) (p : Nat) (A : List (Nat × It)) (R : List Int) (f' : Nat) (w : World) (e : Ending) (w' : World) : Prop :=
  ∃ u v', e = .returned u ∧ w'.ownsRow w.heap.size 36 5 u A.length (itsc A) ∧ Dk W0 w' p f' R false v' ∧ Keeps w w' ∧ (∀ k, v'.ownBlock = some k → w.heap.size ≤ k) ∧ w.heap.size ≤ w'.heap.size
theorem fedK_any (W0 : World) (p f : Nat) (v x : Value) (held bs : List Int) (w : World) (hd : Dk W0 w p f held false v)
    (hr : Row w x bs.length (bs.map (Value.int .u8))) (hu : ∀ y ∈ held ++ bs, 0 ≤ y ∧ y < 256) (hh3 : held.length ≤ 3) (hl : bs.length ≤ 100000) (hf : f ≤ 1000000) :
    Calls Try.prog 16 #[.pointer (some ⟨p, 0, none⟩), x] w (FedPost W0 p (wh f (held ++ bs)).1 (wh f (held ++ bs)).2 (f + ((held ++ bs).length - (wh f (held ++ bs)).2.length)) w) := by
  obtain ⟨bv, h1, h2, h3⟩ := hd.dec
  refine (decFeed_any p bv f v x held bs w h3 h1 hr hu hh3 hl hf).mono ?_
  rintro e w' ⟨u, v', rfl, hown, hd', hfr⟩
  have hB : Below W0.heap.size W0 w' := hd.bel.trans (hfr.below hd.bel.size hd.low (h3.low h2))
  exact ⟨u, v', rfl, hown, ⟨⟨w.heap.size, hfr.size, hd.bel.size, hd'⟩, hd.low, hB⟩, fun base T size n u xs hu n1 n2 => owns_fr hu h3 hfr n1 n2, fun k hk => (hd'.own.lt k hk).1, hfr.size⟩
/-- a text of one letter is fed -/
theorem fed1_any (W0 : World) (p f : Nat) (v : Value) (held : List Int) (c : Int) (w : World) (fr : Nat × Nat) (A : List (Nat × It)) (R : List Int) (f' : Nat) (hd : Dk W0 w p f held false v)
    (hu : ∀ y ∈ held ++ [c], 0 ≤ y ∧ y < 256) (hh3 : held.length ≤ 3) (hf : f ≤ 1000000) (hw : wh f (held ++ [c]) = (A, R)) (hf' : f + ((held ++ [c]).length - R.length) = f') :
    Calls Try.prog 16 #[.pointer (some ⟨p, 0, none⟩), .slice (some ⟨w.heap.size, 0, none⟩) 1 1] (w.alloc (.cells #[.int .u8 c] 5 fr)) (FedPost W0 p A R f' w) := by
  have hb : Below w.heap.size w (w.alloc (.cells #[.int .u8 c] 5 fr)) := bel_new (Below.refl _ _) _
  refine (fedK_any W0 p f v _ held [c] _ (hd.below hb) (Row.mark w 5 fr [.int .u8 c] 1 rfl (by decide)) hu hh3 (by simp) hf).mono ?_
  rw [hw]
  rintro e w' ⟨u, v', rfl, hown, hd', hk, hv, hs⟩
  simp only at hd'
  rw [hf'] at hd'
  exact ⟨u, v', rfl, owns_base hown (by simp), hd', (Keeps.below hb).trans hk, fun k h => by have := hv k h; simp at this; omega, by simp at hs; omega⟩
def ShutPost (W0 : World) (p f : Nat) (held : List Int) (w : World) (e : Ending) (w' : World) : Prop :=
  ∃ u v', e = .returned u ∧ w'.ownsRow w.heap.size 36 5 u (if held = [] then [] else [(f, one held)]).length (itsc (if held = [] then [] else [(f, one held)])) ∧ Dk W0 w' p f [] true v' ∧ Keeps w w' ∧ w.heap.size ≤ w'.heap.size
theorem shutK_any (W0 : World) (p f : Nat) (v : Value) (held : List Int) (w : World) (hd : Dk W0 w p f held false v) (hu : ∀ y ∈ held, 0 ≤ y ∧ y < 256) (hh3 : held.length ≤ 3) (hf : f ≤ 1000000) :
    Calls Try.prog 19 #[.pointer (some ⟨p, 0, none⟩)] w (ShutPost W0 p f held w) := by
  obtain ⟨bv, h1, h2, h3⟩ := hd.dec
  refine (decClose_any p bv f v held w h3 h1 hu hh3 hf).mono ?_
  rintro e w' ⟨u, v', rfl, hown, hd', hfr⟩
  have hB : Below W0.heap.size W0 w' := hd.bel.trans (hfr.below hd.bel.size hd.low (fun j hj => by cases hj))
  exact ⟨u, v', rfl, hown, ⟨⟨bv, Nat.le_trans h1 hfr.size, h2, hd'⟩, hd.low, hB⟩, fun base T size n u xs hu n1 n2 => owns_frn hu h3 hfr n1 n2, hfr.size⟩
theorem heldK_any (W0 : World) (p f : Nat) (v : Value) (held : List Int) (closed : Bool) (w : World) (hd : Dk W0 w p f held closed v) :
    Calls Try.prog 18 #[.pointer (some ⟨p, 0, none⟩)] w fun e w' => e = .returned (.int .i64 held.length) ∧ w = w' := by
  obtain ⟨bv, h1, h2, h3⟩ := hd.dec
  exact (held_any p bv f v held closed w h3).mono fun _ _ ⟨h, h'⟩ => ⟨h, h'.symm⟩
theorem fedC_any (W0 : World) (p f : Nat) (v x : Value) (held : List Int) (w : World) (hd : Dk W0 w p f held true v) :
    Calls Try.prog 16 #[.pointer (some ⟨p, 0, none⟩), x] w fun e w' => e = .returned (.slice none 0 0) ∧ w = w' := by
  obtain ⟨bv, h1, h2, h3⟩ := hd.dec
  exact (decFeed_closed p bv f v x held w h3).mono fun _ _ ⟨h, h'⟩ => ⟨h, h'.symm⟩
theorem shutC_any (W0 : World) (p f : Nat) (v : Value) (held : List Int) (w : World) (hd : Dk W0 w p f held true v) :
    Calls Try.prog 19 #[.pointer (some ⟨p, 0, none⟩)] w fun e w' => e = .returned (.slice none 0 0) ∧ w = w' := by
  obtain ⟨bv, h1, h2, h3⟩ := hd.dec
  exact (decClose_closed p bv f v held w h3).mono fun _ _ ⟨h, h'⟩ => ⟨h, h'.symm⟩
theorem newK_any (W0 w : World) (hB : Below W0.heap.size W0 w) :
    Calls Try.prog 15 #[] w fun e w' => ∃ p, e = .returned (.pointer (some ⟨p, 0, none⟩)) ∧ Dk W0 w' p 0 [] false (.slice none 0 0) ∧ Keeps w w' ∧ w.heap.size ≤ w'.heap.size := by
  refine (decNew_any w).mono ?_
  rintro e w' ⟨rfl, hs, hd, hb⟩
  exact ⟨_, rfl, ⟨⟨w.heap.size, by omega, hB.size, hd⟩, hB.size, hB.trans (hb.mono hB.size)⟩, Keeps.below hb, by omega⟩
/-- a row of one item, or of two, by its cells -/
theorem item_cells {w : World} {v : Value} {L : List (Nat × It)} (h : Row w v L.length (itsc L)) {o : Option Addr} {n c : Nat} (hv : v = .slice o n c) (k : Nat) (a : Nat) (x : It) (hk : L[k]? = some (a, x)) :
    ∃ b off, o = some ⟨b, off, none⟩ ∧ b < w.heap.size ∧
      w.cell? ⟨b, off + k * 5, none⟩ = some (.int .i32 x.r) ∧ w.cell? ⟨b, off + k * 5 + 1, none⟩ = some (.int .i64 a) ∧ w.cell? ⟨b, off + k * 5 + 2, none⟩ = some (.int .i64 ((a : Int) + x.n)) ∧
      w.cell? ⟨b, off + k * 5 + 3, none⟩ = some (.bool x.bad) ∧ w.cell? ⟨b, off + k * 5 + 4, none⟩ = some (.bool x.more) := by
  obtain ⟨b, off, cap, e, hb, rest⟩ := h.item hk
  rw [hv] at e
  simp only [Value.slice.injEq] at e
  exact ⟨b, off, e.1, hb, rest⟩

set_option maxHeartbeats 2000000 in
set_option maxRecDepth 1000000 in
theorem told_any (w : World) : Calls Try.prog 9 #[] w fun e w' => e = .returned (.bool true) ∧ Below w.heap.size w w' := by
  have rc := fun (w : World) (C : Array Value) (n c : Nat) => Lib.run_convert_bytes_const (P := Try.prog) w 22 5 C n c Try.underlying22 Try.underlying5
  go_enter Try.func9, Try.ntmps9
  go_wp2_with fail
  refine (all_any [226, 130, 65] _ _ (Row.mark w 5 (3, 4) [.int .u8 226, .int .u8 130, .int .u8 65] 3 rfl (by decide)) (by decide) (by decide)).mono ?_
  rintro e w1 ⟨u1, rfl, hown1, hb1⟩
  rw [t_all] at hown1
  obtain ⟨o1, c1, rfl⟩ := owns_slice hown1
  have hB1 : Below w.heap.size w w1 := bel_then (bel_new (Below.refl _ _) _) hb1
  have H1 := Lib.hid (And.intro hown1 hB1)
  clear hown1 hb1 hB1
  go_wp2_with fail
  refine (newK_any w w1 H1.out.2).mono ?_
  rintro e w2 ⟨p, rfl, hd2, hk2, hs2⟩
  have H2 := Lib.hid (And.intro hd2 (hk2 _ _ _ _ _ _ H1.out.1 (by decide) (by decide)))
  clear hd2 hk2 H1
  go_wp2_with fail
  refine (fed1_any w p 0 _ [] 195 w2 (1, 2) [] [195] 0 H2.out.1 (by decide) (by decide) (by decide) t_w1 rfl).mono ?_
  rintro e w3 ⟨u3, v3, rfl, hown3, hd3, hk3, _, _⟩
  obtain ⟨o3, c3, rfl⟩ := owns_slice hown3
  have H3 := Lib.hid (And.intro hd3 (hk3 _ _ _ _ _ _ H2.out.2 (by decide) (by decide)))
  clear hd3 hk3 hown3 H2
  go_wp2_with fail
  refine (heldK_any w p _ _ _ _ w3 H3.out.1).mono ?_
  rintro e w' ⟨rfl, rfl⟩
  go_wp2_with fail
  refine (fed1_any w p 0 _ [195] 169 _ (1, 2) [(0, ⟨233, 2, false, false, false⟩)] [] 2 H3.out.1 (by decide) (by decide) (by decide) t_w2 rfl).mono ?_
  rintro e w5 ⟨u5, v5, rfl, hown5, hd5, hk5, _, _⟩
  obtain ⟨o5, c5, rfl⟩ := owns_slice hown5
  have H5 := Lib.hid (And.intro hd5 (And.intro (hk5 _ _ _ _ _ _ H3.out.2 (by decide) (by decide)) hown5))
  clear hd5 hk5 hown5 H3
  go_wp2_with fail
  refine (fed1_any w p 2 _ [] 240 w5 (1, 2) [] [240] 2 H5.out.1 (by decide) (by decide) (by decide) t_w3 rfl).mono ?_
  rintro e w6 ⟨u6, v6, rfl, hown6, hd6, hk6, _, _⟩
  obtain ⟨o6, c6, rfl⟩ := owns_slice hown6
  have H6 := Lib.hid (And.intro hd6 (And.intro (hk6 _ _ _ _ _ _ H5.out.2.1 (by decide) (by decide)) (hk6 _ _ _ _ _ _ H5.out.2.2 (by decide) (by decide))))
  clear hd6 hk6 hown6 H5
  go_wp2_with fail
  refine (shutK_any w p 2 _ [240] w6 H6.out.1 (by decide) (by decide) (by decide)).mono ?_
  rintro e w7 ⟨u7, v7, rfl, hown7, hd7, hk7, _⟩
  rw [if_neg (by decide), t_c] at hown7
  obtain ⟨o7, c7, rfl⟩ := owns_slice hown7
  have H7 := Lib.hid (And.intro hd7 (And.intro (hk7 _ _ _ _ _ _ H6.out.2.1 (by decide) (by decide)) (And.intro (hk7 _ _ _ _ _ _ H6.out.2.2 (by decide) (by decide)) hown7)))
  clear hd7 hk7 hown7 H6
  go_wp2_with fail
  have hb8 : Below w7.heap.size w7 (w7.alloc (.cells #[.int .u8 120] 5 (1, 2))) := bel_new (Below.refl _ _) _
  refine (fedC_any w p 2 _ _ [] _ (H7.out.1.below hb8)).mono ?_
  rintro e w' ⟨rfl, rfl⟩
  obtain ⟨W8, hW8⟩ : ∃ W8, W8 = w7.alloc (.cells #[.int .u8 120] 5 (1, 2)) := ⟨_, rfl⟩
  rw [← hW8] at hb8 ⊢
  obtain ⟨hd7, r1, r5, r7⟩ := H7.out
  obtain ⟨g1, q1, e1⟩ := ownsRow_form' r1 (by decide)
  obtain ⟨g5, q5, e5⟩ := ownsRow_form' r5 (by decide)
  obtain ⟨g7, q7, e7⟩ := ownsRow_form' r7 (by decide)
  simp only [Value.slice.injEq, true_and] at e1 e5 e7
  obtain ⟨rfl, rfl⟩ := e1
  obtain ⟨rfl, rfl⟩ := e5
  obtain ⟨rfl, rfl⟩ := e7
  have k1 := (owns_below r1 hb8).cells (g := g1) rfl
  have k5 := (owns_below r5 hb8).cells (g := g5) rfl
  have k7 := (owns_below r7 hb8).cells (g := g7) rfl
  have a0 : W8.cell? ⟨g1, 0, none⟩ = some (.int .i32 65533) := cell_add k1 0 _ rfl
  have a1 : W8.cell? ⟨g1, 1, none⟩ = some (.int .i64 0) := cell_add k1 1 _ rfl
  have a2 : W8.cell? ⟨g1, 2, none⟩ = some (.int .i64 2) := cell_add k1 2 _ rfl
  have a3 : W8.cell? ⟨g1, 3, none⟩ = some (.bool true) := cell_add k1 3 _ rfl
  have a4 : W8.cell? ⟨g1, 4, none⟩ = some (.bool true) := cell_add k1 4 _ rfl
  have a5 : W8.cell? ⟨g1, 5, none⟩ = some (.int .i32 65) := cell_add k1 5 _ rfl
  have a6 : W8.cell? ⟨g1, 6, none⟩ = some (.int .i64 2) := cell_add k1 6 _ rfl
  have a7 : W8.cell? ⟨g1, 7, none⟩ = some (.int .i64 3) := cell_add k1 7 _ rfl
  have a8 : W8.cell? ⟨g1, 8, none⟩ = some (.bool false) := cell_add k1 8 _ rfl
  have a9 : W8.cell? ⟨g1, 9, none⟩ = some (.bool false) := cell_add k1 9 _ rfl
  have b0 : W8.cell? ⟨g5, 0, none⟩ = some (.int .i32 233) := cell_add k5 0 _ rfl
  have b1 : W8.cell? ⟨g5, 1, none⟩ = some (.int .i64 0) := cell_add k5 1 _ rfl
  have b2 : W8.cell? ⟨g5, 2, none⟩ = some (.int .i64 2) := cell_add k5 2 _ rfl
  have b3 : W8.cell? ⟨g5, 3, none⟩ = some (.bool false) := cell_add k5 3 _ rfl
  have b4 : W8.cell? ⟨g5, 4, none⟩ = some (.bool false) := cell_add k5 4 _ rfl
  have d1 : W8.cell? ⟨g7, 1, none⟩ = some (.int .i64 2) := cell_add k7 1 _ rfl
  have d3 : W8.cell? ⟨g7, 3, none⟩ = some (.bool true) := cell_add k7 3 _ rfl
  have hB8 : Below w.heap.size w W8 := hd7.bel.trans (hb8.mono hd7.bel.size)
  have hE := eqlI
  have hG := guardI
  clear H7 hd7 r1 r5 r7 k1 k5 k7 hW8 hb8
  go_wp2_with fail
  refine (put_any 8364 _ (by decide)).mono ?_
  rintro e w9 ⟨v9, rfl, hown9, hb9⟩
  have hp9 : put 8364 = [226, 130, 172] := by decide
  rw [hp9] at hown9
  replace hown9 : w9.ownsRow W8.heap.size 5 1 v9 3 (([226, 130, 172] : List Int).map (Value.int .u8)) := hown9
  obtain ⟨o9, c9, rfl⟩ := owns_slice hown9
  have hB9 : Below w.heap.size w w9 := hB8.trans (hb9.mono hB8.size)
  have hcv := conv_row (n := 3) (bs := [226, 130, 172]) rfl (Row.owned hown9)
  have hst : strOfNums [226, 130, 172] = ⟨#[226, 130, 172]⟩ := by rfl
  rw [hst] at hcv
  clear hown9 hb9 hst hp9 a0 a1 a2 a3 a4 a5 a6 a7 a8 a9 b0 b1 b2 b3 b4 d1 d3 hB8
  go_wp2_with fail
  refine (decFeed_nil _ _).mono ?_
  rintro e w' ⟨rfl, rfl⟩
  go_wp2_with fail
  refine (held_nil _).mono ?_
  rintro e w' ⟨rfl, rfl⟩
  go_wp2_with fail
  refine (decClose_nil _).mono ?_
  rintro e w' ⟨rfl, rfl⟩
  go_wp2
  go_ret
  exact ⟨rfl, (by repeat (first | exact Below.refl _ _ | assumption | (refine Below.drew ?_) | (refine below_drewN ?_ _) | (refine bel_new ?_ _) | (refine bel_then ?_ (by assumption))))⟩
end Go.Proofs.Ytjdgfhgpbhjcpaa
