/- decode: Close. -/
import Derived.Test.YtjdgfhgpbhjcpaaDecFeed
import Derived.Deep.RegionLaw
set_option linter.unusedVariables false
set_option linter.unusedSimpArgs false
namespace Go.Proofs.Ytjdgfhgpbhjcpaa
open Go.RowKit De

theorem cell_set5 {w : World} {p q i : Nat} {a b c d e : Value} (h : ¬ p = q) :
    (((((w.setCell ⟨q, 0, none⟩ a).setCell ⟨q, 1, none⟩ b).setCell ⟨q, 2, none⟩ c).setCell ⟨q, 3, none⟩ d).setCell ⟨q, 4, none⟩ e).cell? ⟨p, i, none⟩ = w.cell? ⟨p, i, none⟩ := by
  refine World.cell?_of_block ?_
  show _ = w.heap[p]?
  rw [Below.heap_setCell _ _ _ _ h, Below.heap_setCell _ _ _ _ h, Below.heap_setCell _ _ _ _ h, Below.heap_setCell _ _ _ _ h, Below.heap_setCell _ _ _ _ h]

def ClosePost (p bv f : Nat) (held : List Int) (w : World) (e : Ending) (w' : World) : Prop :=
  ∃ u v', e = .returned u ∧ w'.ownsRow w.heap.size 36 5 u (if held = [] then [] else [(f, one held)]).length (itsc (if held = [] then [] else [(f, one held)])) ∧
      DecV w' p bv v' f [] true ∧ Fr w w' p none

set_option maxHeartbeats 4000000 in
set_option maxRecDepth 1000000 in
theorem decClose_any (p bv f : Nat) (v : Value) (held : List Int) (w : World) (hd : DecV w p bv v f held false) (hbv : bv ≤ w.heap.size)
    (hu : ∀ y ∈ held, 0 ≤ y ∧ y < 256) (hh3 : held.length ≤ 3) (hf : f ≤ 1000000) :
    Calls Try.prog 19 #[.pointer (some ⟨p, 0, none⟩)] w fun e w' => ClosePost p bv f held w e w' := by
  have hfar := hd.far
  obtain ⟨hh, own⟩ := hd
  have hplt := blk_lt hh
  obtain ⟨⟨c0, c1, c2⟩, f0, f1, f2⟩ := cells3_of hh
  have HA := Lib.hid (And.intro hfar (And.intro hh own))
  obtain ⟨ov, cv, rfl⟩ := owns_slice own
  clear hfar hh own
  by_cases hR : held = []
  · subst hR
    go_enter Try.func19, Try.ntmps19
    go_wp2
    go_ret
    obtain ⟨hfar, hh, own⟩ := HA.out
    refine ⟨_, .slice ov 0 cv, rfl, World.ownsRow_nil _ _ _ _, ⟨set3_2 hh _, ?_⟩, ⟨rfl, rfl, rfl, by simp [World.setCell], fun j hj hjp _ => Below.heap_setCell _ _ _ _ hjp⟩⟩
    exact owns_at own fun j hj => Below.heap_setCell _ _ _ _ (fun e => hfar (by have e' : j = p := e; rw [← e']; exact hj.symm))
  · have hR1 : 0 < held.length := List.length_pos_iff.2 hR
    have hg : ((held.length : Int) == 0) = false := by simp; omega
    have hg' : decide ((held.length : Int) = 0) = false := by simp; omega
    have hc := fun (w1 : World) (hr : Row w1 (.slice ov held.length cv) held.length (held.map (Value.int .u8))) => one_L held hR (.slice ov held.length cv) f w1 held.length rfl hr hu (by omega) (by omega)
    obtain ⟨x, hx⟩ : ∃ x, x = one held := ⟨_, rfl⟩
    rw [← hx] at hc
    have HX := Lib.hid hx
    have HC := Lib.hid hc
    clear hc hx hu
    go_enter Try.func19, Try.ntmps19
    go_wp2_with fail
    obtain ⟨W1, hW1⟩ : ∃ W1, W1 = w.setCell ⟨p, 2, none⟩ (.bool true) := ⟨_, rfl⟩
    rw [← hW1]
    obtain ⟨hfar, hh, own⟩ := HA.out
    have h1 : W1.heap[p]? = some (.cells #[.slice ov held.length cv, .int .i64 f, .bool true] 55 (0, 0)) := by rw [hW1]; exact set3_2 hh _
    have own1 : W1.ownsRow bv 5 1 (.slice ov held.length cv) held.length (held.map (Value.int .u8)) := by
      rw [hW1]; exact owns_at own fun j hj => Below.heap_setCell _ _ _ _ (fun e => hfar (by have e' : j = p := e; rw [← e']; exact hj.symm))
    have hfr : Fr w W1 p none := by rw [hW1]; exact ⟨rfl, rfl, rfl, by simp [World.setCell], fun j hj hjp _ => Below.heap_setCell _ _ _ _ hjp⟩
    have hpl1 : p < W1.heap.size := Nat.lt_of_lt_of_le hplt hfr.size
    have hr1 := Row.owned own1
    have H1 := Lib.hid (And.intro h1 (And.intro own1 hfr))
    clear hfar hh own hW1 c0 c1 c2 f0 f1 f2
    obtain ⟨⟨c0, c1, c2⟩, f0, f1, f2⟩ := cells3_of h1
    clear h1 own1 hfr
    have hpn : ¬ p = W1.heap.size := by omega
    have hpn' : ¬ W1.heap.size = p := by omega
    go_region_law
      (first
       | (go_simp; go_at_call 21; refine (HC.out ((W1.alloc (.cells #[.int .i32 0, .int .i64 0, .int .i64 0, .bool false, .bool false] 36)).drew) (hr1.below (by repeat (first | exact Below.refl _ _ | assumption | (refine Below.drew ?_) | (refine below_drewN ?_ _) | (refine bel_new ?_ _) | (refine bel_then ?_ (by assumption)))))).mono ?_; rintro e w2 ⟨rfl, hb2⟩; have hB2 : Below W1.heap.size W1 w2 := bel_then (by repeat (first | exact Below.refl _ _ | (refine Below.drew ?_) | (refine below_drewN ?_ _) | (refine bel_new ?_ _))) hb2; have q0 : w2.cell? ⟨p, 0, none⟩ = some (.slice ov held.length cv) ∧ w2.cell? ⟨p, 1, none⟩ = some (.int .i64 f) := (by rw [hB2.cell (p := ⟨p, 0, none⟩) hpl1, hB2.cell (p := ⟨p, 1, none⟩) hpl1]; exact ⟨c0, c1⟩); have qz : w2.heap[W1.heap.size]? = some (.cells #[.int .i32 0, .int .i64 0, .int .i64 0, .bool false, .bool false] 36 (0, 0)) := (hb2.block _ (by show W1.heap.size < (W1.alloc _).heap.size; simp)).trans (heap_alloc_new W1 _); obtain ⟨⟨i0, i1, i2, i3, i4⟩, j0, j1, j2, j3, j4⟩ := cell5_of qz; have QZ := Lib.hid qz; clear qz)
       | (go_simp; go_at_call 21; refine (HC.out W1.drew (hr1.below (by repeat (first | exact Below.refl _ _ | assumption | (refine Below.drew ?_) | (refine below_drewN ?_ _) | (refine bel_new ?_ _) | (refine bel_then ?_ (by assumption)))))).mono ?_; rintro e w2 ⟨rfl, hb2⟩; have hB2 : Below W1.heap.size W1 w2 := bel_then (by repeat (first | exact Below.refl _ _ | (refine Below.drew ?_) | (refine below_drewN ?_ _) | (refine bel_new ?_ _))) hb2; have q0 : w2.cell? ⟨p, 0, none⟩ = some (.slice ov held.length cv) ∧ w2.cell? ⟨p, 1, none⟩ = some (.int .i64 f) := (by rw [hB2.cell (p := ⟨p, 0, none⟩) hpl1, hB2.cell (p := ⟨p, 1, none⟩) hpl1]; exact ⟨c0, c1⟩)))
    all_goals (
      have hl2 := hB2.size
      first
        | (obtain ⟨W3, hW3⟩ : ∃ W3, W3 = w2.alloc (.cells #[.int .i32 x.r, .int .i64 (f : Int), .int .i64 ((f : Int) + x.n), .bool x.bad, .bool x.more] 36) := ⟨_, rfl⟩
           rw [← hW3]
           have K : W3.heap[w2.heap.size]? = some (.cells #[.int .i32 x.r, .int .i64 (f : Int), .int .i64 ((f : Int) + x.n), .bool x.bad, .bool x.more] 36 (0, 0)) := by rw [hW3]; exact heap_alloc_new w2 _
           have KB : Below W1.heap.size W1 W3 := by rw [hW3]; exact hB2.alloc hl2 _
           have hpq : ¬ w2.heap.size = p := by omega
           have hpq' : ¬ p = w2.heap.size := by omega
           generalize w2.heap.size = q at *
           clear hW3)
        | (obtain ⟨W3, hW3⟩ : ∃ W3, W3 = (((((w2.setCell ⟨W1.heap.size, 0, none⟩ (.int .i32 x.r)).setCell ⟨W1.heap.size, 1, none⟩ (.int .i64 (f : Int))).setCell ⟨W1.heap.size, 2, none⟩ (.int .i64 ((f : Int) + x.n))).setCell ⟨W1.heap.size, 3, none⟩ (.bool x.bad)).setCell ⟨W1.heap.size, 4, none⟩ (.bool x.more)) := ⟨_, rfl⟩
           rw [← hW3]
           have K : W3.heap[W1.heap.size]? = some (.cells #[.int .i32 x.r, .int .i64 (f : Int), .int .i64 ((f : Int) + x.n), .bool x.bad, .bool x.more] 36 (0, 0)) := by rw [hW3]; exact set5 QZ.out _ _ _ _ _
           have KB : Below W1.heap.size W1 W3 := by rw [hW3]; exact ((((hB2.setCell (Nat.le_refl _) _).setCell (Nat.le_refl _) _).setCell (Nat.le_refl _) _).setCell (Nat.le_refl _) _).setCell (Nat.le_refl _) _
           have hpq : ¬ W1.heap.size = p := by omega
           have hpq' : ¬ p = W1.heap.size := by omega
           clear i0 i1 i2 i3 i4 j0 j1 j2 j3 j4 hW3)
      obtain ⟨g1, own1, fr1⟩ := H1.out
      have L : W3.heap[p]? = some (.cells #[.slice ov held.length cv, .int .i64 f, .bool true] 55 (0, 0)) := by rw [KB.block p hpl1]; exact g1
      have fr3 : Fr w W3 p none := ⟨KB.os.trans fr1.os, KB.tape.trans fr1.tape, KB.output.trans fr1.output, Nat.le_trans fr1.size KB.size, fun j hj hjp hjq => (KB.block j (Nat.lt_of_lt_of_le hj fr1.size)).trans (fr1.block j hj hjp hjq)⟩
      clear q0 hb2 hB2 c0 c1 c2 f0 f1 f2 g1 own1 fr1
      obtain ⟨⟨c0, c1, c2⟩, f0, f1, f2⟩ := cells3_of L
      obtain ⟨⟨i0, i1, i2, i3, i4⟩, j0, j1, j2, j3, j4⟩ := cell5_of K
      have H3 := Lib.hid (And.intro L fr3)
      have hs3 := fr3.size
      clear K L fr3
      go_wp2
      go_ret
      have hx := HX.out
      unfold ClosePost
      rw [if_neg hR, ← hx]
      refine ⟨_, .slice none 0 0, rfl, ?_, ⟨?_, World.ownsRow_nil _ _ _ _⟩, ⟨H3.out.2.os, H3.out.2.tape, H3.out.2.output, by simp [World.setCell]; omega, ?_⟩⟩
      · have h := World.ownsRow_lit (e := 36) (base := w.heap.size) (size := 5) (W3.setCell ⟨p, 0, none⟩ (.slice none 0 0)) #[.int .i32 x.r, .int .i64 (f : Int), .int .i64 ((f : Int) + x.n), .bool x.bad, .bool x.more] 1 (by simpa [World.setCell] using hs3) (by decide) (by simp)
        simpa [itsc, itc, World.setCell] using h
      · rw [Below.heap_alloc _ _ _ (by simp [World.setCell]; omega)]
        exact set3_0 H3.out.1 _
      · intro j hj hjp hjq
        rw [Below.heap_alloc _ _ _ (by simp [World.setCell]; omega), Below.heap_setCell _ _ _ _ hjp]
        exact H3.out.2.block j hj hjp hjq)
end Go.Proofs.Ytjdgfhgpbhjcpaa
