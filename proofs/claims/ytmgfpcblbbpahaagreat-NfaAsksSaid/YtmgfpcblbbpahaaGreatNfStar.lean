/- nfa.part: a star. -/
import Derived.Test.YtmgfpcblbbpahaaGreatNfShG
import Derived.Shelf.Spec.SlicesGrow
import Derived.Test.YtmgfpcblbbpahaaGreatNfGlu
import Derived.Deep.LoopGhost
import Derived.Deep.RegionHeld3
import Derived.Deep.RegionLaw
set_option linter.unusedVariables false
set_option linter.unusedSimpArgs false
namespace Go.Proofs.YtmgfpcblbbpahaaGreat
open Go.RowKit

theorem Row.formI {w : World} {v : Value} {n : Nat} {cs : List Value} (h : Row w v n cs) : ∃ o c, v = .slice o n c := by obtain ⟨o, c, e, _⟩ := h; exact ⟨o, c, e⟩

theorem growI_any (n : Nat) (w : World) (hn : n ≤ 10000000) :
    Calls Tryz.prog 81 #[.slice none 0 0, .int .i64 n] w fun e w' => ∃ v, e = .returned v ∧ w'.ownsRow w.heap.size 3 1 v 0 [] ∧ Below w.heap.size w w' := by
  obtain ⟨i0, hi, hz0, hz1, hz2⟩ := infoInt1
  by_cases h0 : n = 0
  · subst h0
    have hc := Any8.slices_Grow_room Tryz.growI none 0 0 0 w (Nat.le_refl _) (by omega) (by omega) (by omega)
    change Calls Tryz.prog 81 _ _ _ at hc
    refine hc.mono fun e w' ⟨he, hw⟩ => ?_
    subst hw
    exact ⟨_, he, World.ownsRow_nil _ _ _ _, Below.refl _ _⟩
  · have hc := Any8.slices_Grow_grow Tryz.growI i0 _ hi hz0 (by omega) none 0 0 n [] w (Nat.le_refl _) (by omega) (by rw [hz2]; omega) (by omega) (by simp) (fun _ => rfl) (fun a h => by cases h)
    change Calls Tryz.prog 81 _ _ _ at hc
    refine hc.mono fun e w' ⟨he, hw⟩ => ?_
    subst hw
    refine ⟨_, he, ?_, ((Below.refl _ _).drew.alloc (by simp) _)⟩
    have hge := grownCap_ge w (0 + n) 0 3
    have hle := grownCap_le_maxLen w (0 + n) 0 3 (by unfold maxLen; omega)
    refine ⟨rfl, .inr ⟨w.heap.size, _, _, rfl, Nat.le_refl _, heap_alloc_new w.drew _, by omega, hle, ?_, by simp⟩⟩
    have e2 : (Value.int .i64 0).cells.size = 1 := rfl
    obtain ⟨C, hC⟩ : ∃ C, C = grownCap w (0 + n) 0 3 := ⟨_, rfl⟩
    have hC2 : grownCap w (0 + n) 0 (Tryz.growI_ren.t 25) = C := hC.symm
    rw [← hC] at hge hle
    rw [hC2, Array.size_append, Array.size_append, size_zeroCells, size_zeroCells, e2]
    simp
    omega

set_option maxHeartbeats 1000000 in
set_option maxRecDepth 1000000 in
theorem concatI_any (a b : List Int) (va vb : Value) (g : Nat) (w : World) (ha : Row w va a.length (ints1 a)) (hb : Row w vb b.length (ints1 b)) (hna : a.length ≤ 1000000) (hnb : b.length ≤ 1000000)
    (h0 : w.cell? ⟨g, 0, none⟩ = some va) (h1 : w.cell? ⟨g, 1, none⟩ = some vb) :
    Calls Tryz.prog 56 #[.slice (some ⟨g, 0, none⟩) 2 2] w fun e w' => ∃ u, e = .returned u ∧ w'.ownsRow w.heap.size 3 1 u (a ++ b).length (ints1 (a ++ b)) ∧ Below w.heap.size w w' := by
  obtain ⟨i0, hi, hz0, hz1, hz2⟩ := infoInt1
  have hlt := World.block_lt_of_cell? w _ h0
  simp only at hlt
  have Ha := Lib.hid ha
  have Hb := Lib.hid hb
  obtain ⟨oa, ca, rfl⟩ := ha.formI
  obtain ⟨ob, cb, rfl⟩ := hb.formI
  clear ha hb
  go_enter Tryz.func56, Tryz.ntmps56
  go_wp2_with fail
  refine wp_loop_rounds 3 ?_
  rw [rounds_succ]
  go_wp2_with fail
  rw [rounds_succ]
  go_wp2_with fail
  rw [rounds_succ]
  go_wp2_with fail
  have hw0 : (a.length : Int) + b.length = ((a.length + b.length : Nat) : Int) := by omega
  rw [hw0]
  clear hw0
  obtain ⟨n, hn⟩ : ∃ n, n = a.length + b.length := ⟨_, rfl⟩
  rw [← hn]
  have Hn := Lib.hid hn
  have hn2 : n ≤ 10000000 := by omega
  clear hn
  refine (growI_any n _ hn2).mono ?_
  rintro e w1 ⟨v1, rfl, hown1, hb1⟩
  have h10 := h0
  have h11 := h1
  rw [← hb1.cell (p := ⟨g, 0, none⟩) hlt] at h10
  rw [← hb1.cell (p := ⟨g, 1, none⟩) hlt] at h11
  have Hw := Lib.hid (And.intro h0 h1)
  clear h0 h1
  go_wp2_with fail
  refine wp_loop_rounds 3 ?_
  rw [rounds_succ]
  go_wp2_with (at_builtin; refine wpList_append_row _ rfl _ _ 23 rfl w.heap.size 3 i0 (.int .i64 0) 1 8 Tryz.underlying23 hi hz0 hz1 hz2 rfl (by decide) _ _ _ rfl hown1 _ a.length (ints1 a) rfl (Ha.out.below hb1) (by simp) (by simp [Value.oneCell']) (by unfold maxLen; omega) (by omega) hb1.size ?_; intro v2 w2 hown2 hg2)
  have hb2 : Below w.heap.size w w2 := bel_grown hb1 hg2 (fun j hj => (hown1.lt j hj).1)
  rw [List.nil_append, Nat.zero_add] at hown2
  have h21 := Hw.out.2
  rw [← hb2.cell (p := ⟨g, 1, none⟩) hlt] at h21
  clear hown1 hg2 hb1 h10 h11
  rw [rounds_succ]
  go_wp2_with (at_builtin; refine wpList_append_row _ rfl _ _ 23 rfl w.heap.size 3 i0 (.int .i64 0) 1 8 Tryz.underlying23 hi hz0 hz1 hz2 rfl (by decide) _ _ _ rfl hown2 _ b.length (ints1 b) rfl (Hb.out.below hb2) (by simp) (by simp [Value.oneCell']) (by unfold maxLen; omega) (by omega) hb2.size ?_; intro v3 w3 hown3 hg3)
  have hb3 : Below w.heap.size w w3 := bel_grown hb2 hg3 (fun j hj => (hown2.lt j hj).1)
  rw [← ints1_app] at hown3
  have H3 := Lib.hid (And.intro hown3 hb3)
  clear hown2 hown3 hg3 hb2 hb3 h21
  rw [rounds_succ]
  go_wp2
  go_ret
  exact ⟨_, rfl, by rw [List.length_append]; exact H3.out.1, H3.out.2⟩

theorem concat2_any (a b : List Int) (va vb : Value) (w : World) (ha : Row w va a.length (ints1 a)) (hb : Row w vb b.length (ints1 b)) (hna : a.length ≤ 1000000) (hnb : b.length ≤ 1000000) :
    Calls Tryz.prog 56 #[.slice (some ⟨w.heap.size, 0, none⟩) 2 2] (w.alloc (.cells #[va, vb] 23)) fun e w' => ∃ u, e = .returned u ∧ w'.ownsRow w.heap.size 3 1 u (a ++ b).length (ints1 (a ++ b)) ∧ Below w.heap.size w w' := by
  have hal : Below w.heap.size w (w.alloc (.cells #[va, vb] 23)) := bel_new (Below.refl _ _) _
  have hg : (w.alloc (.cells #[va, vb] 23)).heap[w.heap.size]? = some (.cells #[va, vb] 23 (0, 0)) := World.alloc_heap_new w _
  refine (concatI_any a b va vb w.heap.size _ (ha.below hal) (hb.below hal) hna hnb (by simp only [World.cell?, hg]; rfl) (by simp only [World.cell?, hg]; rfl)).mono ?_
  rintro e w' ⟨u, he, ho, hb'⟩
  exact ⟨u, he, Joins.ownsRow_le ho (by simp), hal.trans (hb'.mono (by simp))⟩

theorem through_f (vf vn : Value) (w : World) : Calls Tryz.prog 57 #[.bool false, vf, vn] w fun e w' => e = .returned vn ∧ w' = w := by
  go_enter Tryz.func57, Tryz.ntmps57
  go_wp2_with fail
  go_ret
  exact ⟨rfl, rfl⟩
theorem through_t (far near : List Int) (vf vn : Value) (w : World) (hf : Row w vf far.length (ints1 far)) (hn : Row w vn near.length (ints1 near)) (hlf : far.length ≤ 1000000) (hln : near.length ≤ 1000000) :
    Calls Tryz.prog 57 #[.bool true, vf, vn] w fun e w' => ∃ u, e = .returned u ∧ w'.ownsRow w.heap.size 3 1 u (near ++ far).length (ints1 (near ++ far)) ∧ Below w.heap.size w w' := by
  have hc := concat2_any near far vn vf w hn hf hln hlf
  obtain ⟨of, cf, rfl⟩ := hf.formI
  obtain ⟨on, cn, rfl⟩ := hn.formI
  have HC := Lib.hid hc
  clear hf hn hc
  go_enter Tryz.func57, Tryz.ntmps57
  go_wp2_with (go_at_call 56; refine HC.out.mono ?_; rintro e w' ⟨u, rfl, ho, hb⟩)
  go_ret
  exact ⟨u, rfl, ho, hb⟩
end Go.Proofs.YtmgfpcblbbpahaaGreat

namespace Go.Proofs.YtmgfpcblbbpahaaGreat
open Go.RowKit Ru

abbrev posV (qn : Nat) : Value := .func (.func 28) #[] #[.pointer (some ⟨qn, 0, none⟩)]
theorem pos_any (qn : Nat) (n : Int) (w : World) (hq : w.heap[qn]? = some (.cells #[.int .i64 n] 3 (0, 0))) (hn : 0 ≤ n ∧ n ≤ 1000000) :
    Calls Tryz.prog 28 #[.pointer (some ⟨qn, 0, none⟩)] w fun e w' => e = .returned (.int .i64 n) ∧ w.setCell ⟨qn, 0, none⟩ (.int .i64 (n + 1)) = w' := by
  have hc : w.cell? ⟨qn, 0, none⟩ = some (.int .i64 n) := by simp [World.cell?, hq]
  have hf : w.frozen? ⟨qn, 0, none⟩ = false := by simp [World.frozen?, hq]
  obtain ⟨w1, hw1⟩ : ∃ w1, w.setCell ⟨qn, 0, none⟩ (.int .i64 (n + 1)) = w1 := ⟨_, rfl⟩
  have hc1 : w1.cell? ⟨qn, 0, none⟩ = some (.int .i64 (n + 1)) := by rw [← hw1]; simp [World.cell?, World.setCell, Array.getElem?_modify, hq]
  have h0 := hn.1
  have h1 := hn.2
  clear hq hn
  go_enter Tryz.func28, Tryz.ntmps28
  go_wp2_with fail
  go_ret
  exact ⟨by simp, by first | rfl | exact hw1⟩

structure PS (w0 w : World) (fb qn pb : Nat) (vs : List Value) (F : List (List Int)) (n : Int) : Prop where
  fol : Fol w w0.heap.size fb vs F
  box : w.heap[qn]? = some (.cells #[.int .i64 n] 3 (0, 0))
  pl : pb < w.heap.size
  pc : w.cell? ⟨pb, 1, none⟩ = some (.slice (some ⟨fb, 0, none⟩) F.length F.length)
  far : ¬ inF vs fb pb ∧ ¬ inF vs fb qn ∧ pb ≠ qn
  low : w0.heap.size ≤ qn ∧ w0.heap.size ≤ pb
  bel : Below w0.heap.size w0 w
theorem PS.moved {w0 w w' : World} {fb qn pb : Nat} {vs : List Value} {F : List (List Int)} {n : Int} (h : PS w0 w fb qn pb vs F n) (hb : Below w.heap.size w w') : PS w0 w' fb qn pb vs F n :=
  ⟨h.fol.moved hb, bel_get hb h.box, Nat.lt_of_lt_of_le h.pl hb.size, (hb.cell (p := ⟨pb, 1, none⟩) h.pl).trans h.pc, h.far, h.low, h.bel.trans (hb.mono h.bel.size)⟩
structure PPost (w0 w : World) (fb qn pb : Nat) (vs : List Value) (r : (Bool × List Int × List Int) × Int × List (List Int)) (fv lv : Value) (w' : World) : Prop where
  st : ∃ vs', PS w0 w' fb qn pb vs' r.2.2 r.2.1 ∧ (∀ j, inF vs' fb j → inF vs fb j ∨ w.heap.size ≤ j) ∧
    KP (fun k => w.heap.size ≤ k ∧ k < w'.heap.size ∧ ¬ inF vs' fb k) w' (fun x => Row x fv r.1.2.1.length (ints1 r.1.2.1) ∧ Row x lv r.1.2.2.length (ints1 r.1.2.2))
  ag : Ag (fun j => ¬ inF vs fb j ∧ j ≠ qn) w w'
theorem inF_lt {w : World} {B fb : Nat} {vs : List Value} {F : List (List Int)} (h : Fol w B fb vs F) {j : Nat} (hj : inF vs fb j) : j < w.heap.size ∧ B ≤ j := by
  rcases hj with rfl | ⟨i, hi, hk⟩
  · exact ⟨h.lt, h.above⟩
  · have := h.ne (by rw [← h.len]; exact hi) hk
    exact ⟨this.2.1, this.2.2⟩
theorem PS.agb {w0 w w' : World} {fb qn pb : Nat} {vs : List Value} {F : List (List Int)} {n : Int} (h : PS w0 w fb qn pb vs F n) (ha : Ag (fun j => ¬ inF vs fb j ∧ j ≠ qn) w w') : Below w0.heap.size w0 w' :=
  h.bel.trans (ha.below h.bel.size fun k hk => ⟨fun hj => by have := (inF_lt h.fol hj).2; omega, by have := h.low; omega⟩)

abbrev reV (e : RE) (sv lv : Value) : Value := .agg #[.int .i64 e.kind, sv, lv]
def PIh (w0 : World) (fb qn pb N : Nat) : Prop :=
  ∀ (e : RE) (sv lv : Value), e.size ≤ N → e.prt = true → e.size ≤ 60 → ReIs w0 e sv lv → ∀ (w : World) (vs : List Value) (F : List (List Int)) (n : Int) (L : Nat), PS w0 w fb qn pb vs F n → 0 ≤ n → n + (Nf.sts e).length ≤ (F.length : Int) → (∀ r ∈ F, r.length ≤ L) → L + e.size * 3600 ≤ 3999999 →
    Calls Tryz.prog 30 #[.pointer (some ⟨pb, 0, none⟩), reV e sv lv, posV qn] w fun x w' => ∃ fv lv', x = .returned (.agg #[.bool (Nf.pt e n F).1.1, fv, lv']) ∧ PPost w0 w fb qn pb vs (Nf.pt e n F) fv lv' w'

theorem part_cells {w : World} {b : Nat} {x y z : Value} {t : TypeId} (h : w.heap[b]? = some (.cells #[x, y, z] t (0, 0))) : w.cell? ⟨b, 0, none⟩ = some x ∧ w.cell? ⟨b, 1, none⟩ = some y ∧ w.cell? ⟨b, 2, none⟩ = some z := by
  refine ⟨?_, ?_, ?_⟩ <;> simp [World.cell?, h]
theorem part_froz {w : World} {b : Nat} {x y z : Value} {t : TypeId} (h : w.heap[b]? = some (.cells #[x, y, z] t (0, 0))) : w.frozen? ⟨b, 0, none⟩ = false ∧ w.frozen? ⟨b, 1, none⟩ = false ∧ w.frozen? ⟨b, 2, none⟩ = false := by
  refine ⟨?_, ?_, ?_⟩ <;> simp [World.frozen?, h]
theorem set3_at {w : World} {b : Nat} {x y z : Value} {t : TypeId} (h : w.heap[b]? = some (.cells #[x, y, z] t (0, 0))) (a c d : Value) : (((w.setCell ⟨b, 0, none⟩ a).setCell ⟨b, 1, none⟩ c).setCell ⟨b, 2, none⟩ d).heap[b]? = some (.cells #[a, c, d] t (0, 0)) := by
  simp [World.setCell, Array.getElem?_modify, h]
theorem PPost.leaf {w0 w w' : World} {fb qn pb : Nat} {vs : List Value} {F : List (List Int)} {n : Int} {q : Bool} (h : PS w0 w fb qn pb vs F n) (hb : Below w.heap.size w w') : PPost w0 w fb qn pb vs ((q, [], []), n, F) (.slice none 0 0) (.slice none 0 0) w' :=
  ⟨⟨vs, h.moved hb, fun j hj => .inl hj, fun x _ => ⟨Row.nil x, Row.nil x⟩⟩, .of hb⟩
set_option maxRecDepth 100000 in
set_option maxHeartbeats 2000000 in
theorem part_leaf (w0 : World) (fb qn pb : Nat) (k : Int) (s : List Pc) (sv lv : Value) (hk : k = 0 ∨ k = 1) (w : World) (vs : List Value) (F : List (List Int)) (n : Int) (h : PS w0 w fb qn pb vs F n) (hsv : ∃ o a c, sv = .slice o a c) (hlv : ∃ o a c, lv = .slice o a c) :
    Calls Tryz.prog 30 #[.pointer (some ⟨pb, 0, none⟩), .agg #[.int .i64 k, sv, lv], posV qn] w fun x w' => ∃ fv lv', x = .returned (.agg #[.bool (decide (k = 1)), fv, lv']) ∧ PPost w0 w fb qn pb vs ((decide (k = 1), [], []), n, F) fv lv' w' := by
  have H := Lib.hid h
  obtain ⟨o1, a1, c1, rfl⟩ := hsv
  obtain ⟨o2, a2, c2, rfl⟩ := hlv
  clear h
  rcases hk with rfl | rfl
  · go_enter Tryz.func30, Tryz.ntmps30
    go_wp2_with fail
    obtain ⟨d0, d1, d2⟩ := part_cells (World.alloc_heap_new (w.alloc (.cells #[.int .i64 0, .slice o1 a1 c1, .slice o2 a2 c2] 41)) (.cells #[.bool false, .slice none 0 0, .slice none 0 0] 62))
    rw [World.size_alloc] at d0 d1 d2
    simp [bodyPost, results, Tryz.results30, go_sem, d0, d1, d2]
    exact ⟨_, _, ⟨rfl, rfl⟩, PPost.leaf H.out (bel_new (bel_new (Below.refl _ _) _) _)⟩
  · go_enter Tryz.func30, Tryz.ntmps30
    go_wp2_with fail
    obtain ⟨d0, d1, d2⟩ := part_cells (World.alloc_heap_new (w.alloc (.cells #[.int .i64 1, .slice o1 a1 c1, .slice o2 a2 c2] 41)) (.cells #[.bool true, .slice none 0 0, .slice none 0 0] 62))
    rw [World.size_alloc] at d0 d1 d2
    simp [bodyPost, results, Tryz.results30, go_sem, d0, d1, d2]
    exact ⟨_, _, ⟨rfl, rfl⟩, PPost.leaf H.out (bel_new (bel_new (Below.refl _ _) _) _)⟩

set_option maxRecDepth 100000 in
set_option maxHeartbeats 2000000 in
theorem part_set (w0 : World) (fb qn pb : Nat) (s : List Pc) (sv lv : Value) (w : World) (vs : List Value) (F : List (List Int)) (n : Int) (h : PS w0 w fb qn pb vs F n) (hn : 0 ≤ n ∧ n < (F.length : Int)) (hsv : ∃ o a c, sv = .slice o a c) (hlv : ∃ o a c, lv = .slice o a c) :
    Calls Tryz.prog 30 #[.pointer (some ⟨pb, 0, none⟩), .agg #[.int .i64 2, sv, lv], posV qn] w fun x w' => ∃ fv lv', x = .returned (.agg #[.bool false, fv, lv']) ∧ PPost w0 w fb qn pb vs ((false, [n], [n]), n + 1, F) fv lv' w' := by
  have H := Lib.hid h
  obtain ⟨o1, a1, c1, rfl⟩ := hsv
  obtain ⟨o2, a2, c2, rfl⟩ := hlv
  have hfew := h.fol.few
  obtain ⟨W, hW⟩ : ∃ W, W = (w.alloc (.cells #[.int .i64 2, .slice o1 a1 c1, .slice o2 a2 c2] 41)).alloc (.cells #[.bool false, .slice none 0 0, .slice none 0 0] 62) := ⟨_, rfl⟩
  have hbW : Below w.heap.size w W := by rw [hW]; exact bel_new (bel_new (Below.refl _ _) _) _
  have hp := pos_any qn n W (bel_get hbW h.box) ⟨hn.1, by omega⟩
  have eg : ∀ args w, (callFunc 28 args).run Tryz.prog w = .ok (.enter 28 args) w := enters_of Tryz.func28 (by kernel_rfl) rfl
  rw [hW] at hp
  have HW := Lib.hid hW
  have HP := Lib.hid hp
  clear h hW hp hbW
  go_enter Tryz.func30, Tryz.ntmps30
  go_wp2_with fail
  refine HP.out.mono ?_
  rintro e w2 ⟨rfl, hw2⟩
  have hold : ∀ j, j ≠ qn → w2.heap[j]? = W.heap[j]? := fun j hj => by rw [← hw2, ← HW.out]; exact Below.heap_setCell _ _ _ _ hj
  have hsz2 : w2.heap.size = w.heap.size + 2 := by rw [← hw2]; simp [World.setCell]
  have hql : qn < w.heap.size := (Array.getElem?_eq_some_iff.1 H.out.box).1
  have hpb2 : w2.heap[w.heap.size + 1]? = some (.cells #[.bool false, .slice none 0 0, .slice none 0 0] 62 (0, 0)) := by
    rw [hold _ (by omega), HW.out]
    have := World.alloc_heap_new (w.alloc (.cells #[.int .i64 2, .slice o1 a1 c1, .slice o2 a2 c2] 41)) (.cells #[.bool false, .slice none 0 0, .slice none 0 0] 62)
    rwa [World.size_alloc] at this
  have hq2 : w2.heap[qn]? = some (.cells #[.int .i64 (n + 1)] 3 (0, 0)) := by
    have hb := H.out.box
    have : W.heap[qn]? = some (.cells #[.int .i64 n] 3 (0, 0)) := by rw [HW.out]; exact bel_get (bel_new (bel_new (Below.refl _ _) _) _) hb
    rw [← hw2, ← HW.out]
    simp [World.setCell, Array.getElem?_modify, this]
  have hag2 : Ag (fun j => j ≠ qn) w w2 := by
    rw [← hw2, ← HW.out]
    refine Ag.setCell ?_ (fun h => h rfl) _
    rw [HW.out]
    exact ((Ag.refl _ w).alloc _).alloc _
  have hpn : w2.heap[w.heap.size + 1]? ≠ none := by rw [hpb2]; simp
  obtain ⟨e0, e1, e2⟩ := part_cells hpb2
  obtain ⟨z0, z1, z2⟩ := part_froz hpb2
  have HO := Lib.hid hold
  have HB2 := Lib.hid hpb2
  have HQ2 := Lib.hid hq2
  have HAG := Lib.hid hag2
  clear hw2 hold hpb2 hq2 hag2 hpn
  go_wp2_with fail
  have hfin := bel_get (bel_new (Below.refl _ _) (.cells #[.int .i64 n] 3)) (set3_at HB2.out (.bool false) (.slice (some ⟨w.heap.size + 2, 0, none⟩) 1 1) (.slice (some ⟨w.heap.size + 2, 0, none⟩) 1 1))
  obtain ⟨d0, d1, d2⟩ := part_cells hfin
  simp [bodyPost, results, Tryz.results30, go_sem, d0, d1, d2]
  refine ⟨_, _, ⟨rfl, rfl⟩, ?_⟩
  obtain ⟨w3, hw3⟩ : ∃ w3, ((w2.setCell ⟨w.heap.size + 1, 0, none⟩ (.bool false)).setCell ⟨w.heap.size + 1, 1, none⟩ (.slice (some ⟨w.heap.size + 2, 0, none⟩) 1 1)).setCell ⟨w.heap.size + 1, 2, none⟩ (.slice (some ⟨w.heap.size + 2, 0, none⟩) 1 1) = w3 := ⟨_, rfl⟩
  rw [hw3]
  have hs3 : w3.heap.size = w.heap.size + 2 := by rw [← hw3]; simp [World.setCell, hsz2]
  have hag3 : Ag (fun j => j ≠ qn ∧ j < w.heap.size) w w3 := by
    rw [← hw3]
    exact (((HAG.out.sub (fun k _ h => h.1)).setCell (fun h => by have : w.heap.size + 1 < w.heap.size := h.2; omega) _).setCell (fun h => by have : w.heap.size + 1 < w.heap.size := h.2; omega) _).setCell (fun h => by have : w.heap.size + 1 < w.heap.size := h.2; omega) _
  have hq3 : w3.heap[qn]? = some (.cells #[.int .i64 (n + 1)] 3 (0, 0)) := by
    rw [← hw3, Below.heap_setCell _ _ _ _ (show qn ≠ w.heap.size + 1 by omega), Below.heap_setCell _ _ _ _ (show qn ≠ w.heap.size + 1 by omega), Below.heap_setCell _ _ _ _ (show qn ≠ w.heap.size + 1 by omega)]
    exact HQ2.out
  clear hw3 d0 d1 d2 hfin
  have hh := H.out
  have hag4 := hag3.alloc (.cells #[.int .i64 n] 3)
  have hag5 : Ag (fun j => ¬ inF vs fb j ∧ j ≠ qn) w (w3.alloc (.cells #[.int .i64 n] 3)) := hag4.sub (fun k hk h => ⟨h.2, hk⟩)
  refine ⟨⟨vs, ⟨hh.fol.ag (hag4.sub (fun k hk hin => ⟨fun e => hh.far.2.1 (e ▸ hin), hk⟩)), bel_get (bel_new (Below.refl _ _) _) hq3, Nat.lt_of_lt_of_le hh.pl hag5.size, ?_, hh.far, hh.low, hh.agb hag5⟩, fun j hj => .inl hj, ?_⟩, hag5⟩
  · rw [← hh.pc]
    simp only [World.cell?]
    rw [hag5.block pb hh.pl ⟨hh.far.1, hh.far.2.2⟩]
  · have hnew : (w3.alloc (.cells #[.int .i64 n] 3)).heap[w.heap.size + 2]? = some (.cells #[.int .i64 n] 3 (0, 0)) := by
      have := World.alloc_heap_new w3 (.cells #[.int .i64 n] 3)
      rwa [hs3] at this
    refine (KP.block hnew ⟨by omega, by simp [hs3], fun hin => by have := (inF_lt hh.fol hin).1; omega⟩).mono fun x hx => ?_
    have hrow : Row x (.slice (some ⟨w.heap.size + 2, 0, none⟩) 1 1) 1 (ints1 [n]) := by
      refine ⟨_, _, rfl, Nat.le_refl _, by simp [maxLen], .inr ⟨_, 0, rfl, (Array.getElem?_eq_some_iff.1 hx).1, fun j u hu => ?_⟩⟩
      cases j with
      | zero => simp at hu; subst hu; simp [World.cell?, hx]
      | succ j => simp at hu
    exact ⟨hrow, hrow⟩
end Go.Proofs.YtmgfpcblbbpahaaGreat

namespace Go.Proofs.YtmgfpcblbbpahaaGreat
open Go.RowKit Ru

structure Tr (fb qn : Nat) (w : World) (vs : List Value) (w' : World) (vs' : List Value) : Prop where
  ag : Ag (fun j => ¬ inF vs fb j ∧ j ≠ qn) w w'
  new : ∀ j, inF vs' fb j → inF vs fb j ∨ w.heap.size ≤ j
section
variable {fb qn pb : Nat} {w0 w w1 w2 : World} {vs vs1 vs2 : List Value} {F : List (List Int)} {n : Int}
theorem Tr.trans (h : Tr fb qn w vs w1 vs1) (k : Tr fb qn w1 vs1 w2 vs2) : Tr fb qn w vs w2 vs2 := by
  have hs := h.ag.size
  refine ⟨⟨k.ag.os.trans h.ag.os, k.ag.tape.trans h.ag.tape, k.ag.output.trans h.ag.output, Nat.le_trans hs k.ag.size, fun j hj hS => (k.ag.block j (by omega) ⟨fun hj2 => ?_, hS.2⟩).trans (h.ag.block j hj hS)⟩, fun j hj => ?_⟩
  · rcases h.new j hj2 with h4 | h4
    · exact hS.1 h4
    · omega
  · rcases k.new j hj with h4 | h4
    · exact h.new j h4
    · exact .inr (by omega)
theorem Tr.old (h : Below w.heap.size w w1) : Tr fb qn w vs w1 vs := ⟨.of h, fun j hj => .inl hj⟩
theorem Tr.set (h : Tr fb qn w vs w1 vs1) {b : Nat} (hb : w.heap.size ≤ b) (i : Nat) (x : Value) : Tr fb qn w vs (w1.setCell ⟨b, i, none⟩ x) vs1 := by
  refine ⟨⟨h.ag.os, h.ag.tape, h.ag.output, by have := h.ag.size; simpa [World.setCell] using this, fun j hj hS => ?_⟩, h.new⟩
  rw [Below.heap_setCell _ _ _ _ (show j ≠ (⟨b, i, none⟩ : Addr).block by show j ≠ b; omega)]
  exact h.ag.block j hj hS
theorem Tr.link {B : Nat} {l tq : List Int} {k : Nat} (h : LinkAt w B fb vs F l tq k w1) : ∃ vs', Fol w1 B fb vs' (linkF F (l.take k) tq) ∧ Tr fb qn w vs w1 vs' := by
  obtain ⟨⟨vs', h1, h2⟩, h3⟩ := h
  exact ⟨vs', h1, h3.sub (fun k _ hk => hk.1), h2⟩
def PRw (w : World) (lo hi fb : Nat) (vs : List Value) (v : Value) (l : List Int) : Prop := hi ≤ w.heap.size ∧ KP (fun k => lo ≤ k ∧ k < hi ∧ ¬ inF vs fb k) w (fun x => Row x v l.length (ints1 l))
variable {lo hi : Nat} {v : Value} {l : List Int}
theorem PRw.row (h : PRw w lo hi fb vs v l) : Row w v l.length (ints1 l) := h.2.here
theorem PRw.tr (h : PRw w lo hi fb vs v l) (k : Tr fb qn w vs w1 vs1) (hq : qn < lo) : PRw w1 lo hi fb vs1 v l := by
  refine ⟨Nat.le_trans h.1 k.ag.size, (h.2.to (k.ag.sub fun j _ hj => ⟨hj.2.2, by omega⟩)).sub fun j _ hj => ⟨hj.1, hj.2.1, fun hj2 => ?_⟩⟩
  have := h.1
  rcases k.new j hj2 with h4 | h4
  · exact hj.2.2 h4
  · omega
theorem PRw.set (h : PRw w lo hi fb vs v l) {b : Nat} (hb : b < lo ∨ hi ≤ b) (i : Nat) (x : Value) : PRw (w.setCell ⟨b, i, none⟩ x) lo hi fb vs v l :=
  ⟨by have := h.1; simpa [World.setCell] using this, h.2.to ((Ag.refl _ w).setCell (fun hn => by have h1 : lo ≤ b := hn.1; have h2 : b < hi := hn.2.1; omega) x)⟩
theorem PRw.wide (h : PRw w lo hi fb vs v l) {lo' hi' : Nat} (hl : lo' ≤ lo) (hh : hi ≤ hi') (hs : hi' ≤ w.heap.size) : PRw w lo' hi' fb vs v l :=
  ⟨hs, h.2.sub fun k _ hk => ⟨by omega, by omega, hk.2.2⟩⟩
theorem PRw.own {B base : Nat} (h : w.ownsRow base 3 1 v l.length (ints1 l)) (hf : Fol w1 B fb vs F) (hb : w1.heap.size ≤ base) (hlo : lo ≤ base) (hs : hi = w.heap.size) : PRw w lo hi fb vs v l := by
  refine ⟨by omega, fun x hx => Row.owned (owns_ag h hx fun j hj => ?_)⟩
  have := h.lt j hj
  exact ⟨by omega, by omega, fun hin => by have := (inF_lt hf hin).1; omega⟩
theorem PPost.rows {r : (Bool × List Int × List Int) × Int × List (List Int)} {fv lv : Value} (h : PPost w0 w fb qn pb vs r fv lv w1) :
    ∃ vs', PS w0 w1 fb qn pb vs' r.2.2 r.2.1 ∧ Tr fb qn w vs w1 vs' ∧ PRw w1 w.heap.size w1.heap.size fb vs' fv r.1.2.1 ∧ PRw w1 w.heap.size w1.heap.size fb vs' lv r.1.2.2 := by
  obtain ⟨⟨vs', h1, h2, h3⟩, h4⟩ := h
  exact ⟨vs', h1, ⟨h4, h2⟩, ⟨Nat.le_refl _, h3.mono fun _ h => h.1⟩, ⟨Nat.le_refl _, h3.mono fun _ h => h.2⟩⟩
theorem PPost.of {r : (Bool × List Int × List Int) × Int × List (List Int)} {fv lv : Value} (h1 : PS w0 w1 fb qn pb vs1 r.2.2 r.2.1) (h2 : Tr fb qn w vs w1 vs1) (h3 : PRw w1 w.heap.size w1.heap.size fb vs1 fv r.1.2.1) (h4 : PRw w1 w.heap.size w1.heap.size fb vs1 lv r.1.2.2) : PPost w0 w fb qn pb vs r fv lv w1 :=
  ⟨⟨vs1, h1, h2.new, fun x hx => ⟨h3.2 x hx, h4.2 x hx⟩⟩, h2.ag⟩
theorem PS.set (h : PS w0 w fb qn pb vs F n) {b : Nat} (hq : b ≠ qn) (hp : b ≠ pb) (hf : ¬ inF vs fb b) (hB : w0.heap.size ≤ b) (i : Nat) (x : Value) : PS w0 (w.setCell ⟨b, i, none⟩ x) fb qn pb vs F n := by
  have hq2 : qn ≠ (⟨b, i, none⟩ : Addr).block := fun e => hq e.symm
  have hp2 : pb ≠ (⟨b, i, none⟩ : Addr).block := fun e => hp e.symm
  refine ⟨h.fol.ag ((Ag.refl _ w).setCell hf x), by rw [Below.heap_setCell _ _ _ _ hq2]; exact h.box, by have := h.pl; simpa [World.setCell] using this, ?_, h.far, h.low, h.bel.setCell (p := ⟨b, i, none⟩) hB x⟩
  rw [← h.pc]
  simp only [World.cell?]
  rw [Below.heap_setCell _ _ _ _ hp2]
theorem PS.linked {l tq : List Int} (h : PS w0 w fb qn pb vs F n) (hl : LinkAt w w0.heap.size fb vs F l tq l.length w1) : ∃ vs', PS w0 w1 fb qn pb vs' (linkF F l tq) n ∧ Tr fb qn w vs w1 vs' := by
  obtain ⟨vs', h1, h2⟩ := Tr.link (qn := qn) hl
  rw [List.take_length] at h1
  have hag := hl.ag
  have hql : qn < w.heap.size := (Array.getElem?_eq_some_iff.1 h.box).1
  refine ⟨vs', ⟨h1, by rw [hag.block qn hql h.far.2.1]; exact h.box, Nat.lt_of_lt_of_le h.pl hag.size, ?_, ⟨fun hin => ?_, fun hin => ?_, h.far.2.2⟩, h.low, h.agb h2.ag⟩, h2⟩
  · rw [linkF_len, ← h.pc]
    simp only [World.cell?]
    rw [hag.block pb h.pl h.far.1]
  · rcases h2.new pb hin with h4 | h4
    · exact h.far.1 h4
    · have := h.pl; omega
  · rcases h2.new qn hin with h4 | h4
    · exact h.far.2.1 h4
    · omega
end
end Go.Proofs.YtmgfpcblbbpahaaGreat

namespace Go.Proofs.YtmgfpcblbbpahaaGreat
open Go.RowKit Ru

theorem sq60 {c : Nat} (h : c ≤ 60) : c * c ≤ 3600 := Nat.mul_le_mul h h

set_option maxRecDepth 100000 in
set_option maxHeartbeats 4000000 in
theorem part_star (w0 : World) (fb qn pb N : Nat) (ih : PIh w0 fb qn pb N) (s : List Pc) (a : RE) (sv lv : Value) (hsz : a.size ≤ N) (hp : a.prt = true) (h60 : a.size + 1 ≤ 60) (hre : ReIs w0 (.mk 5 s [a]) sv lv)
    (w : World) (vs : List Value) (F : List (List Int)) (n : Int) (L : Nat) (h : PS w0 w fb qn pb vs F n) (hn : 0 ≤ n) (hnF : n + (Nf.sts a).length ≤ (F.length : Int)) (hL : ∀ r ∈ F, r.length ≤ L) (hLs : L + (a.size + 1) * 3600 ≤ 3999999) :
    Calls Tryz.prog 30 #[.pointer (some ⟨pb, 0, none⟩), .agg #[.int .i64 5, sv, lv], posV qn] w fun x w' => ∃ fv lv', x = .returned (.agg #[.bool true, fv, lv']) ∧ PPost w0 w fb qn pb vs (Nf.pt (.mk 5 s [a]) n F) fv lv' w' := by
  have hform : ∃ o c, sv = .slice o s.length c := hre.form.1
  obtain ⟨o1, q1, rfl⟩ := hform
  have hpart : ∃ b off cap s' l', lv = .slice (some ⟨b, off, none⟩) 1 cap ∧ b < w0.heap.size ∧ w0.cell? ⟨b, off + 0 * 3, none⟩ = some (.int .i64 a.kind) ∧ w0.cell? ⟨b, off + 0 * 3 + 1, none⟩ = some s' ∧ w0.cell? ⟨b, off + 0 * 3 + 2, none⟩ = some l' ∧ ReIs w0 a s' l' := hre.part (i := 0) (p := a) rfl
  obtain ⟨b, off, cap, s', l', rfl, hb, k0, k1, k2, hra⟩ := hpart
  obtain ⟨⟨o3, q3, rfl⟩, ⟨o4, q4, rfl⟩⟩ := hra.form
  have hok := Nf.pt_ok a.size a (Nat.le_refl _) hp n F hn
  rw [Nf.pt_star]
  obtain ⟨x, hx⟩ : ∃ x, Nf.pt a n F = x := ⟨_, rfl⟩
  have hihx := ih a _ _ hsz hp (by omega) hra
  rw [hx] at hok ⊢
  have hcnt := Nat.le_trans (Nf.sts_size a.size a (Nat.le_refl _) hp) (show a.size ≤ 60 by omega)
  have hrowx := hok.row L hL
  have hsq := Nat.mul_le_mul_left a.size (sq60 hcnt)
  obtain ⟨W, hW⟩ : ∃ W, W = (w.alloc (.cells #[.int .i64 5, .slice o1 s.length q1, .slice (some ⟨b, off, none⟩) 1 cap] 41)).alloc (.cells #[.bool false, .slice none 0 0, .slice none 0 0] 62) := ⟨_, rfl⟩
  have hbW : Below w.heap.size w W := by rw [hW]; exact bel_new (bel_new (Below.refl _ _) _) _
  have hsW : W.heap.size = w.heap.size + 2 := by rw [hW]; simp
  have hih := hihx W vs F n L (h.moved hbW) hn hnF hL (by omega)
  rw [hx, hW] at hih
  have hbw := Nat.lt_of_lt_of_le hb h.bel.size
  have c0 := (h.bel.cell (p := ⟨b, off, none⟩) hb).trans (by simpa using k0)
  have c1 := (h.bel.cell (p := ⟨b, off + 1, none⟩) hb).trans (by simpa using k1)
  have c2 := (h.bel.cell (p := ⟨b, off + 2, none⟩) hb).trans (by simpa using k2)
  have hsl : ([a] : List RE).length = 1 := rfl
  have H := Lib.hid h
  have HW := Lib.hid hW
  have HBW := Lib.hid hbW
  have HOK := Lib.hid hok
  have HRX := Lib.hid hrowx
  have HIH := Lib.hid hih
  have HX := Lib.hid hx
  clear h hW hbW hok hrowx hih hx hihx hre hra k0 k1 k2 hL
  go_enter Tryz.func30, Tryz.ntmps30
  go_wp2_with (first
    | (go_at_call 30; refine HIH.out.mono ?_; rintro e w1 ⟨fv, lv', rfl, hpost⟩; obtain ⟨vs1, hps1, htr1, hfr, hlr⟩ := hpost.rows; obtain ⟨of, cf, rfl⟩ := hfr.row.formI; obtain ⟨ol, cl, rfl⟩ := hlr.row.formI))
  rw [← HW.out] at htr1 hfr hlr
  have hql : qn < w.heap.size := (Array.getElem?_eq_some_iff.1 H.out.box).1
  have hqW : qn < W.heap.size := by omega
  obtain ⟨W2, hW2⟩ : ∃ W2, W2 = w1.alloc (.cells #[.bool x.1.1, .slice of x.1.2.1.length cf, .slice ol x.1.2.2.length cl] 62) := ⟨_, rfl⟩
  have hb2 : Below w1.heap.size w1 W2 := by rw [hW2]; exact bel_new (Below.refl _ _) _
  have hps2 := hps1.moved hb2
  have hfr2 := hfr.tr (Tr.old (qn := qn) hb2) hqW
  have hlr2 := hlr.tr (Tr.old (qn := qn) hb2) hqW
  have hok := HOK.out
  have hn1 := hok.nxt
  have hlen := hok.len
  have hlk := link_any w0.heap.size fb pb vs1 x.2.2 W2 hps2.fol hps2.pl hps2.pc hps2.far.1 x.1.2.2 x.1.2.1 ol of cl cf (hlr2.2.sub fun k _ hk => hk.2.2) (hfr2.2.sub fun k _ hk => hk.2.2)
    (fun z hz => by have := hok.lst z hz; rw [hlen]; omega) (by have := hok.ll; omega) (by have := hok.fl; omega)
    (fun k hk r hr => by
      have h1 := linkF_row x.1.2.1 _ (x.1.2.2.take k) x.2.2 HRX.out r hr
      have h2 : (x.1.2.2.take k).length * x.1.2.1.length ≤ 60 * 60 := Nat.mul_le_mul (by rw [List.length_take]; have := hok.ll; omega) (by have := hok.fl; omega)
      rw [Nat.add_mul] at hLs
      omega)
  rw [hW2] at hlk
  refine hlk.mono ?_
  rintro e w3 ⟨⟨xx, rfl⟩, hlink⟩
  rw [← hW2] at hlink
  obtain ⟨vs2, hps3, htr3⟩ := hps2.linked hlink
  have hw1s : w1.heap.size < W2.heap.size := by rw [hW2]; simp
  have hWs1 : W.heap.size ≤ w1.heap.size := htr1.ag.size
  have h8 : W2.heap[w1.heap.size]? = some (.cells #[.bool x.1.1, .slice of x.1.2.1.length cf, .slice ol x.1.2.2.length cl] 62 (0, 0)) := by rw [hW2]; exact World.alloc_heap_new w1 _
  have h83 : w3.heap[w1.heap.size]? = some (.cells #[.bool x.1.1, .slice of x.1.2.1.length cf, .slice ol x.1.2.2.length cl] 62 (0, 0)) := by
    rw [htr3.ag.block _ hw1s ⟨fun hin => by have := (inF_lt hps1.fol hin).1; omega, by omega⟩]; exact h8
  have htr : Tr fb qn W vs w3 vs2 := (htr1.trans (Tr.old hb2)).trans htr3
  have h6 : W.heap[w.heap.size + 1]? = some (.cells #[.bool false, .slice none 0 0, .slice none 0 0] 62 (0, 0)) := by
    rw [HW.out]
    have := World.alloc_heap_new (w.alloc (.cells #[.int .i64 5, .slice o1 s.length q1, .slice (some ⟨b, off, none⟩) 1 cap] 41)) (.cells #[.bool false, .slice none 0 0, .slice none 0 0] 62)
    rwa [World.size_alloc] at this
  have h63 : w3.heap[w.heap.size + 1]? = some (.cells #[.bool false, .slice none 0 0, .slice none 0 0] 62 (0, 0)) := by
    rw [htr.ag.block _ (by omega) ⟨fun hin => by have := (inF_lt H.out.fol hin).1; omega, by omega⟩]; exact h6
  obtain ⟨d0, d1, d2⟩ := part_cells h83
  obtain ⟨e0, e1, e2⟩ := part_cells h63
  obtain ⟨z0, z1, z2⟩ := part_froz h63
  have hfr3 := hfr2.tr htr3 hqW
  have hlr3 := hlr2.tr htr3 hqW
  have HF := Lib.hid (And.intro hps3 (And.intro htr (And.intro hfr3 (And.intro hlr3 h63))))
  have hs3 : W.heap.size ≤ w3.heap.size := htr.ag.size
  have hs13 : w1.heap.size ≤ w3.heap.size := by have := htr3.ag.size; omega
  clear hps3 htr hfr3 hlr3 h63 h6 h83 h8 hlink htr3 hlk hps2 hfr2 hlr2 hb2 hps1 htr1 hfr hlr hpost hok hn1 hlen
  go_wp2_with fail
  have hfin := set3_at HF.out.2.2.2.2 (.bool true) (.slice of x.1.2.1.length cf) (.slice ol x.1.2.2.length cl)
  obtain ⟨f0, f1, f2⟩ := part_cells hfin
  simp [bodyPost, results, Tryz.results30, go_sem, f0, f1, f2]
  obtain ⟨hps3, htr, hfr3, hlr3, h63⟩ := HF.out
  have hnin : ¬ inF vs2 fb (w.heap.size + 1) := fun hin => by
    rcases htr.new _ hin with h4 | h4
    · have := (inF_lt H.out.fol h4).1; omega
    · omega
  have hlow := H.out.low
  have hpl := H.out.pl
  have hbs := H.out.bel.size
  refine ⟨_, _, ⟨rfl, rfl⟩, PPost.of (vs1 := vs2) (((hps3.set (by omega) (by omega) hnin (by omega) _ _).set (by omega) (by omega) hnin (by omega) _ _).set (by omega) (by omega) hnin (by omega) _ _) ?_ ?_ ?_⟩
  · exact (((((Tr.old HBW.out).trans htr).set (by omega) _ _).set (by omega) _ _).set (by omega) _ _)
  · exact (((hfr3.set (.inl (by omega)) _ _).set (.inl (by omega)) _ _).set (.inl (by omega)) _ _).wide (by omega) (by simp [World.setCell]; omega) (Nat.le_refl _)
  · exact (((hlr3.set (.inl (by omega)) _ _).set (.inl (by omega)) _ _).set (.inl (by omega)) _ _).wide (by omega) (by simp [World.setCell]; omega) (Nat.le_refl _)
end Go.Proofs.YtmgfpcblbbpahaaGreat
