/- nfa.part: the positions of an expression, linked. -/
import Derived.Test.YtmgfpcblbbpahaaGreatNfShG
import Derived.Shelf.Spec.SlicesGrow
import Derived.Test.YtmgfpcblbbpahaaGreatNfGlu
import Derived.Deep.LoopGhost
import Derived.Deep.RegionHeld3
import Derived.Deep.RegionLaw
set_option linter.unusedVariables false
set_option linter.unusedSimpArgs false
namespace Go.Proofs.YtmgfpcblbbpahaaGreat
open Go.RowKit

theorem Row.formI {w : World} {v : Value} {n : Nat} {cs : List Value} (h : Row w v n cs) : ∃ o c, v = .slice o n c := by obtain ⟨o, c, e, _⟩ := h; exact ⟨o, c, e⟩

theorem growI_any (n : Nat) (w : World) (hn : n ≤ 10000000) :
    Calls Tryz.prog 81 #[.slice none 0 0, .int .i64 n] w fun e w' => ∃ v, e = .returned v ∧ w'.ownsRow w.heap.size 3 1 v 0 [] ∧ Below w.heap.size w w' := by
  obtain ⟨i0, hi, hz0, hz1, hz2⟩ := infoInt1
  by_cases h0 : n = 0
  · subst h0
    have hc := Any8.slices_Grow_room Tryz.growI none 0 0 0 w (Nat.le_refl _) (by omega) (by omega) (by omega)
    change Calls Tryz.prog 81 _ _ _ at hc
    refine hc.mono fun e w' ⟨he, hw⟩ => ?_
    subst hw
    exact ⟨_, he, World.ownsRow_nil _ _ _ _, Below.refl _ _⟩
  · have hc := Any8.slices_Grow_grow Tryz.growI i0 _ hi hz0 (by omega) none 0 0 n [] w (Nat.le_refl _) (by omega) (by rw [hz2]; omega) (by omega) (by simp) (fun _ => rfl) (fun a h => by cases h)
    change Calls Tryz.prog 81 _ _ _ at hc
    refine hc.mono fun e w' ⟨he, hw⟩ => ?_
    subst hw
    refine ⟨_, he, ?_, ((Below.refl _ _).drew.alloc (by simp) _)⟩
    have hge := grownCap_ge w (0 + n) 0 3
    have hle := grownCap_le_maxLen w (0 + n) 0 3 (by unfold maxLen; omega)
    refine ⟨rfl, .inr ⟨w.heap.size, _, _, rfl, Nat.le_refl _, heap_alloc_new w.drew _, by omega, hle, ?_, by simp⟩⟩
    have e2 : (Value.int .i64 0).cells.size = 1 := rfl
    obtain ⟨C, hC⟩ : ∃ C, C = grownCap w (0 + n) 0 3 := ⟨_, rfl⟩
    have hC2 : grownCap w (0 + n) 0 (Tryz.growI_ren.t 25) = C := hC.symm
    rw [← hC] at hge hle
    rw [hC2, Array.size_append, Array.size_append, size_zeroCells, size_zeroCells, e2]
    simp
    omega

set_option maxHeartbeats 1000000 in
set_option maxRecDepth 1000000 in
theorem concatI_any (a b : List Int) (va vb : Value) (g : Nat) (w : World) (ha : Row w va a.length (ints1 a)) (hb : Row w vb b.length (ints1 b)) (hna : a.length ≤ 1000000) (hnb : b.length ≤ 1000000)
    (h0 : w.cell? ⟨g, 0, none⟩ = some va) (h1 : w.cell? ⟨g, 1, none⟩ = some vb) :
    Calls Tryz.prog 56 #[.slice (some ⟨g, 0, none⟩) 2 2] w fun e w' => ∃ u, e = .returned u ∧ w'.ownsRow w.heap.size 3 1 u (a ++ b).length (ints1 (a ++ b)) ∧ Below w.heap.size w w' := by
  obtain ⟨i0, hi, hz0, hz1, hz2⟩ := infoInt1
  have hlt := World.block_lt_of_cell? w _ h0
  simp only at hlt
  have Ha := Lib.hid ha
  have Hb := Lib.hid hb
  obtain ⟨oa, ca, rfl⟩ := ha.formI
  obtain ⟨ob, cb, rfl⟩ := hb.formI
  clear ha hb
  go_enter Tryz.func56, Tryz.ntmps56
  go_wp2_with fail
  refine wp_loop_rounds 3 ?_
  rw [rounds_succ]
  go_wp2_with fail
  rw [rounds_succ]
  go_wp2_with fail
  rw [rounds_succ]
  go_wp2_with fail
  have hw0 : (a.length : Int) + b.length = ((a.length + b.length : Nat) : Int) := by omega
  rw [hw0]
  clear hw0
  obtain ⟨n, hn⟩ : ∃ n, n = a.length + b.length := ⟨_, rfl⟩
  rw [← hn]
  have Hn := Lib.hid hn
  have hn2 : n ≤ 10000000 := by omega
  clear hn
  refine (growI_any n _ hn2).mono ?_
  rintro e w1 ⟨v1, rfl, hown1, hb1⟩
  have h10 := h0
  have h11 := h1
  rw [← hb1.cell (p := ⟨g, 0, none⟩) hlt] at h10
  rw [← hb1.cell (p := ⟨g, 1, none⟩) hlt] at h11
  have Hw := Lib.hid (And.intro h0 h1)
  clear h0 h1
  go_wp2_with fail
  refine wp_loop_rounds 3 ?_
  rw [rounds_succ]
  go_wp2_with (at_builtin; refine wpList_append_row _ rfl _ _ 23 rfl w.heap.size 3 i0 (.int .i64 0) 1 8 Tryz.underlying23 hi hz0 hz1 hz2 rfl (by decide) _ _ _ rfl hown1 _ a.length (ints1 a) rfl (Ha.out.below hb1) (by simp) (by simp [Value.oneCell']) (by unfold maxLen; omega) (by omega) hb1.size ?_; intro v2 w2 hown2 hg2)
  have hb2 : Below w.heap.size w w2 := bel_grown hb1 hg2 (fun j hj => (hown1.lt j hj).1)
  rw [List.nil_append, Nat.zero_add] at hown2
  have h21 := Hw.out.2
  rw [← hb2.cell (p := ⟨g, 1, none⟩) hlt] at h21
  clear hown1 hg2 hb1 h10 h11
  rw [rounds_succ]
  go_wp2_with (at_builtin; refine wpList_append_row _ rfl _ _ 23 rfl w.heap.size 3 i0 (.int .i64 0) 1 8 Tryz.underlying23 hi hz0 hz1 hz2 rfl (by decide) _ _ _ rfl hown2 _ b.length (ints1 b) rfl (Hb.out.below hb2) (by simp) (by simp [Value.oneCell']) (by unfold maxLen; omega) (by omega) hb2.size ?_; intro v3 w3 hown3 hg3)
  have hb3 : Below w.heap.size w w3 := bel_grown hb2 hg3 (fun j hj => (hown2.lt j hj).1)
  rw [← ints1_app] at hown3
  have H3 := Lib.hid (And.intro hown3 hb3)
  clear hown2 hown3 hg3 hb2 hb3 h21
  rw [rounds_succ]
  go_wp2
  go_ret
  exact ⟨_, rfl, by rw [List.length_append]; exact H3.out.1, H3.out.2⟩

theorem concat2_any (a b : List Int) (va vb : Value) (w : World) (ha : Row w va a.length (ints1 a)) (hb : Row w vb b.length (ints1 b)) (hna : a.length ≤ 1000000) (hnb : b.length ≤ 1000000) :
    Calls Tryz.prog 56 #[.slice (some ⟨w.heap.size, 0, none⟩) 2 2] (w.alloc (.cells #[va, vb] 23)) fun e w' => ∃ u, e = .returned u ∧ w'.ownsRow w.heap.size 3 1 u (a ++ b).length (ints1 (a ++ b)) ∧ Below w.heap.size w w' := by
  have hal : Below w.heap.size w (w.alloc (.cells #[va, vb] 23)) := bel_new (Below.refl _ _) _
  have hg : (w.alloc (.cells #[va, vb] 23)).heap[w.heap.size]? = some (.cells #[va, vb] 23 (0, 0)) := World.alloc_heap_new w _
  refine (concatI_any a b va vb w.heap.size _ (ha.below hal) (hb.below hal) hna hnb (by simp only [World.cell?, hg]; rfl) (by simp only [World.cell?, hg]; rfl)).mono ?_
  rintro e w' ⟨u, he, ho, hb'⟩
  exact ⟨u, he, Joins.ownsRow_le ho (by simp), hal.trans (hb'.mono (by simp))⟩

theorem through_f (vf vn : Value) (w : World) : Calls Tryz.prog 57 #[.bool false, vf, vn] w fun e w' => e = .returned vn ∧ w' = w := by
  go_enter Tryz.func57, Tryz.ntmps57
  go_wp2_with fail
  go_ret
  exact ⟨rfl, rfl⟩
theorem through_t (far near : List Int) (vf vn : Value) (w : World) (hf : Row w vf far.length (ints1 far)) (hn : Row w vn near.length (ints1 near)) (hlf : far.length ≤ 1000000) (hln : near.length ≤ 1000000) :
    Calls Tryz.prog 57 #[.bool true, vf, vn] w fun e w' => ∃ u, e = .returned u ∧ w'.ownsRow w.heap.size 3 1 u (near ++ far).length (ints1 (near ++ far)) ∧ Below w.heap.size w w' := by
  have hc := concat2_any near far vn vf w hn hf hln hlf
  obtain ⟨of, cf, rfl⟩ := hf.formI
  obtain ⟨on, cn, rfl⟩ := hn.formI
  have HC := Lib.hid hc
  clear hf hn hc
  go_enter Tryz.func57, Tryz.ntmps57
  go_wp2_with (go_at_call 56; refine HC.out.mono ?_; rintro e w' ⟨u, rfl, ho, hb⟩)
  go_ret
  exact ⟨u, rfl, ho, hb⟩
end Go.Proofs.YtmgfpcblbbpahaaGreat

namespace Go.Proofs.YtmgfpcblbbpahaaGreat
open Go.RowKit Ru

abbrev posV (qn : Nat) : Value := .func (.func 28) #[] #[.pointer (some ⟨qn, 0, none⟩)]
theorem pos_any (qn : Nat) (n : Int) (w : World) (hq : w.heap[qn]? = some (.cells #[.int .i64 n] 3 (0, 0))) (hn : 0 ≤ n ∧ n ≤ 1000000) :
    Calls Tryz.prog 28 #[.pointer (some ⟨qn, 0, none⟩)] w fun e w' => e = .returned (.int .i64 n) ∧ w.setCell ⟨qn, 0, none⟩ (.int .i64 (n + 1)) = w' := by
  have hc : w.cell? ⟨qn, 0, none⟩ = some (.int .i64 n) := by simp [World.cell?, hq]
  have hf : w.frozen? ⟨qn, 0, none⟩ = false := by simp [World.frozen?, hq]
  obtain ⟨w1, hw1⟩ : ∃ w1, w.setCell ⟨qn, 0, none⟩ (.int .i64 (n + 1)) = w1 := ⟨_, rfl⟩
  have hc1 : w1.cell? ⟨qn, 0, none⟩ = some (.int .i64 (n + 1)) := by rw [← hw1]; simp [World.cell?, World.setCell, Array.getElem?_modify, hq]
  have h0 := hn.1
  have h1 := hn.2
  clear hq hn
  go_enter Tryz.func28, Tryz.ntmps28
  go_wp2_with fail
  go_ret
  exact ⟨by simp, by first | rfl | exact hw1⟩

structure PS (w0 w : World) (fb qn pb : Nat) (vs : List Value) (F : List (List Int)) (n : Int) : Prop where
  fol : Fol w w0.heap.size fb vs F
  box : w.heap[qn]? = some (.cells #[.int .i64 n] 3 (0, 0))
  pl : pb < w.heap.size
  pc : w.cell? ⟨pb, 1, none⟩ = some (.slice (some ⟨fb, 0, none⟩) F.length F.length)
  far : ¬ inF vs fb pb ∧ ¬ inF vs fb qn ∧ pb ≠ qn
  low : w0.heap.size ≤ qn ∧ w0.heap.size ≤ pb
  bel : Below w0.heap.size w0 w
theorem PS.moved {w0 w w' : World} {fb qn pb : Nat} {vs : List Value} {F : List (List Int)} {n : Int} (h : PS w0 w fb qn pb vs F n) (hb : Below w.heap.size w w') : PS w0 w' fb qn pb vs F n :=
  ⟨h.fol.moved hb, bel_get hb h.box, Nat.lt_of_lt_of_le h.pl hb.size, (hb.cell (p := ⟨pb, 1, none⟩) h.pl).trans h.pc, h.far, h.low, h.bel.trans (hb.mono h.bel.size)⟩
structure PPost (w0 w : World) (fb qn pb : Nat) (vs : List Value) (r : (Bool × List Int × List Int) × Int × List (List Int)) (fv lv : Value) (w' : World) : Prop where
  st : ∃ vs', PS w0 w' fb qn pb vs' r.2.2 r.2.1 ∧ (∀ j, inF vs' fb j → inF vs fb j ∨ w.heap.size ≤ j) ∧
    KP (fun k => w.heap.size ≤ k ∧ k < w'.heap.size ∧ ¬ inF vs' fb k) w' (fun x => Row x fv r.1.2.1.length (ints1 r.1.2.1) ∧ Row x lv r.1.2.2.length (ints1 r.1.2.2))
  ag : Ag (fun j => ¬ inF vs fb j ∧ j ≠ qn) w w'
theorem inF_lt {w : World} {B fb : Nat} {vs : List Value} {F : List (List Int)} (h : Fol w B fb vs F) {j : Nat} (hj : inF vs fb j) : j < w.heap.size ∧ B ≤ j := by
  rcases hj with rfl | ⟨i, hi, hk⟩
  · exact ⟨h.lt, h.above⟩
  · have := h.ne (by rw [← h.len]; exact hi) hk
    exact ⟨this.2.1, this.2.2⟩
theorem PS.agb {w0 w w' : World} {fb qn pb : Nat} {vs : List Value} {F : List (List Int)} {n : Int} (h : PS w0 w fb qn pb vs F n) (ha : Ag (fun j => ¬ inF vs fb j ∧ j ≠ qn) w w') : Below w0.heap.size w0 w' :=
  h.bel.trans (ha.below h.bel.size fun k hk => ⟨fun hj => by have := (inF_lt h.fol hj).2; omega, by have := h.low; omega⟩)

abbrev reV (e : RE) (sv lv : Value) : Value := .agg #[.int .i64 e.kind, sv, lv]
def PIh (w0 : World) (fb qn pb N : Nat) : Prop :=
  ∀ (e : RE) (sv lv : Value), e.size ≤ N → e.prt = true → e.size ≤ 60 → ReIs w0 e sv lv → ∀ (w : World) (vs : List Value) (F : List (List Int)) (n : Int) (L : Nat), PS w0 w fb qn pb vs F n → 0 ≤ n → n + (Nf.sts e).length ≤ (F.length : Int) → (∀ r ∈ F, r.length ≤ L) → L + e.size * 3600 ≤ 3999999 →
    Calls Tryz.prog 30 #[.pointer (some ⟨pb, 0, none⟩), reV e sv lv, posV qn] w fun x w' => ∃ fv lv', x = .returned (.agg #[.bool (Nf.pt e n F).1.1, fv, lv']) ∧ PPost w0 w fb qn pb vs (Nf.pt e n F) fv lv' w'

theorem part_cells {w : World} {b : Nat} {x y z : Value} {t : TypeId} (h : w.heap[b]? = some (.cells #[x, y, z] t (0, 0))) : w.cell? ⟨b, 0, none⟩ = some x ∧ w.cell? ⟨b, 1, none⟩ = some y ∧ w.cell? ⟨b, 2, none⟩ = some z := by
  refine ⟨?_, ?_, ?_⟩ <;> simp [World.cell?, h]
theorem part_froz {w : World} {b : Nat} {x y z : Value} {t : TypeId} (h : w.heap[b]? = some (.cells #[x, y, z] t (0, 0))) : w.frozen? ⟨b, 0, none⟩ = false ∧ w.frozen? ⟨b, 1, none⟩ = false ∧ w.frozen? ⟨b, 2, none⟩ = false := by
  refine ⟨?_, ?_, ?_⟩ <;> simp [World.frozen?, h]
theorem set3_at {w : World} {b : Nat} {x y z : Value} {t : TypeId} (h : w.heap[b]? = some (.cells #[x, y, z] t (0, 0))) (a c d : Value) : (((w.setCell ⟨b, 0, none⟩ a).setCell ⟨b, 1, none⟩ c).setCell ⟨b, 2, none⟩ d).heap[b]? = some (.cells #[a, c, d] t (0, 0)) := by
  simp [World.setCell, Array.getElem?_modify, h]
theorem PPost.leaf {w0 w w' : World} {fb qn pb : Nat} {vs : List Value} {F : List (List Int)} {n : Int} {q : Bool} (h : PS w0 w fb qn pb vs F n) (hb : Below w.heap.size w w') : PPost w0 w fb qn pb vs ((q, [], []), n, F) (.slice none 0 0) (.slice none 0 0) w' :=
  ⟨⟨vs, h.moved hb, fun j hj => .inl hj, fun x _ => ⟨Row.nil x, Row.nil x⟩⟩, .of hb⟩
set_option maxRecDepth 100000 in
set_option maxHeartbeats 2000000 in
theorem part_leaf (w0 : World) (fb qn pb : Nat) (k : Int) (s : List Pc) (sv lv : Value) (hk : k = 0 ∨ k = 1) (w : World) (vs : List Value) (F : List (List Int)) (n : Int) (h : PS w0 w fb qn pb vs F n) (hsv : ∃ o a c, sv = .slice o a c) (hlv : ∃ o a c, lv = .slice o a c) :
    Calls Tryz.prog 30 #[.pointer (some ⟨pb, 0, none⟩), .agg #[.int .i64 k, sv, lv], posV qn] w fun x w' => ∃ fv lv', x = .returned (.agg #[.bool (decide (k = 1)), fv, lv']) ∧ PPost w0 w fb qn pb vs ((decide (k = 1), [], []), n, F) fv lv' w' := by
  have H := Lib.hid h
  obtain ⟨o1, a1, c1, rfl⟩ := hsv
  obtain ⟨o2, a2, c2, rfl⟩ := hlv
  clear h
  rcases hk with rfl | rfl
  · go_enter Tryz.func30, Tryz.ntmps30
    go_wp2_with fail
    obtain ⟨d0, d1, d2⟩ := part_cells (World.alloc_heap_new (w.alloc (.cells #[.int .i64 0, .slice o1 a1 c1, .slice o2 a2 c2] 41)) (.cells #[.bool false, .slice none 0 0, .slice none 0 0] 62))
    rw [World.size_alloc] at d0 d1 d2
    simp [bodyPost, results, Tryz.results30, go_sem, d0, d1, d2]
    exact ⟨_, _, ⟨rfl, rfl⟩, PPost.leaf H.out (bel_new (bel_new (Below.refl _ _) _) _)⟩
  · go_enter Tryz.func30, Tryz.ntmps30
    go_wp2_with fail
    obtain ⟨d0, d1, d2⟩ := part_cells (World.alloc_heap_new (w.alloc (.cells #[.int .i64 1, .slice o1 a1 c1, .slice o2 a2 c2] 41)) (.cells #[.bool true, .slice none 0 0, .slice none 0 0] 62))
    rw [World.size_alloc] at d0 d1 d2
    simp [bodyPost, results, Tryz.results30, go_sem, d0, d1, d2]
    exact ⟨_, _, ⟨rfl, rfl⟩, PPost.leaf H.out (bel_new (bel_new (Below.refl _ _) _) _)⟩

set_option maxRecDepth 100000 in
set_option maxHeartbeats 2000000 in
theorem part_set (w0 : World) (fb qn pb : Nat) (s : List Pc) (sv lv : Value) (w : World) (vs : List Value) (F : List (List Int)) (n : Int) (h : PS w0 w fb qn pb vs F n) (hn : 0 ≤ n ∧ n < (F.length : Int)) (hsv : ∃ o a c, sv = .slice o a c) (hlv : ∃ o a c, lv = .slice o a c) :
    Calls Tryz.prog 30 #[.pointer (some ⟨pb, 0, none⟩), .agg #[.int .i64 2, sv, lv], posV qn] w fun x w' => ∃ fv lv', x = .returned (.agg #[.bool false, fv, lv']) ∧ PPost w0 w fb qn pb vs ((false, [n], [n]), n + 1, F) fv lv' w' := by
  have H := Lib.hid h
  obtain ⟨o1, a1, c1, rfl⟩ := hsv
  obtain ⟨o2, a2, c2, rfl⟩ := hlv
  have hfew := h.fol.few
  obtain ⟨W, hW⟩ : ∃ W, W = (w.alloc (.cells #[.int .i64 2, .slice o1 a1 c1, .slice o2 a2 c2] 41)).alloc (.cells #[.bool false, .slice none 0 0, .slice none 0 0] 62) := ⟨_, rfl⟩
  have hbW : Below w.heap.size w W := by rw [hW]; exact bel_new (bel_new (Below.refl _ _) _) _
  have hp := pos_any qn n W (bel_get hbW h.box) ⟨hn.1, by omega⟩
  have eg : ∀ args w, (callFunc 28 args).run Tryz.prog w = .ok (.enter 28 args) w := enters_of Tryz.func28 (by kernel_rfl) rfl
  rw [hW] at hp
  have HW := Lib.hid hW
  have HP := Lib.hid hp
  clear h hW hp hbW
  go_enter Tryz.func30, Tryz.ntmps30
  go_wp2_with fail
  refine HP.out.mono ?_
  rintro e w2 ⟨rfl, hw2⟩
  have hold : ∀ j, j ≠ qn → w2.heap[j]? = W.heap[j]? := fun j hj => by rw [← hw2, ← HW.out]; exact Below.heap_setCell _ _ _ _ hj
  have hsz2 : w2.heap.size = w.heap.size + 2 := by rw [← hw2]; simp [World.setCell]
  have hql : qn < w.heap.size := (Array.getElem?_eq_some_iff.1 H.out.box).1
  have hpb2 : w2.heap[w.heap.size + 1]? = some (.cells #[.bool false, .slice none 0 0, .slice none 0 0] 62 (0, 0)) := by
    rw [hold _ (by omega), HW.out]
    have := World.alloc_heap_new (w.alloc (.cells #[.int .i64 2, .slice o1 a1 c1, .slice o2 a2 c2] 41)) (.cells #[.bool false, .slice none 0 0, .slice none 0 0] 62)
    rwa [World.size_alloc] at this
  have hq2 : w2.heap[qn]? = some (.cells #[.int .i64 (n + 1)] 3 (0, 0)) := by
    have hb := H.out.box
    have : W.heap[qn]? = some (.cells #[.int .i64 n] 3 (0, 0)) := by rw [HW.out]; exact bel_get (bel_new (bel_new (Below.refl _ _) _) _) hb
    rw [← hw2, ← HW.out]
    simp [World.setCell, Array.getElem?_modify, this]
  have hag2 : Ag (fun j => j ≠ qn) w w2 := by
    rw [← hw2, ← HW.out]
    refine Ag.setCell ?_ (fun h => h rfl) _
    rw [HW.out]
    exact ((Ag.refl _ w).alloc _).alloc _
  have hpn : w2.heap[w.heap.size + 1]? ≠ none := by rw [hpb2]; simp
  obtain ⟨e0, e1, e2⟩ := part_cells hpb2
  obtain ⟨z0, z1, z2⟩ := part_froz hpb2
  have HO := Lib.hid hold
  have HB2 := Lib.hid hpb2
  have HQ2 := Lib.hid hq2
  have HAG := Lib.hid hag2
  clear hw2 hold hpb2 hq2 hag2 hpn
  go_wp2_with fail
  have hfin := bel_get (bel_new (Below.refl _ _) (.cells #[.int .i64 n] 3)) (set3_at HB2.out (.bool false) (.slice (some ⟨w.heap.size + 2, 0, none⟩) 1 1) (.slice (some ⟨w.heap.size + 2, 0, none⟩) 1 1))
  obtain ⟨d0, d1, d2⟩ := part_cells hfin
  simp [bodyPost, results, Tryz.results30, go_sem, d0, d1, d2]
  refine ⟨_, _, ⟨rfl, rfl⟩, ?_⟩
  obtain ⟨w3, hw3⟩ : ∃ w3, ((w2.setCell ⟨w.heap.size + 1, 0, none⟩ (.bool false)).setCell ⟨w.heap.size + 1, 1, none⟩ (.slice (some ⟨w.heap.size + 2, 0, none⟩) 1 1)).setCell ⟨w.heap.size + 1, 2, none⟩ (.slice (some ⟨w.heap.size + 2, 0, none⟩) 1 1) = w3 := ⟨_, rfl⟩
  rw [hw3]
  have hs3 : w3.heap.size = w.heap.size + 2 := by rw [← hw3]; simp [World.setCell, hsz2]
  have hag3 : Ag (fun j => j ≠ qn ∧ j < w.heap.size) w w3 := by
    rw [← hw3]
    exact (((HAG.out.sub (fun k _ h => h.1)).setCell (fun h => by have : w.heap.size + 1 < w.heap.size := h.2; omega) _).setCell (fun h => by have : w.heap.size + 1 < w.heap.size := h.2; omega) _).setCell (fun h => by have : w.heap.size + 1 < w.heap.size := h.2; omega) _
  have hq3 : w3.heap[qn]? = some (.cells #[.int .i64 (n + 1)] 3 (0, 0)) := by
    rw [← hw3, Below.heap_setCell _ _ _ _ (show qn ≠ w.heap.size + 1 by omega), Below.heap_setCell _ _ _ _ (show qn ≠ w.heap.size + 1 by omega), Below.heap_setCell _ _ _ _ (show qn ≠ w.heap.size + 1 by omega)]
    exact HQ2.out
  clear hw3 d0 d1 d2 hfin
  have hh := H.out
  have hag4 := hag3.alloc (.cells #[.int .i64 n] 3)
  have hag5 : Ag (fun j => ¬ inF vs fb j ∧ j ≠ qn) w (w3.alloc (.cells #[.int .i64 n] 3)) := hag4.sub (fun k hk h => ⟨h.2, hk⟩)
  refine ⟨⟨vs, ⟨hh.fol.ag (hag4.sub (fun k hk hin => ⟨fun e => hh.far.2.1 (e ▸ hin), hk⟩)), bel_get (bel_new (Below.refl _ _) _) hq3, Nat.lt_of_lt_of_le hh.pl hag5.size, ?_, hh.far, hh.low, hh.agb hag5⟩, fun j hj => .inl hj, ?_⟩, hag5⟩
  · rw [← hh.pc]
    simp only [World.cell?]
    rw [hag5.block pb hh.pl ⟨hh.far.1, hh.far.2.2⟩]
  · have hnew : (w3.alloc (.cells #[.int .i64 n] 3)).heap[w.heap.size + 2]? = some (.cells #[.int .i64 n] 3 (0, 0)) := by
      have := World.alloc_heap_new w3 (.cells #[.int .i64 n] 3)
      rwa [hs3] at this
    refine (KP.block hnew ⟨by omega, by simp [hs3], fun hin => by have := (inF_lt hh.fol hin).1; omega⟩).mono fun x hx => ?_
    have hrow : Row x (.slice (some ⟨w.heap.size + 2, 0, none⟩) 1 1) 1 (ints1 [n]) := by
      refine ⟨_, _, rfl, Nat.le_refl _, by simp [maxLen], .inr ⟨_, 0, rfl, (Array.getElem?_eq_some_iff.1 hx).1, fun j u hu => ?_⟩⟩
      cases j with
      | zero => simp at hu; subst hu; simp [World.cell?, hx]
      | succ j => simp at hu
    exact ⟨hrow, hrow⟩
end Go.Proofs.YtmgfpcblbbpahaaGreat
