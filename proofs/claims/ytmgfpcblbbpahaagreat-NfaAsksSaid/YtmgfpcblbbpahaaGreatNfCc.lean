/- A region with two rows laid and two calls, each behind its row, the second behind the first, in whatever order else. -/
import Derived.Test.YtmgfpcblbbpahaaGreatNfStar
set_option linter.unusedVariables false
set_option linter.unusedSimpArgs false
namespace Go.Proofs.YtmgfpcblbbpahaaGreat
open Go.RowKit Ru

def L22 (c : Nat) (x y : Bool) : Array Bool := #[true, true, true, true, true, true, decide (1 ≤ c), true, true, true, true, true, true, decide (2 ≤ c), x, y, false, false]
def R22 (c : Nat) (x y : Bool) : List Nat := (if c = 0 then [6] else if c = 1 then [13] else []) ++ ((if x then [] else [14]) ++ (if y then [] else [15]))
theorem R22_mem {c : Nat} {x y : Bool} {i : Nat} (hc : c ≤ 2) (h : i ∈ R22 c x y) : (c = 0 ∧ i = 6) ∨ (c = 1 ∧ i = 13) ∨ (x = false ∧ i = 14) ∨ (y = false ∧ i = 15) := by
  obtain rfl | rfl | rfl : c = 0 ∨ c = 1 ∨ c = 2 := by omega
  all_goals (cases x <;> cases y <;> simp [R22] at h ⊢ <;> omega)
theorem R22_ne {c : Nat} {x y : Bool} (hc : c ≤ 2) (h : c < 2 ∨ x = false ∨ y = false) : R22 c x y ≠ [] := by
  obtain rfl | rfl | rfl : c = 0 ∨ c = 1 ∨ c = 2 := by omega
  all_goals (cases x <;> cases y <;> simp [R22] at h ⊢)
theorem law22 {P : Program} {ops : Array Oper} {Q : Exit → Act → World → Prop} {S : World → Prop} {md : Region.Mode} (J : Nat → Bool → Bool → Act → World → Prop)
    (hr : ∀ c, c ≤ 2 → ∀ x y, (c < 2 ∨ x = false ∨ y = false) → Region.ready md ops (L22 c x y) = R22 c x y)
    (h0 : ∀ x y a w, J 0 x y a w → wpOp P ops Q 6 (fun a' w' => S w' ∧ J 1 x y a' w') a w)
    (h1 : ∀ x y a w, J 1 x y a w → wpOp P ops Q 13 (fun a' w' => S w' ∧ J 2 x y a' w') a w)
    (hx : ∀ c y a w, c ≤ 2 → J c false y a w → wpOp P ops Q 14 (fun a' w' => S w' ∧ J c true y a' w') a w)
    (hy : ∀ c x a w, c ≤ 2 → J c x false a w → wpOp P ops Q 15 (fun a' w' => S w' ∧ J c x true a' w') a w)
    (hend : ∀ a w, J 2 true true a w → wpAnyH P md ops Q S 2 (L22 2 true true) a w) :
    ∀ n c x y a w, c ≤ 2 → n + c + x.toNat + y.toNat = 4 → J c x y a w → wpAnyH P md ops Q S (n + 2) (L22 c x y) a w := by
  intro n
  induction n with
  | zero =>
    intro c x y a w hc3 hn hj
    have : c = 2 ∧ x = true ∧ y = true := by cases x <;> cases y <;> simp at hn ⊢ <;> omega
    obtain ⟨rfl, rfl, rfl⟩ := this
    exact hend a w hj
  | succ n ih =>
    intro c x y a w hc3 hn hj
    have hnot : c < 2 ∨ x = false ∨ y = false := by cases x <;> cases y <;> simp at hn ⊢ <;> omega
    show wpAnyH P md ops Q S ((n + 2) + 1) _ _ _
    refine wpAnyH_all (hr c hc3 x y hnot) (R22_ne hc3 hnot) (fun i hi => ?_)
    rcases R22_mem hc3 hi with ⟨rfl, rfl⟩ | ⟨rfl, rfl⟩ | ⟨rfl, rfl⟩ | ⟨rfl, rfl⟩
    · exact wpOp_mono (fun a' w' h' => ⟨h'.1, ih 1 x y a' w' (by omega) (by omega) h'.2⟩) (h0 x y a w hj)
    · exact wpOp_mono (fun a' w' h' => ⟨h'.1, ih 2 x y a' w' (by omega) (by omega) h'.2⟩) (h1 x y a w hj)
    · exact wpOp_mono (fun a' w' h' => ⟨h'.1, ih c true y a' w' (by omega) (by simp at hn ⊢; omega) h'.2⟩) (hx c y a w hc3 hj)
    · exact wpOp_mono (fun a' w' h' => ⟨h'.1, ih c x true a' w' (by omega) (by simp at hn ⊢; omega) h'.2⟩) (hy c x a w hc3 hj)

structure Aft (w0 W : World) (fb qn pb : Nat) (vs : List Value) (lo : Nat) (w1 : World) (vs1 : List Value) (r : (Bool × List Int × List Int) × Int × List (List Int)) (fv lv : Value) : Prop where
  ps : PS w0 w1 fb qn pb vs1 r.2.2 r.2.1
  tr : Tr fb qn W vs w1 vs1
  low : W.heap.size ≤ lo
  fr : PRw w1 lo w1.heap.size fb vs1 fv r.1.2.1
  lr : PRw w1 lo w1.heap.size fb vs1 lv r.1.2.2
theorem aft_a {w0 W : World} {fb qn pb N : Nat} (ih : PIh w0 fb qn pb N) {e : RE} {sv lv : Value} (hs : e.size ≤ N) (hp : e.prt = true) (h60 : e.size ≤ 60) (hre : ReIs w0 e sv lv) {vs : List Value} {F : List (List Int)} {n : Int} {L : Nat} (h : PS w0 W fb qn pb vs F n)
    (hn : 0 ≤ n) (hnF : n + (Nf.sts e).length ≤ (F.length : Int)) (hL : ∀ r ∈ F, r.length ≤ L) (hLs : L + e.size * 3600 ≤ 3999999) (w' : World) (hw : Below W.heap.size W w') :
    Calls Tryz.prog 30 #[.pointer (some ⟨pb, 0, none⟩), reV e sv lv, posV qn] w' fun x w1 => ∃ (of : Option Addr) (cf : Nat) (ol : Option Addr) (cl : Nat) (vs1 : List Value),
      x = .returned (.agg #[.bool (Nf.pt e n F).1.1, .slice of (Nf.pt e n F).1.2.1.length cf, .slice ol (Nf.pt e n F).1.2.2.length cl]) ∧ Aft w0 W fb qn pb vs w'.heap.size w1 vs1 (Nf.pt e n F) (.slice of (Nf.pt e n F).1.2.1.length cf) (.slice ol (Nf.pt e n F).1.2.2.length cl) ∧ Tr fb qn w' vs w1 vs1 := by
  refine (ih e sv lv hs hp h60 hre w' vs F n L (h.moved hw) hn hnF hL hLs).mono ?_
  rintro x w1 ⟨fv, lv', rfl, hpost⟩
  obtain ⟨vs1, hps, htr, hfr, hlr⟩ := hpost.rows
  obtain ⟨of, cf, rfl⟩ := hfr.row.formI
  obtain ⟨ol, cl, rfl⟩ := hlr.row.formI
  exact ⟨of, cf, ol, cl, vs1, rfl, ⟨hps, (Tr.old hw).trans htr, hw.size, hfr, hlr⟩, htr⟩

abbrev Zp : Obj := .cells #[.bool false, .slice none 0 0, .slice none 0 0] 62
structure G22 (C : Nat → World → List Value → (Nat → Prop) → Value → Value → Prop) (W : World) (fb : Nat) (c : Nat) (x y : Bool) (s9 s10 r1 r2 : Value) (p9 p10 : Nat) (w : World) : Prop where
  st : ∃ (wc : World) (vc : List Value) (D : Nat → Prop), C c wc vc D r1 r2 ∧ Below wc.heap.size wc w ∧ (∀ j, inF vc fb j ∨ D j → j < wc.heap.size) ∧ W.heap.size ≤ wc.heap.size ∧
    (x = true → ¬ (inF vc fb p9 ∨ D p9)) ∧ (y = true → ¬ (inF vc fb p10 ∨ D p10))
  x1 : x = true → s9 = .pointer (some ⟨p9, 0, none⟩) ∧ W.heap.size ≤ p9 ∧ w.heap[p9]? = some (.cells #[.bool false, .slice none 0 0, .slice none 0 0] 62 (0, 0))
  y1 : y = true → s10 = .pointer (some ⟨p10, 0, none⟩) ∧ W.heap.size ≤ p10 ∧ w.heap[p10]? = some (.cells #[.bool false, .slice none 0 0, .slice none 0 0] 62 (0, 0))
  xy : x = true → y = true → p9 ≠ p10
section
variable {C : Nat → World → List Value → (Nat → Prop) → Value → Value → Prop} {W w w1 : World} {fb qn c : Nat} {x y : Bool} {s9 s10 r1 r2 : Value} {p9 p10 : Nat}
theorem G22.size (h : G22 C W fb c x y s9 s10 r1 r2 p9 p10 w) : W.heap.size ≤ w.heap.size := by
  obtain ⟨wc, vc, D, _, hb, _, hs, _⟩ := h.st
  have := hb.size; omega
theorem G22.newx (h : G22 C W fb c false y s9 s10 r1 r2 p9 p10 w) : G22 C W fb c true y (.pointer (some ⟨w.heap.size, 0, none⟩)) s10 r1 r2 w.heap.size p10 (w.alloc Zp) := by
  have hsz := h.size
  obtain ⟨wc, vc, D, h1, h2, h3, h4, h5, h6⟩ := h.st
  have h7 := h2.size
  refine ⟨⟨wc, vc, D, h1, h2.trans ((bel_new (Below.refl _ _) _).mono h7), h3, h4, fun _ hin => by have := h3 _ hin; omega, h6⟩, fun _ => ⟨rfl, hsz, heap_alloc_new w _⟩, fun hy => ?_, fun _ hy => ?_⟩
  · obtain ⟨e1, e2, e3⟩ := h.y1 hy
    exact ⟨e1, e2, bel_get (bel_new (Below.refl _ _) _) e3⟩
  · have := (Array.getElem?_eq_some_iff.1 (h.y1 hy).2.2).1
    omega
theorem G22.newy (h : G22 C W fb c x false s9 s10 r1 r2 p9 p10 w) : G22 C W fb c x true s9 (.pointer (some ⟨w.heap.size, 0, none⟩)) r1 r2 p9 w.heap.size (w.alloc Zp) := by
  have hsz := h.size
  obtain ⟨wc, vc, D, h1, h2, h3, h4, h5, h6⟩ := h.st
  have h7 := h2.size
  refine ⟨⟨wc, vc, D, h1, h2.trans ((bel_new (Below.refl _ _) _).mono h7), h3, h4, h5, fun _ hin => by have := h3 _ hin; omega⟩, fun hx => ?_, fun _ => ⟨rfl, hsz, heap_alloc_new w _⟩, fun hx _ => ?_⟩
  · obtain ⟨e1, e2, e3⟩ := h.x1 hx
    exact ⟨e1, e2, bel_get (bel_new (Below.refl _ _) _) e3⟩
  · have := (Array.getElem?_eq_some_iff.1 (h.x1 hx).2.2).1
    omega
theorem G22.called {c' : Nat} {v1 : List Value} {D' : Nat → Prop} {r1' r2' : Value} (h : G22 C W fb c x y s9 s10 r1 r2 p9 p10 w) (hq : qn < W.heap.size) (hi : ∀ j, inF v1 fb j ∨ D' j → j < w1.heap.size)
    (hvc : ∀ (wc : World) (vc : List Value) (D : Nat → Prop), C c wc vc D r1 r2 → Below wc.heap.size wc w → Tr fb qn w vc w1 v1 ∧ C c' w1 v1 D' r1' r2' ∧ ∀ j, D' j → D j ∨ w.heap.size ≤ j) : G22 C W fb c' x y s9 s10 r1' r2' p9 p10 w1 := by
  have hsz := h.size
  obtain ⟨wc, vc, D, h1, h2, h3, h4, h5, h6⟩ := h.st
  obtain ⟨htr, hC, hD⟩ := hvc wc vc D h1 h2
  have hs1 := htr.ag.size
  have keep : ∀ p, w.heap[p]? = some (.cells #[.bool false, .slice none 0 0, .slice none 0 0] 62 (0, 0)) → W.heap.size ≤ p → ¬ (inF vc fb p ∨ D p) → w1.heap[p]? = some (.cells #[.bool false, .slice none 0 0, .slice none 0 0] 62 (0, 0)) ∧ ¬ (inF v1 fb p ∨ D' p) := fun p hp hl hn => by
    have hlt := (Array.getElem?_eq_some_iff.1 hp).1
    refine ⟨by rw [htr.ag.block p hlt ⟨fun h => hn (.inl h), by omega⟩]; exact hp, fun hin => ?_⟩
    rcases hin with hin | hin
    · rcases htr.new p hin with h | h
      · exact hn (.inl h)
      · omega
    · rcases hD p hin with h | h
      · exact hn (.inr h)
      · omega
  refine ⟨⟨w1, v1, D', hC, Below.refl _ _, hi, by omega, fun hx => (keep p9 (h.x1 hx).2.2 (h.x1 hx).2.1 (h5 hx)).2, fun hy => (keep p10 (h.y1 hy).2.2 (h.y1 hy).2.1 (h6 hy)).2⟩, fun hx => ⟨(h.x1 hx).1, (h.x1 hx).2.1, (keep p9 (h.x1 hx).2.2 (h.x1 hx).2.1 (h5 hx)).1⟩, fun hy => ⟨(h.y1 hy).1, (h.y1 hy).2.1, (keep p10 (h.y1 hy).2.2 (h.y1 hy).2.1 (h6 hy)).1⟩, h.xy⟩
end
structure Two (w0 W : World) (fb qn pb : Nat) (vs : List Value) (x y : (Bool × List Int × List Int) × Int × List (List Int)) (wc : World) (vc : List Value) (D : Nat → Prop) (f1 l1 f2 l2 : Value) (lo1 hi1 lo2 hi2 : Nat) : Prop where
  ps : PS w0 wc fb qn pb vc y.2.2 y.2.1
  tr : Tr fb qn W vs wc vc
  low : W.heap.size ≤ lo1 ∧ W.heap.size ≤ lo2
  d : ∀ k, (lo1 ≤ k ∧ k < hi1) ∨ (lo2 ≤ k ∧ k < hi2) → D k
  f1 : PRw wc lo1 hi1 fb vc f1 x.1.2.1
  l1 : PRw wc lo1 hi1 fb vc l1 x.1.2.2
  f2 : PRw wc lo2 hi2 fb vc f2 y.1.2.1
  l2 : PRw wc lo2 hi2 fb vc l2 y.1.2.2
def C22 (w0 W : World) (fb qn pb : Nat) (vs : List Value) (x y : (Bool × List Int × List Int) × Int × List (List Int)) (c : Nat) (wc : World) (vc : List Value) (D : Nat → Prop) (r1 r2 : Value) : Prop :=
  (c = 0 → wc = W ∧ vc = vs ∧ ∀ k, ¬ D k) ∧
  (c = 1 → ∃ (of : Option Addr) (cf : Nat) (ol : Option Addr) (cl lo : Nat), r1 = .agg #[.bool x.1.1, .slice of x.1.2.1.length cf, .slice ol x.1.2.2.length cl] ∧ Aft w0 W fb qn pb vs lo wc vc x (.slice of x.1.2.1.length cf) (.slice ol x.1.2.2.length cl) ∧ ∀ k, D k ↔ (lo ≤ k ∧ k < wc.heap.size)) ∧
  (c = 2 → ∃ (of : Option Addr) (cf : Nat) (ol : Option Addr) (cl : Nat) (of2 : Option Addr) (cf2 : Nat) (ol2 : Option Addr) (cl2 lo1 hi1 lo2 hi2 : Nat), r1 = .agg #[.bool x.1.1, .slice of x.1.2.1.length cf, .slice ol x.1.2.2.length cl] ∧ r2 = .agg #[.bool y.1.1, .slice of2 y.1.2.1.length cf2, .slice ol2 y.1.2.2.length cl2] ∧
    Two w0 W fb qn pb vs x y wc vc D (.slice of x.1.2.1.length cf) (.slice ol x.1.2.2.length cl) (.slice of2 y.1.2.1.length cf2) (.slice ol2 y.1.2.2.length cl2) lo1 hi1 lo2 hi2)
def T22 (i j k l : Nat) (A : Array Value) (s9 s10 r1 r2 : Value) : Act := { tmps := (((A.setIfInBounds i s9).setIfInBounds j s10).setIfInBounds k r1).setIfInBounds l r2, defers := [] }
def J22 (i j k l : Nat) (A : Array Value) (C : Nat → World → List Value → (Nat → Prop) → Value → Value → Prop) (W : World) (fb c : Nat) (x y : Bool) (a : Act) (w : World) : Prop :=
  ∃ s9 s10 r1 r2 p9 p10, a = T22 i j k l A s9 s10 r1 r2 ∧ G22 C W fb c x y s9 s10 r1 r2 p9 p10 w
theorem J22.begin {i j k l : Nat} {A : Array Value} {w0 W w : World} {fb qn pb : Nat} {vs : List Value} {x y : (Bool × List Int × List Int) × Int × List (List Int)} {s9 s10 r1 r2 : Value} {a : Act} (e : a = T22 i j k l A s9 s10 r1 r2) (h : Below W.heap.size W w) (hi : ∀ j, inF vs fb j → j < W.heap.size) :
    J22 i j k l A (C22 w0 W fb qn pb vs x y) W fb 0 false false a w :=
  ⟨s9, s10, r1, r2, 0, 0, e, { st := ⟨W, vs, fun _ => False, ⟨fun _ => ⟨rfl, rfl, fun _ h => h⟩, fun e => (by omega), fun e => (by omega)⟩, h, fun j hj => hi j (by rcases hj with h | h; exact h; exact h.elim), Nat.le_refl _, fun e => (by cases e), fun e => (by cases e)⟩, x1 := fun e => (by cases e), y1 := fun e => (by cases e), xy := fun e => (by cases e) }⟩
theorem reg22 {P : Program} {ops : Array Oper} {Q : Exit → Act → World → Prop} {S : World → Prop} {md : Region.Mode} {A : Array Value} {listed : Array Bool} {fuel : Nat} {w : World} (i j k l : Nat) (w0 W : World) (fb qn pb : Nat) (vs : List Value) (x y : (Bool × List Int × List Int) × Int × List (List Int))
    (hl : listed = L22 0 false false) (hf : fuel = 6) (hb : (⟨A, []⟩ : Act) = T22 i j k l A undef undef undef undef) (hS : Below W.heap.size W w) (hi : ∀ j, inF vs fb j → j < W.heap.size)
    (hr : ∀ c, c ≤ 2 → ∀ x y, (c < 2 ∨ x = false ∨ y = false) → Region.ready md ops (L22 c x y) = R22 c x y)
    (h0 : ∀ q1 q2 a w, J22 i j k l A (C22 w0 W fb qn pb vs x y) W fb 0 q1 q2 a w → wpOp P ops Q 6 (fun a' w' => S w' ∧ J22 i j k l A (C22 w0 W fb qn pb vs x y) W fb 1 q1 q2 a' w') a w)
    (h1 : ∀ q1 q2 a w, J22 i j k l A (C22 w0 W fb qn pb vs x y) W fb 1 q1 q2 a w → wpOp P ops Q 13 (fun a' w' => S w' ∧ J22 i j k l A (C22 w0 W fb qn pb vs x y) W fb 2 q1 q2 a' w') a w)
    (hx : ∀ c q2 a w, c ≤ 2 → J22 i j k l A (C22 w0 W fb qn pb vs x y) W fb c false q2 a w → wpOp P ops Q 14 (fun a' w' => S w' ∧ J22 i j k l A (C22 w0 W fb qn pb vs x y) W fb c true q2 a' w') a w)
    (hy : ∀ c q1 a w, c ≤ 2 → J22 i j k l A (C22 w0 W fb qn pb vs x y) W fb c q1 false a w → wpOp P ops Q 15 (fun a' w' => S w' ∧ J22 i j k l A (C22 w0 W fb qn pb vs x y) W fb c q1 true a' w') a w)
    (hend : ∀ a w, J22 i j k l A (C22 w0 W fb qn pb vs x y) W fb 2 true true a w → wpAnyH P md ops Q S 2 (L22 2 true true) a w) :
    wpAnyH P md ops Q S fuel listed ⟨A, []⟩ w := by
  subst hl; subst hf
  exact law22 (J22 i j k l A (C22 w0 W fb qn pb vs x y) W fb) hr h0 h1 hx hy hend 4 0 false false _ _ (by omega) rfl (J22.begin hb hS hi)
theorem G22.zero {w0 W w : World} {fb qn pb : Nat} {vs : List Value} {x y : (Bool × List Int × List Int) × Int × List (List Int)} {q1 q2 : Bool} {s9 s10 r1 r2 : Value} {p9 p10 : Nat} (h : G22 (C22 w0 W fb qn pb vs x y) W fb 0 q1 q2 s9 s10 r1 r2 p9 p10 w) : Below W.heap.size W w := by
  obtain ⟨wc, vc, D, hC, hb, _⟩ := h.st
  obtain ⟨rfl, _⟩ := hC.1 rfl
  exact hb
theorem G22.first {w0 W w w1 : World} {fb qn pb : Nat} {vs v1 : List Value} {x y : (Bool × List Int × List Int) × Int × List (List Int)} {q1 q2 : Bool} {s9 s10 r1 r2 : Value} {p9 p10 : Nat} {of ol : Option Addr} {cf cl : Nat} (h : G22 (C22 w0 W fb qn pb vs x y) W fb 0 q1 q2 s9 s10 r1 r2 p9 p10 w) (hq : qn < W.heap.size)
    (hA : Aft w0 W fb qn pb vs w.heap.size w1 v1 x (.slice of x.1.2.1.length cf) (.slice ol x.1.2.2.length cl)) (htr : Tr fb qn w vs w1 v1) :
    G22 (C22 w0 W fb qn pb vs x y) W fb 1 q1 q2 s9 s10 (.agg #[.bool x.1.1, .slice of x.1.2.1.length cf, .slice ol x.1.2.2.length cl]) r2 p9 p10 w1 := by
  refine h.called hq (v1 := v1) (D' := fun k => w.heap.size ≤ k ∧ k < w1.heap.size) (fun j hj => ?_) (fun wc vc D hC _ => ?_)
  · rcases hj with hj | hj
    · exact (inF_lt hA.ps.fol hj).1
    · exact hj.2
  · obtain ⟨rfl, rfl, _⟩ := hC.1 rfl
    exact ⟨htr, ⟨fun e => by omega, fun _ => ⟨of, cf, ol, cl, w.heap.size, rfl, hA, fun k => Iff.rfl⟩, fun e => by omega⟩, fun j hj => .inr hj.1⟩
theorem G22.second {w0 W w w1 wc : World} {fb qn pb lo : Nat} {vs vc v1 : List Value} {D : Nat → Prop} {x y : (Bool × List Int × List Int) × Int × List (List Int)} {q1 q2 : Bool} {s9 s10 r2 : Value} {p9 p10 : Nat} {of ol of2 ol2 : Option Addr} {cf cl cf2 cl2 : Nat}
    (h2 : Below wc.heap.size wc w) (h4 : W.heap.size ≤ wc.heap.size) (h5 : q1 = true → ¬ (inF vc fb p9 ∨ D p9)) (h6 : q2 = true → ¬ (inF vc fb p10 ∨ D p10))
    (hx : q1 = true → s9 = .pointer (some ⟨p9, 0, none⟩) ∧ W.heap.size ≤ p9 ∧ w.heap[p9]? = some (.cells #[.bool false, .slice none 0 0, .slice none 0 0] 62 (0, 0)))
    (hy : q2 = true → s10 = .pointer (some ⟨p10, 0, none⟩) ∧ W.heap.size ≤ p10 ∧ w.heap[p10]? = some (.cells #[.bool false, .slice none 0 0, .slice none 0 0] 62 (0, 0)))
    (hxy : q1 = true → q2 = true → p9 ≠ p10) (hD : ∀ k, D k ↔ (lo ≤ k ∧ k < wc.heap.size)) (hq : qn < W.heap.size)
    (hA : Aft w0 W fb qn pb vs lo wc vc x (.slice of x.1.2.1.length cf) (.slice ol x.1.2.2.length cl)) (hB : Aft w0 wc fb qn pb vc w.heap.size w1 v1 y (.slice of2 y.1.2.1.length cf2) (.slice ol2 y.1.2.2.length cl2)) (htr : Tr fb qn w vc w1 v1) :
    G22 (C22 w0 W fb qn pb vs x y) W fb 2 q1 q2 s9 s10 (.agg #[.bool x.1.1, .slice of x.1.2.1.length cf, .slice ol x.1.2.2.length cl]) (.agg #[.bool y.1.1, .slice of2 y.1.2.1.length cf2, .slice ol2 y.1.2.2.length cl2]) p9 p10 w1 := by
  have hs1 := htr.ag.size
  have hs2 := h2.size
  have hlo := hA.low
  have keep : ∀ p, w.heap[p]? = some (.cells #[.bool false, .slice none 0 0, .slice none 0 0] 62 (0, 0)) → W.heap.size ≤ p → ¬ (inF vc fb p ∨ D p) → w1.heap[p]? = some (.cells #[.bool false, .slice none 0 0, .slice none 0 0] 62 (0, 0)) ∧ ¬ (inF v1 fb p ∨ (D p ∨ (w.heap.size ≤ p ∧ p < w1.heap.size))) := fun p hp hl hn => by
    have hlt := (Array.getElem?_eq_some_iff.1 hp).1
    refine ⟨by rw [htr.ag.block p hlt ⟨fun h => hn (.inl h), by omega⟩]; exact hp, fun hin => ?_⟩
    rcases hin with hin | hin | hin
    · rcases htr.new p hin with h | h
      · exact hn (.inl h)
      · omega
    · exact hn (.inr hin)
    · omega
  refine ⟨⟨w1, v1, fun k => D k ∨ (w.heap.size ≤ k ∧ k < w1.heap.size), ⟨fun e => by omega, fun e => by omega, fun _ => ⟨of, cf, ol, cl, of2, cf2, ol2, cl2, lo, wc.heap.size, w.heap.size, w1.heap.size, rfl, rfl, ?_⟩⟩, Below.refl _ _, fun j hj => ?_, by omega, fun h => (keep p9 (hx h).2.2 (hx h).2.1 (h5 h)).2, fun h => (keep p10 (hy h).2.2 (hy h).2.1 (h6 h)).2⟩,
    fun h => ⟨(hx h).1, (hx h).2.1, (keep p9 (hx h).2.2 (hx h).2.1 (h5 h)).1⟩, fun h => ⟨(hy h).1, (hy h).2.1, (keep p10 (hy h).2.2 (hy h).2.1 (h6 h)).1⟩, hxy⟩
  · refine ⟨hB.ps, hA.tr.trans hB.tr, ⟨hlo, by omega⟩, fun k hk => ?_, hA.fr.tr hB.tr (by omega), hA.lr.tr hB.tr (by omega), hB.fr, hB.lr⟩
    rcases hk with hk | hk
    · exact .inl ((hD k).2 hk)
    · exact .inr hk
  · rcases hj with hj | hj | hj
    · exact (inF_lt hB.ps.fol hj).1
    · have := ((hD j).1 hj).2; omega
    · exact hj.2
theorem Two.set {w0 W wc : World} {fb qn pb : Nat} {vs vc : List Value} {x y : (Bool × List Int × List Int) × Int × List (List Int)} {D : Nat → Prop} {f1 l1 f2 l2 : Value} {lo1 hi1 lo2 hi2 : Nat} (h : Two w0 W fb qn pb vs x y wc vc D f1 l1 f2 l2 lo1 hi1 lo2 hi2) {p : Nat} (hW : W.heap.size ≤ p) (hn : ¬ (inF vc fb p ∨ D p)) (hq : qn < W.heap.size) (hp : pb < W.heap.size) (hl : w0.heap.size ≤ W.heap.size) (i : Nat) (v : Value) :
    Two w0 W fb qn pb vs x y (wc.setCell ⟨p, i, none⟩ v) vc D f1 l1 f2 l2 lo1 hi1 lo2 hi2 := by
  have n1 : p < lo1 ∨ hi1 ≤ p := by
    by_cases e : lo1 ≤ p ∧ p < hi1
    · exact (hn (.inr (h.d p (.inl e)))).elim
    · omega
  have n2 : p < lo2 ∨ hi2 ≤ p := by
    by_cases e : lo2 ≤ p ∧ p < hi2
    · exact (hn (.inr (h.d p (.inr e)))).elim
    · omega
  exact ⟨h.ps.set (by omega) (by omega) (fun e => hn (.inl e)) (by omega) i v, h.tr.set hW i v, h.low, h.d, h.f1.set n1 i v, h.l1.set n1 i v, h.f2.set n2 i v, h.l2.set n2 i v⟩
theorem Two.moved {w0 W wc w' : World} {fb qn pb : Nat} {vs vc : List Value} {x y : (Bool × List Int × List Int) × Int × List (List Int)} {D : Nat → Prop} {f1 l1 f2 l2 : Value} {lo1 hi1 lo2 hi2 : Nat} (h : Two w0 W fb qn pb vs x y wc vc D f1 l1 f2 l2 lo1 hi1 lo2 hi2) (hq : qn < W.heap.size) (hb : Below wc.heap.size wc w') :
    Two w0 W fb qn pb vs x y w' vc D f1 l1 f2 l2 lo1 hi1 lo2 hi2 :=
  have hl := h.low
  ⟨h.ps.moved hb, h.tr.trans (Tr.old hb), h.low, h.d, h.f1.tr (Tr.old (qn := qn) hb) (by omega), h.l1.tr (Tr.old (qn := qn) hb) (by omega), h.f2.tr (Tr.old (qn := qn) hb) (by omega), h.l2.tr (Tr.old (qn := qn) hb) (by omega)⟩
def S7 (be bb off cap : Nat) (ka kb : Int) (sa la sb lb : Value) (w' : World) : Prop := w'.cell? ⟨be, 2, none⟩ = some (.slice (some ⟨bb, off, none⟩) 2 cap) ∧ w'.cell? ⟨bb, off, none⟩ = some (.int .i64 ka) ∧ w'.cell? ⟨bb, off + 1, none⟩ = some sa ∧ w'.cell? ⟨bb, off + 2, none⟩ = some la ∧ w'.cell? ⟨bb, off + 3, none⟩ = some (.int .i64 kb) ∧ w'.cell? ⟨bb, off + 4, none⟩ = some sb ∧ w'.cell? ⟨bb, off + 5, none⟩ = some lb
theorem set3_else {w : World} {b p : Nat} (h : p ≠ b) (a c d : Value) : (((w.setCell ⟨b, 0, none⟩ a).setCell ⟨b, 1, none⟩ c).setCell ⟨b, 2, none⟩ d).heap[p]? = w.heap[p]? := by
  rw [Below.heap_setCell _ _ _ _ (show p ≠ (⟨b, 2, none⟩ : Addr).block from h), Below.heap_setCell _ _ _ _ (show p ≠ (⟨b, 1, none⟩ : Addr).block from h), Below.heap_setCell _ _ _ _ (show p ≠ (⟨b, 0, none⟩ : Addr).block from h)]
end Go.Proofs.YtmgfpcblbbpahaaGreat

namespace Go.Proofs.YtmgfpcblbbpahaaGreat
open Go.RowKit Ru

def L44 (i j : Nat) : Array Bool := #[true, true, true, true, true, true, true, true, true, true, decide (1 ≤ i), decide (2 ≤ i), true, true, true, true, decide (1 ≤ j), decide (2 ≤ j), false, false]
def R44 (i j : Nat) : List Nat := (if i = 0 then [10] else if i = 1 then [11] else []) ++ (if j = 0 then [16] else if j = 1 ∧ i = 2 then [17] else [])
theorem R44_mem {i j k : Nat} (hi : i ≤ 2) (hj : j ≤ 2) (h : k ∈ R44 i j) : (i = 0 ∧ k = 10) ∨ (i = 1 ∧ k = 11) ∨ (j = 0 ∧ k = 16) ∨ (j = 1 ∧ i = 2 ∧ k = 17) := by
  obtain rfl | rfl | rfl : i = 0 ∨ i = 1 ∨ i = 2 := by omega
  all_goals (obtain rfl | rfl | rfl : j = 0 ∨ j = 1 ∨ j = 2 := by omega)
  all_goals (simp [R44] at h ⊢ <;> omega)
theorem R44_ne {i j : Nat} (hi : i ≤ 2) (hj : j ≤ 2) (hij : j = 2 → i = 2) (h : i < 2 ∨ j < 2) : R44 i j ≠ [] := by
  obtain rfl | rfl | rfl : i = 0 ∨ i = 1 ∨ i = 2 := by omega
  all_goals (obtain rfl | rfl | rfl : j = 0 ∨ j = 1 ∨ j = 2 := by omega)
  all_goals (first | omega | simp [R44])
theorem law44 {P : Program} {ops : Array Oper} {Q : Exit → Act → World → Prop} {S : World → Prop} {md : Region.Mode} (J : Nat → Nat → Act → World → Prop)
    (hr : ∀ i j, i ≤ 2 → j ≤ 2 → (j = 2 → i = 2) → (i < 2 ∨ j < 2) → Region.ready md ops (L44 i j) = R44 i j)
    (h0 : ∀ j a w, j ≤ 1 → J 0 j a w → wpOp P ops Q 10 (fun a' w' => S w' ∧ J 1 j a' w') a w)
    (h1 : ∀ j a w, j ≤ 1 → J 1 j a w → wpOp P ops Q 11 (fun a' w' => S w' ∧ J 2 j a' w') a w)
    (h2 : ∀ i a w, i ≤ 2 → J i 0 a w → wpOp P ops Q 16 (fun a' w' => S w' ∧ J i 1 a' w') a w)
    (h3 : ∀ a w, J 2 1 a w → wpOp P ops Q 17 (fun a' w' => S w' ∧ J 2 2 a' w') a w)
    (hend : ∀ a w, J 2 2 a w → wpAnyH P md ops Q S 2 (L44 2 2) a w) :
    ∀ n i j a w, i ≤ 2 → j ≤ 2 → (j = 2 → i = 2) → n + i + j = 4 → J i j a w → wpAnyH P md ops Q S (n + 2) (L44 i j) a w := by
  intro n
  induction n with
  | zero =>
    intro i j a w hi hj hij hn hJ
    obtain rfl : i = 2 := by omega
    obtain rfl : j = 2 := by omega
    exact hend a w hJ
  | succ n ih =>
    intro i j a w hi hj hij hn hJ
    have hnot : i < 2 ∨ j < 2 := by omega
    show wpAnyH P md ops Q S ((n + 2) + 1) _ _ _
    refine wpAnyH_all (hr i j hi hj hij hnot) (R44_ne hi hj hij hnot) (fun k hk => ?_)
    rcases R44_mem hi hj hk with ⟨rfl, rfl⟩ | ⟨rfl, rfl⟩ | ⟨rfl, rfl⟩ | ⟨rfl, rfl, rfl⟩
    · have hb : L44 (0 + 1) j = (L44 0 j).setIfInBounds 10 true := by simp [L44]
      exact wpOp_mono (fun a' w' h' => ⟨h'.1, by have := ih 1 j a' w' (by omega) (by omega) (by omega) (by omega) h'.2; exact this⟩) (h0 j a w (by omega) hJ)
    · exact wpOp_mono (fun a' w' h' => ⟨h'.1, ih 2 j a' w' (by omega) (by omega) (by omega) (by omega) h'.2⟩) (h1 j a w (by omega) hJ)
    · exact wpOp_mono (fun a' w' h' => ⟨h'.1, ih i 1 a' w' (by omega) (by omega) (by omega) (by omega) h'.2⟩) (h2 i a w hi hJ)
    · exact wpOp_mono (fun a' w' h' => ⟨h'.1, ih 2 2 a' w' (by omega) (by omega) (by omega) (by omega) h'.2⟩) (h3 a w hJ)

structure G44 (wc : World) (f1 f2 l1 l2 : Value) (A B : List Int) (i j : Nat) (s1 t1 s2 t2 : Value) (g1 g2 : Nat) (w : World) : Prop where
  bel : Below wc.heap.size wc w
  a1 : 1 ≤ i → s1 = .slice (some ⟨g1, 0, none⟩) 2 2 ∧ w.heap[g1]? = some (.cells #[f1, f2] 23 (0, 0))
  a2 : 2 ≤ i → (∃ o c, t1 = .slice o A.length c) ∧ w.ownsRow wc.heap.size 3 1 t1 A.length (ints1 A)
  b1 : 1 ≤ j → s2 = .slice (some ⟨g2, 0, none⟩) 2 2 ∧ w.heap[g2]? = some (.cells #[l1, l2] 23 (0, 0))
  b2 : 2 ≤ j → (∃ o c, t2 = .slice o B.length c) ∧ w.ownsRow wc.heap.size 3 1 t2 B.length (ints1 B)
section
variable {wc w w' : World} {f1 f2 l1 l2 : Value} {A B : List Int} {i j : Nat} {s1 t1 s2 t2 : Value} {g1 g2 : Nat}
theorem G44.lay1 (h : G44 wc f1 f2 l1 l2 A B 0 j s1 t1 s2 t2 g1 g2 w) : G44 wc f1 f2 l1 l2 A B 1 j (.slice (some ⟨w.heap.size, 0, none⟩) 2 2) t1 s2 t2 w.heap.size g2 (w.alloc (.cells #[f1, f2] 23)) :=
  have hb : Below w.heap.size w (w.alloc (.cells #[f1, f2] 23)) := bel_new (Below.refl _ _) _
  ⟨h.bel.trans (hb.mono h.bel.size), fun _ => ⟨rfl, heap_alloc_new w _⟩, fun e => by omega, fun e => ⟨(h.b1 e).1, bel_get hb (h.b1 e).2⟩, fun e => ⟨(h.b2 e).1, owns_below (h.b2 e).2 hb⟩⟩
theorem G44.lay2 (h : G44 wc f1 f2 l1 l2 A B i 0 s1 t1 s2 t2 g1 g2 w) : G44 wc f1 f2 l1 l2 A B i 1 s1 t1 (.slice (some ⟨w.heap.size, 0, none⟩) 2 2) t2 g1 w.heap.size (w.alloc (.cells #[l1, l2] 23)) :=
  have hb : Below w.heap.size w (w.alloc (.cells #[l1, l2] 23)) := bel_new (Below.refl _ _) _
  ⟨h.bel.trans (hb.mono h.bel.size), fun e => ⟨(h.a1 e).1, bel_get hb (h.a1 e).2⟩, fun e => ⟨(h.a2 e).1, owns_below (h.a2 e).2 hb⟩, fun _ => ⟨rfl, heap_alloc_new w _⟩, fun e => by omega⟩
theorem G44.call1 (h : G44 wc f1 f2 l1 l2 A B 1 j s1 t1 s2 t2 g1 g2 w) (hb : Below w.heap.size w w') {u : Value} (hu : w'.ownsRow w.heap.size 3 1 u A.length (ints1 A)) : G44 wc f1 f2 l1 l2 A B 2 j s1 u s2 t2 g1 g2 w' :=
  ⟨h.bel.trans (hb.mono h.bel.size), fun _ => ⟨(h.a1 (by omega)).1, bel_get hb (h.a1 (by omega)).2⟩, fun _ => ⟨nf_slice hu, Joins.ownsRow_le hu h.bel.size⟩, fun e => ⟨(h.b1 e).1, bel_get hb (h.b1 e).2⟩, fun e => ⟨(h.b2 e).1, owns_below (h.b2 e).2 hb⟩⟩
theorem G44.call2 (h : G44 wc f1 f2 l1 l2 A B 2 1 s1 t1 s2 t2 g1 g2 w) (hb : Below w.heap.size w w') {u : Value} (hu : w'.ownsRow w.heap.size 3 1 u B.length (ints1 B)) : G44 wc f1 f2 l1 l2 A B 2 2 s1 t1 s2 u g1 g2 w' :=
  ⟨h.bel.trans (hb.mono h.bel.size), fun e => ⟨(h.a1 e).1, bel_get hb (h.a1 e).2⟩, fun e => ⟨(h.a2 e).1, owns_below (h.a2 e).2 hb⟩, fun _ => ⟨(h.b1 (by omega)).1, bel_get hb (h.b1 (by omega)).2⟩, fun _ => ⟨nf_slice hu, Joins.ownsRow_le hu h.bel.size⟩⟩
end
def J44 (A : Array Value) (wc : World) (f1 f2 l1 l2 : Value) (X Y : List Int) (i j : Nat) (a : Act) (w : World) : Prop :=
  ∃ s1 t1 s2 t2 g1 g2, a = T22 72 73 78 79 A s1 t1 s2 t2 ∧ G44 wc f1 f2 l1 l2 X Y i j s1 t1 s2 t2 g1 g2 w
theorem reg44 {P : Program} {ops : Array Oper} {Q : Exit → Act → World → Prop} {S : World → Prop} {md : Region.Mode} {A : Array Value} {listed : Array Bool} {fuel : Nat} {w : World} (wc : World) (f1 f2 l1 l2 : Value) (X Y : List Int)
    (hl : listed = L44 0 0) (hf : fuel = 6) (hb : ∃ a b c d, (⟨A, []⟩ : Act) = T22 72 73 78 79 A a b c d) (hS : Below wc.heap.size wc w)
    (hr : ∀ i j, i ≤ 2 → j ≤ 2 → (j = 2 → i = 2) → (i < 2 ∨ j < 2) → Region.ready md ops (L44 i j) = R44 i j)
    (h0 : ∀ j a w, j ≤ 1 → J44 A wc f1 f2 l1 l2 X Y 0 j a w → wpOp P ops Q 10 (fun a' w' => S w' ∧ J44 A wc f1 f2 l1 l2 X Y 1 j a' w') a w)
    (h1 : ∀ j a w, j ≤ 1 → J44 A wc f1 f2 l1 l2 X Y 1 j a w → wpOp P ops Q 11 (fun a' w' => S w' ∧ J44 A wc f1 f2 l1 l2 X Y 2 j a' w') a w)
    (h2 : ∀ i a w, i ≤ 2 → J44 A wc f1 f2 l1 l2 X Y i 0 a w → wpOp P ops Q 16 (fun a' w' => S w' ∧ J44 A wc f1 f2 l1 l2 X Y i 1 a' w') a w)
    (h3 : ∀ a w, J44 A wc f1 f2 l1 l2 X Y 2 1 a w → wpOp P ops Q 17 (fun a' w' => S w' ∧ J44 A wc f1 f2 l1 l2 X Y 2 2 a' w') a w)
    (hend : ∀ a w, J44 A wc f1 f2 l1 l2 X Y 2 2 a w → wpAnyH P md ops Q S 2 (L44 2 2) a w) :
    wpAnyH P md ops Q S fuel listed ⟨A, []⟩ w := by
  subst hl; subst hf
  obtain ⟨va, vb, vc, vd, hb⟩ := hb
  refine law44 (J44 A wc f1 f2 l1 l2 X Y) hr h0 h1 h2 h3 hend 4 0 0 _ _ (by omega) (by omega) (by omega) rfl ⟨va, vb, vc, vd, 0, 0, hb, hS, fun e => by omega, fun e => by omega, fun e => by omega, fun e => by omega⟩
end Go.Proofs.YtmgfpcblbbpahaaGreat
