/- Tint: a statement of three calls in a row and three new variables, in whatever order they come up. -/
import Derived.Test.YtdpnpfgejfhcgaaTintLaw2
import Derived.Test.YtdpnpfgejfhcgaaTintMath5
import Derived.Deep.RegionHeld
set_option linter.unusedVariables false
set_option linter.unusedSimpArgs false
namespace Go.Proofs.Ytdpnpfgejfhcgaa
open Go.RowKit Fl

def L33 (c : Nat) (x y z : Bool) : Array Bool := #[true, decide (1 ≤ c), true, decide (2 ≤ c), true, decide (3 ≤ c), x, y, z, false, false, false]
def R33 (c : Nat) (x y z : Bool) : List Nat := (if c = 0 then [1] else if c = 1 then [3] else if c = 2 then [5] else []) ++ ((if x then [] else [6]) ++ ((if y then [] else [7]) ++ (if z then [] else [8])))
theorem R33_mem {c : Nat} {x y z : Bool} {i : Nat} (hc : c ≤ 3) (h : i ∈ R33 c x y z) : (c = 0 ∧ i = 1) ∨ (c = 1 ∧ i = 3) ∨ (c = 2 ∧ i = 5) ∨ (x = false ∧ i = 6) ∨ (y = false ∧ i = 7) ∨ (z = false ∧ i = 8) := by
  obtain rfl | rfl | rfl | rfl : c = 0 ∨ c = 1 ∨ c = 2 ∨ c = 3 := by omega
  all_goals (cases x <;> cases y <;> cases z <;> simp [R33] at h ⊢ <;> omega)
theorem R33_ne {c : Nat} {x y z : Bool} (hc : c ≤ 3) (h : c < 3 ∨ x = false ∨ y = false ∨ z = false) : R33 c x y z ≠ [] := by
  obtain rfl | rfl | rfl | rfl : c = 0 ∨ c = 1 ∨ c = 2 ∨ c = 3 := by omega
  all_goals (cases x <;> cases y <;> cases z <;> simp [R33] at h ⊢)

theorem law33 {P : Program} {ops : Array Oper} {Q : Exit → Act → World → Prop} {S : World → Prop} {md : Region.Mode} (J : Nat → Bool → Bool → Bool → Act → World → Prop)
    (hr : ∀ c, c ≤ 3 → ∀ x y z, (c < 3 ∨ x = false ∨ y = false ∨ z = false) → Region.ready md ops (L33 c x y z) = R33 c x y z)
    (h0 : ∀ x y z a w, J 0 x y z a w → wpOp P ops Q 1 (fun a' w' => S w' ∧ J 1 x y z a' w') a w)
    (h1 : ∀ x y z a w, J 1 x y z a w → wpOp P ops Q 3 (fun a' w' => S w' ∧ J 2 x y z a' w') a w)
    (h2 : ∀ x y z a w, J 2 x y z a w → wpOp P ops Q 5 (fun a' w' => S w' ∧ J 3 x y z a' w') a w)
    (hx : ∀ c y z a w, J c false y z a w → wpOp P ops Q 6 (fun a' w' => S w' ∧ J c true y z a' w') a w)
    (hy : ∀ c x z a w, J c x false z a w → wpOp P ops Q 7 (fun a' w' => S w' ∧ J c x true z a' w') a w)
    (hz : ∀ c x y a w, J c x y false a w → wpOp P ops Q 8 (fun a' w' => S w' ∧ J c x y true a' w') a w)
    (hend : ∀ a w, J 3 true true true a w → wpAnyH P md ops Q S 3 (L33 3 true true true) a w) :
    ∀ n c x y z a w, c ≤ 3 → n + c + x.toNat + y.toNat + z.toNat = 6 → J c x y z a w → wpAnyH P md ops Q S (n + 3) (L33 c x y z) a w := by
  intro n
  induction n with
  | zero =>
    intro c x y z a w hc3 hn hj
    have : c = 3 ∧ x = true ∧ y = true ∧ z = true := by cases x <;> cases y <;> cases z <;> simp at hn ⊢ <;> omega
    obtain ⟨rfl, rfl, rfl, rfl⟩ := this
    exact hend a w hj
  | succ n ih =>
    intro c x y z a w hc3 hn hj
    have hnot : c < 3 ∨ x = false ∨ y = false ∨ z = false := by cases x <;> cases y <;> cases z <;> simp at hn ⊢ <;> omega
    show wpAnyH P md ops Q S ((n + 3) + 1) _ _ _
    refine wpAnyH_all (hr c hc3 x y z hnot) (R33_ne hc3 hnot) (fun i hi => ?_)
    rcases R33_mem hc3 hi with ⟨rfl, rfl⟩ | ⟨rfl, rfl⟩ | ⟨rfl, rfl⟩ | ⟨rfl, rfl⟩ | ⟨rfl, rfl⟩ | ⟨rfl, rfl⟩
    · exact wpOp_mono (fun a' w' h' => ⟨h'.1, ih 1 x y z a' w' (by omega) (by omega) h'.2⟩) (h0 x y z a w hj)
    · exact wpOp_mono (fun a' w' h' => ⟨h'.1, ih 2 x y z a' w' (by omega) (by omega) h'.2⟩) (h1 x y z a w hj)
    · exact wpOp_mono (fun a' w' h' => ⟨h'.1, ih 3 x y z a' w' (by omega) (by omega) h'.2⟩) (h2 x y z a w hj)
    · exact wpOp_mono (fun a' w' h' => ⟨h'.1, ih c true y z a' w' (by omega) (by simp at hn ⊢; omega) h'.2⟩) (hx c y z a w hj)
    · exact wpOp_mono (fun a' w' h' => ⟨h'.1, ih c x true z a' w' (by omega) (by simp at hn ⊢; omega) h'.2⟩) (hy c x z a w hj)
    · exact wpOp_mono (fun a' w' h' => ⟨h'.1, ih c x y true a' w' (by omega) (by simp at hn ⊢; omega) h'.2⟩) (hz c x y a w hj)

abbrev Z3 : Obj := .cells #[.float .f64 0, .float .f64 0, .float .f64 0] 24
def New (w0 w : World) (p : Nat) : Prop := w0.heap.size ≤ p ∧ w.heap[p]? = some (.cells #[.float .f64 0, .float .f64 0, .float .f64 0] 24 (0, 0))
theorem New.lt {w0 w : World} {p : Nat} (h : New w0 w p) : p < w.heap.size := by
  rcases Nat.lt_or_ge p w.heap.size with h1 | h1
  · exact h1
  · have := h.2; rw [Array.getElem?_eq_none h1] at this; cases this
theorem New.below {w0 w w' : World} {p : Nat} (h : New w0 w p) (hb : Below w.heap.size w w') : New w0 w' p := ⟨h.1, by rw [hb.block p h.lt]; exact h.2⟩
structure G33 (w0 : World) (va vb : Value) (c : Nat) (x y z : Bool) (s8 s9 s10 s40 s42 s44 : Value) (p8 p9 p10 : Nat) (w : World) : Prop where
  f1 : 1 ≤ c → s40 = va
  f2 : 2 ≤ c → s42 = vb
  f3 : 3 ≤ c → s44 = va
  x1 : x = true → s8 = .pointer (some ⟨p8, 0, none⟩) ∧ New w0 w p8
  y1 : y = true → s9 = .pointer (some ⟨p9, 0, none⟩) ∧ New w0 w p9
  z1 : z = true → s10 = .pointer (some ⟨p10, 0, none⟩) ∧ New w0 w p10
  xy : x = true → y = true → p8 ≠ p9
  xz : x = true → z = true → p8 ≠ p10
  yz : y = true → z = true → p9 ≠ p10
  bel : Below w0.heap.size w0 w
theorem G33.below {w0 : World} {va vb : Value} {c : Nat} {x y z : Bool} {s8 s9 s10 s40 s42 s44 : Value} {p8 p9 p10 : Nat} {w w' : World} (h : G33 w0 va vb c x y z s8 s9 s10 s40 s42 s44 p8 p9 p10 w) (hb : Below w.heap.size w w') :
    G33 w0 va vb c x y z s8 s9 s10 s40 s42 s44 p8 p9 p10 w' :=
  ⟨h.f1, h.f2, h.f3, fun e => ⟨(h.x1 e).1, (h.x1 e).2.below hb⟩, fun e => ⟨(h.y1 e).1, (h.y1 e).2.below hb⟩, fun e => ⟨(h.z1 e).1, (h.z1 e).2.below hb⟩, h.xy, h.xz, h.yz, h.bel.trans (hb.mono h.bel.size)⟩
theorem G33.call0 {w0 : World} {va vb : Value} {x y z : Bool} {s8 s9 s10 s40 s42 s44 : Value} {p8 p9 p10 : Nat} {w w' : World} (h : G33 w0 va vb 0 x y z s8 s9 s10 s40 s42 s44 p8 p9 p10 w) (hb : Below w.heap.size w w') :
    G33 w0 va vb 1 x y z s8 s9 s10 va s42 s44 p8 p9 p10 w' :=
  { h.below hb with f1 := fun _ => rfl, f2 := fun e => by omega, f3 := fun e => by omega }
theorem G33.call1 {w0 : World} {va vb : Value} {x y z : Bool} {s8 s9 s10 s40 s42 s44 : Value} {p8 p9 p10 : Nat} {w w' : World} (h : G33 w0 va vb 1 x y z s8 s9 s10 s40 s42 s44 p8 p9 p10 w) (hb : Below w.heap.size w w') :
    G33 w0 va vb 2 x y z s8 s9 s10 s40 vb s44 p8 p9 p10 w' :=
  { h.below hb with f1 := fun _ => h.f1 (by omega), f2 := fun _ => rfl, f3 := fun e => by omega }
theorem G33.call2 {w0 : World} {va vb : Value} {x y z : Bool} {s8 s9 s10 s40 s42 s44 : Value} {p8 p9 p10 : Nat} {w w' : World} (h : G33 w0 va vb 2 x y z s8 s9 s10 s40 s42 s44 p8 p9 p10 w) (hb : Below w.heap.size w w') :
    G33 w0 va vb 3 x y z s8 s9 s10 s40 s42 va p8 p9 p10 w' :=
  { h.below hb with f1 := fun _ => h.f1 (by omega), f2 := fun _ => h.f2 (by omega), f3 := fun _ => rfl }
theorem new_new {w0 w : World} (h : Below w0.heap.size w0 w) : New w0 (w.alloc Z3) w.heap.size := ⟨h.size, heap_alloc_new w _⟩
theorem G33.newx {w0 : World} {va vb : Value} {c : Nat} {y z : Bool} {s8 s9 s10 s40 s42 s44 : Value} {p8 p9 p10 : Nat} {w : World} (h : G33 w0 va vb c false y z s8 s9 s10 s40 s42 s44 p8 p9 p10 w) :
    G33 w0 va vb c true y z (.pointer (some ⟨w.heap.size, 0, none⟩)) s9 s10 s40 s42 s44 w.heap.size p9 p10 (w.alloc Z3) :=
  { h.below ((Below.refl _ _).alloc (Nat.le_refl _) Z3) with
    x1 := fun _ => ⟨rfl, new_new h.bel⟩
    xy := fun _ e => by have := (h.y1 e).2.lt; omega
    xz := fun _ e => by have := (h.z1 e).2.lt; omega }
theorem G33.newy {w0 : World} {va vb : Value} {c : Nat} {x z : Bool} {s8 s9 s10 s40 s42 s44 : Value} {p8 p9 p10 : Nat} {w : World} (h : G33 w0 va vb c x false z s8 s9 s10 s40 s42 s44 p8 p9 p10 w) :
    G33 w0 va vb c x true z s8 (.pointer (some ⟨w.heap.size, 0, none⟩)) s10 s40 s42 s44 p8 w.heap.size p10 (w.alloc Z3) :=
  { h.below ((Below.refl _ _).alloc (Nat.le_refl _) Z3) with
    y1 := fun _ => ⟨rfl, new_new h.bel⟩
    xy := fun e _ => by have := (h.x1 e).2.lt; omega
    yz := fun _ e => by have := (h.z1 e).2.lt; omega }
theorem G33.newz {w0 : World} {va vb : Value} {c : Nat} {x y : Bool} {s8 s9 s10 s40 s42 s44 : Value} {p8 p9 p10 : Nat} {w : World} (h : G33 w0 va vb c x y false s8 s9 s10 s40 s42 s44 p8 p9 p10 w) :
    G33 w0 va vb c x y true s8 s9 (.pointer (some ⟨w.heap.size, 0, none⟩)) s40 s42 s44 p8 p9 w.heap.size (w.alloc Z3) :=
  { h.below ((Below.refl _ _).alloc (Nat.le_refl _) Z3) with
    z1 := fun _ => ⟨rfl, new_new h.bel⟩
    xz := fun e _ => by have := (h.x1 e).2.lt; omega
    yz := fun e _ => by have := (h.y1 e).2.lt; omega }
theorem cells3z {w : World} {p : Nat} {t : TypeId} {a b c : Value} (h : w.heap[p]? = some (.cells #[a, b, c] t (0, 0))) :
    (w.cell? ⟨p, 0, none⟩ = some a ∧ w.cell? ⟨p, 1, none⟩ = some b ∧ w.cell? ⟨p, 2, none⟩ = some c) ∧ w.frozen? ⟨p, 0, none⟩ = false ∧ w.frozen? ⟨p, 1, none⟩ = false ∧ w.frozen? ⟨p, 2, none⟩ = false := by
  simp [World.cell?, World.frozen?, h]
abbrev set3 (w : World) (p : Nat) (x y z : Value) : World := ((w.setCell ⟨p, 0, none⟩ x).setCell ⟨p, 1, none⟩ y).setCell ⟨p, 2, none⟩ z
theorem set3o {w : World} {p q : Nat} (x y z : Value) (h : p ≠ q) : (set3 w p x y z).heap[q]? = w.heap[q]? := by
  unfold set3
  rw [Below.heap_setCell _ _ _ _ (by simpa using fun e => h e.symm), Below.heap_setCell _ _ _ _ (by simpa using fun e => h e.symm), Below.heap_setCell _ _ _ _ (by simpa using fun e => h e.symm)]
theorem set3i {w : World} {p : Nat} {a b c : Value} {t : TypeId} (x y z : Value) (h : w.heap[p]? = some (.cells #[a, b, c] t (0, 0))) : (set3 w p x y z).heap[p]? = some (.cells #[x, y, z] t (0, 0)) := by
  simp [set3, World.setCell, Array.getElem?_modify, h]
def T33 (A : Array Value) (s8 s9 s10 s40 s42 s44 : Value) : Act := { tmps := (((((A.setIfInBounds 8 s8).setIfInBounds 9 s9).setIfInBounds 10 s10).setIfInBounds 40 s40).setIfInBounds 42 s42).setIfInBounds 44 s44, defers := [] }
def J33 (A : Array Value) (w0 : World) (va vb : Value) (c : Nat) (x y z : Bool) (a : Act) (w : World) : Prop :=
  ∃ s8 s9 s10 s40 s42 s44 p8 p9 p10, a = T33 A s8 s9 s10 s40 s42 s44 ∧ G33 w0 va vb c x y z s8 s9 s10 s40 s42 s44 p8 p9 p10 w
theorem J33.begin {A : Array Value} {w0 w : World} {va vb : Value} {s8 s9 s10 s40 s42 s44 : Value} {a : Act} (e : a = T33 A s8 s9 s10 s40 s42 s44) (h : Below w0.heap.size w0 w) : J33 A w0 va vb 0 false false false a w :=
  ⟨s8, s9, s10, s40, s42, s44, 0, 0, 0, e, by constructor <;> (first | exact h | (intro e; omega) | (intro e; cases e) | (intro e f; cases e))⟩
theorem reg33 {P : Program} {ops : Array Oper} {Q : Exit → Act → World → Prop} {S : World → Prop} {md : Region.Mode} {A : Array Value} {listed : Array Bool} {fuel : Nat} {w : World} (w0 : World) (va vb : Value)
    (hl : listed = L33 0 false false false) (hf : fuel = 9) (hb : (⟨A, []⟩ : Act) = T33 A undef undef undef undef undef undef) (hS : Below w0.heap.size w0 w)
    (hr : ∀ c, c ≤ 3 → ∀ x y z, (c < 3 ∨ x = false ∨ y = false ∨ z = false) → Region.ready md ops (L33 c x y z) = R33 c x y z)
    (h0 : ∀ x y z a w, J33 A w0 va vb 0 x y z a w → wpOp P ops Q 1 (fun a' w' => S w' ∧ J33 A w0 va vb 1 x y z a' w') a w)
    (h1 : ∀ x y z a w, J33 A w0 va vb 1 x y z a w → wpOp P ops Q 3 (fun a' w' => S w' ∧ J33 A w0 va vb 2 x y z a' w') a w)
    (h2 : ∀ x y z a w, J33 A w0 va vb 2 x y z a w → wpOp P ops Q 5 (fun a' w' => S w' ∧ J33 A w0 va vb 3 x y z a' w') a w)
    (hx : ∀ c y z a w, J33 A w0 va vb c false y z a w → wpOp P ops Q 6 (fun a' w' => S w' ∧ J33 A w0 va vb c true y z a' w') a w)
    (hy : ∀ c x z a w, J33 A w0 va vb c x false z a w → wpOp P ops Q 7 (fun a' w' => S w' ∧ J33 A w0 va vb c x true z a' w') a w)
    (hz : ∀ c x y a w, J33 A w0 va vb c x y false a w → wpOp P ops Q 8 (fun a' w' => S w' ∧ J33 A w0 va vb c x y true a' w') a w)
    (hend : ∀ a w, J33 A w0 va vb 3 true true true a w → wpAnyH P md ops Q S 3 (L33 3 true true true) a w) :
    wpAnyH P md ops Q S fuel listed ⟨A, []⟩ w := by
  subst hl; subst hf
  exact law33 (J33 A w0 va vb) hr h0 h1 h2 hx hy hz hend 6 0 false false false _ _ (by omega) rfl (J33.begin hb hS)
theorem tpart_lt2 {a : Nat} (h : a < 2 * S) : tpart a < 2 * S := by have := tpart_lt a h; have := INF_lt_S; omega
theorem tmix_self {a t : Nat} (ha : a < 2 * S) (ht : t < 2 * S) : tmix (tpart a) (tpart a) t = tpart a := by
  unfold tmix
  split
  · rfl
  · split
    · rfl
    · rw [tpart_part ha]; exact mix_self (tpart_le a ha) (tpart_le t ht)
def fmin (x y : Nat) : Nat := if x < y then x else y
def fmax (x y : Nat) : Nat := if x < y then y else x
theorem ford_small {x y : Nat} (hx : x ≤ ONE) (hy : y ≤ ONE) : FloatKind.f64.format.order x y = some (compare (val x : Int) (val y)) := by
  have h1 := ONE_lt
  have := ford_eq (small_ok (r := x) (by omega)) (small_ok (r := y) (by omega))
  unfold ford at this
  rw [this, small_sval (by omega), small_sval (by omega)]
theorem run_fmin {P : Program} {x y : Nat} (hx : x ≤ ONE) (hy : y ≤ ONE) (w : World) (ts : Array TypeId) (t : TypeId) :
    (Builtin.min_ ts t #[.float .f64 x, .float .f64 y]).run P w = .ok (.float .f64 (fmin x y)) w := by
  have h1 := ONE_lt
  have ho := ford_small hx hy
  unfold fmin
  by_cases h : x < y
  · rw [cmp_lt (by have := val_lt h; omega)] at ho
    rw [if_pos h]
    simp [Builtin.min_, Builtin.min2, ho]
  · rw [if_neg h]
    by_cases e : x = y
    · subst e
      rw [cmp_eq rfl] at ho
      simp [Builtin.min_, Builtin.min2, ho]
    · rw [cmp_gt (by have := val_lt (r := y) (s := x) (by omega); omega)] at ho
      simp [Builtin.min_, Builtin.min2, ho]
theorem run_fmax {P : Program} {x y : Nat} (hx : x ≤ ONE) (hy : y ≤ ONE) (w : World) (ts : Array TypeId) (t : TypeId) :
    (Builtin.max_ ts t #[.float .f64 x, .float .f64 y]).run P w = .ok (.float .f64 (fmax x y)) w := by
  have h1 := ONE_lt
  have ho := ford_small hx hy
  unfold fmax
  by_cases h : x < y
  · rw [cmp_lt (by have := val_lt h; omega)] at ho
    rw [if_pos h]
    simp [Builtin.max_, Builtin.max2, ho]
  · rw [if_neg h]
    by_cases e : x = y
    · subst e
      rw [cmp_eq rfl] at ho
      simp [Builtin.max_, Builtin.max2, ho]
    · rw [cmp_gt (by have := val_lt (r := y) (s := x) (by omega); omega)] at ho
      simp [Builtin.max_, Builtin.max2, ho]
theorem fmin_lt {x y : Nat} (hx : x ≤ ONE) (hy : y ≤ ONE) : rung (fmin x y) < INF := fin_small (by have := ONE_lt; unfold fmin; split <;> omega)
theorem fmax_lt {x y : Nat} (hx : x ≤ ONE) (hy : y ≤ ONE) : rung (fmax x y) < INF := fin_small (by have := ONE_lt; unfold fmax; split <;> omega)
theorem low_test {r r' t : Nat} (hr : r < 2 * S) (hr' : r' < 2 * S) (ht : t < 2 * S) (h0 : tpart t ≠ 0) (h1 : tpart t ≠ ONE) :
    ∃ ba bb : Bool, (FloatKind.f64.format.order (tmix r r' t) (subW (fmin (tpart r) (tpart r')) E15) == some .gt) = ba ∧ (FloatKind.f64.format.order (tmix r r' t) (subW (fmin (tpart r) (tpart r')) E15) == some .eq) = bb ∧ (ba || bb) = true := by
  refine ⟨_, _, rfl, rfl, ?_⟩
  have hO := ONE_lt
  have lx := tpart_le r hr
  have ly := tpart_le r' hr'
  have lu := tpart_le t ht
  have hm : tmix r r' t = tbetween (tpart r) (tpart r') (tpart t) := by unfold tmix; rw [if_neg h0, if_neg h1]
  rw [hm]
  have hmin : fmin (tpart r) (tpart r') = tpart r ∨ fmin (tpart r) (tpart r') = tpart r' := by unfold fmin; split <;> simp
  have hml : val (fmin (tpart r) (tpart r')) ≤ val (tpart r) ∧ val (fmin (tpart r) (tpart r')) ≤ val (tpart r') := by
    unfold fmin
    split
    · rename_i h; exact ⟨Nat.le_refl _, val_le (by omega)⟩
    · rename_i h; exact ⟨val_le (by omega), Nat.le_refl _⟩
  have hle := mix_low lx ly lu _ hmin hml.1 hml.2
  have hmo : fmin (tpart r) (tpart r') ≤ ONE := by rcases hmin with h | h <;> omega
  have n1 : ¬ INF < rung (tbetween (tpart r) (tpart r') (tpart t)) := by
    unfold tbetween addW; rw [rung_word (rq_lt_S _ _)]; have := rq_le_INF 0 (sval (tpart r) + sval (mulW (subW (tpart r') (tpart r)) (tpart t))).natAbs; omega
  have n2 : ¬ INF < rung (subW (fmin (tpart r) (tpart r')) E15) := by
    unfold subW; rw [rung_word (rq_lt_S _ _)]; have := rq_le_INF 0 (sval (fmin (tpart r) (tpart r')) - sval E15).natAbs; omega
  have := ford_eq n1 n2
  unfold ford at this
  rw [this, isgt, iseq]
  simp only [Bool.or_eq_true, decide_eq_true_eq]
  omega
theorem high_test {r r' t : Nat} (hr : r < 2 * S) (hr' : r' < 2 * S) (ht : t < 2 * S) (h0 : tpart t ≠ 0) (h1 : tpart t ≠ ONE) :
    ∃ ba bb : Bool, (FloatKind.f64.format.order (tmix r r' t) (addW (fmax (tpart r) (tpart r')) E15) == some .lt) = ba ∧ (FloatKind.f64.format.order (tmix r r' t) (addW (fmax (tpart r) (tpart r')) E15) == some .eq) = bb ∧ (ba || bb) = true := by
  refine ⟨_, _, rfl, rfl, ?_⟩
  have hO := ONE_lt
  have lx := tpart_le r hr
  have ly := tpart_le r' hr'
  have lu := tpart_le t ht
  have hm : tmix r r' t = tbetween (tpart r) (tpart r') (tpart t) := by unfold tmix; rw [if_neg h0, if_neg h1]
  rw [hm]
  have hmax : fmax (tpart r) (tpart r') = tpart r ∨ fmax (tpart r) (tpart r') = tpart r' := by unfold fmax; split <;> simp
  have hml : val (tpart r) ≤ val (fmax (tpart r) (tpart r')) ∧ val (tpart r') ≤ val (fmax (tpart r) (tpart r')) := by
    unfold fmax
    split
    · rename_i h; exact ⟨val_le (by omega), Nat.le_refl _⟩
    · rename_i h; exact ⟨Nat.le_refl _, val_le (by omega)⟩
  have hle := mix_high lx ly lu _ hmax hml.1 hml.2
  have n1 : ¬ INF < rung (tbetween (tpart r) (tpart r') (tpart t)) := by
    unfold tbetween addW; rw [rung_word (rq_lt_S _ _)]; have := rq_le_INF 0 (sval (tpart r) + sval (mulW (subW (tpart r') (tpart r)) (tpart t))).natAbs; omega
  have n2 : ¬ INF < rung (addW (fmax (tpart r) (tpart r')) E15) := by
    unfold addW; rw [rung_word (rq_lt_S _ _)]; have := rq_le_INF 0 (sval (fmax (tpart r) (tpart r')) + sval E15).natAbs; omega
  have := ford_eq n1 n2
  unfold ford at this
  rw [this, islt, iseq]
  simp only [Bool.or_eq_true, decide_eq_true_eq]
  omega
end Go.Proofs.Ytdpnpfgejfhcgaa
