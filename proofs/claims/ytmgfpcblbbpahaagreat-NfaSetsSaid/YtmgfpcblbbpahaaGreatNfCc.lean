/- A region with two rows laid and two calls, each behind its row, the second behind the first, in whatever order else. -/
import Derived.Test.YtmgfpcblbbpahaaGreatNfReg
set_option linter.unusedVariables false
set_option linter.unusedSimpArgs false
namespace Go.Proofs.YtmgfpcblbbpahaaGreat
open Go.RowKit Ru

def L44 (i j : Nat) : Array Bool := #[true, true, true, true, true, true, true, true, true, true, decide (1 ≤ i), decide (2 ≤ i), true, true, true, true, decide (1 ≤ j), decide (2 ≤ j), false, false]
def R44 (i j : Nat) : List Nat := (if i = 0 then [10] else if i = 1 then [11] else []) ++ (if j = 0 then [16] else if j = 1 ∧ i = 2 then [17] else [])
theorem R44_mem {i j k : Nat} (hi : i ≤ 2) (hj : j ≤ 2) (h : k ∈ R44 i j) : (i = 0 ∧ k = 10) ∨ (i = 1 ∧ k = 11) ∨ (j = 0 ∧ k = 16) ∨ (j = 1 ∧ i = 2 ∧ k = 17) := by
  obtain rfl | rfl | rfl : i = 0 ∨ i = 1 ∨ i = 2 := by omega
  all_goals (obtain rfl | rfl | rfl : j = 0 ∨ j = 1 ∨ j = 2 := by omega)
  all_goals (simp [R44] at h ⊢ <;> omega)
theorem R44_ne {i j : Nat} (hi : i ≤ 2) (hj : j ≤ 2) (hij : j = 2 → i = 2) (h : i < 2 ∨ j < 2) : R44 i j ≠ [] := by
  obtain rfl | rfl | rfl : i = 0 ∨ i = 1 ∨ i = 2 := by omega
  all_goals (obtain rfl | rfl | rfl : j = 0 ∨ j = 1 ∨ j = 2 := by omega)
  all_goals (first | omega | simp [R44])
theorem law44 {P : Program} {ops : Array Oper} {Q : Exit → Act → World → Prop} {S : World → Prop} {md : Region.Mode} (J : Nat → Nat → Act → World → Prop)
    (hr : ∀ i j, i ≤ 2 → j ≤ 2 → (j = 2 → i = 2) → (i < 2 ∨ j < 2) → Region.ready md ops (L44 i j) = R44 i j)
    (h0 : ∀ j a w, j ≤ 1 → J 0 j a w → wpOp P ops Q 10 (fun a' w' => S w' ∧ J 1 j a' w') a w)
    (h1 : ∀ j a w, j ≤ 1 → J 1 j a w → wpOp P ops Q 11 (fun a' w' => S w' ∧ J 2 j a' w') a w)
    (h2 : ∀ i a w, i ≤ 2 → J i 0 a w → wpOp P ops Q 16 (fun a' w' => S w' ∧ J i 1 a' w') a w)
    (h3 : ∀ a w, J 2 1 a w → wpOp P ops Q 17 (fun a' w' => S w' ∧ J 2 2 a' w') a w)
    (hend : ∀ a w, J 2 2 a w → wpAnyH P md ops Q S 2 (L44 2 2) a w) :
    ∀ n i j a w, i ≤ 2 → j ≤ 2 → (j = 2 → i = 2) → n + i + j = 4 → J i j a w → wpAnyH P md ops Q S (n + 2) (L44 i j) a w := by
  intro n
  induction n with
  | zero =>
    intro i j a w hi hj hij hn hJ
    obtain rfl : i = 2 := by omega
    obtain rfl : j = 2 := by omega
    exact hend a w hJ
  | succ n ih =>
    intro i j a w hi hj hij hn hJ
    have hnot : i < 2 ∨ j < 2 := by omega
    show wpAnyH P md ops Q S ((n + 2) + 1) _ _ _
    refine wpAnyH_all (hr i j hi hj hij hnot) (R44_ne hi hj hij hnot) (fun k hk => ?_)
    rcases R44_mem hi hj hk with ⟨rfl, rfl⟩ | ⟨rfl, rfl⟩ | ⟨rfl, rfl⟩ | ⟨rfl, rfl, rfl⟩
    · have hb : L44 (0 + 1) j = (L44 0 j).setIfInBounds 10 true := by simp [L44]
      exact wpOp_mono (fun a' w' h' => ⟨h'.1, by have := ih 1 j a' w' (by omega) (by omega) (by omega) (by omega) h'.2; exact this⟩) (h0 j a w (by omega) hJ)
    · exact wpOp_mono (fun a' w' h' => ⟨h'.1, ih 2 j a' w' (by omega) (by omega) (by omega) (by omega) h'.2⟩) (h1 j a w (by omega) hJ)
    · exact wpOp_mono (fun a' w' h' => ⟨h'.1, ih i 1 a' w' (by omega) (by omega) (by omega) (by omega) h'.2⟩) (h2 i a w hi hJ)
    · exact wpOp_mono (fun a' w' h' => ⟨h'.1, ih 2 2 a' w' (by omega) (by omega) (by omega) (by omega) h'.2⟩) (h3 a w hJ)

/-- the rows that are laid, and what the calls have told: wc is the world ahead of the region -/
structure G44 (wc : World) (f1 f2 l1 l2 : Value) (A B : List Int) (i j : Nat) (s1 t1 s2 t2 : Value) (g1 g2 : Nat) (w : World) : Prop where
  bel : Below wc.heap.size wc w
  a1 : 1 ≤ i → s1 = .slice (some ⟨g1, 0, none⟩) 2 2 ∧ w.heap[g1]? = some (.cells #[f1, f2] 23 (0, 0))
  a2 : 2 ≤ i → (∃ o c, t1 = .slice o A.length c) ∧ w.ownsRow wc.heap.size 3 1 t1 A.length (ints1 A)
  b1 : 1 ≤ j → s2 = .slice (some ⟨g2, 0, none⟩) 2 2 ∧ w.heap[g2]? = some (.cells #[l1, l2] 23 (0, 0))
  b2 : 2 ≤ j → (∃ o c, t2 = .slice o B.length c) ∧ w.ownsRow wc.heap.size 3 1 t2 B.length (ints1 B)
section
variable {wc w w' : World} {f1 f2 l1 l2 : Value} {A B : List Int} {i j : Nat} {s1 t1 s2 t2 : Value} {g1 g2 : Nat}
theorem G44.lay1 (h : G44 wc f1 f2 l1 l2 A B 0 j s1 t1 s2 t2 g1 g2 w) : G44 wc f1 f2 l1 l2 A B 1 j (.slice (some ⟨w.heap.size, 0, none⟩) 2 2) t1 s2 t2 w.heap.size g2 (w.alloc (.cells #[f1, f2] 23)) :=
  have hb : Below w.heap.size w (w.alloc (.cells #[f1, f2] 23)) := bel_new (Below.refl _ _) _
  ⟨h.bel.trans (hb.mono h.bel.size), fun _ => ⟨rfl, heap_alloc_new w _⟩, fun e => by omega, fun e => ⟨(h.b1 e).1, bel_get hb (h.b1 e).2⟩, fun e => ⟨(h.b2 e).1, owns_below (h.b2 e).2 hb⟩⟩
theorem G44.lay2 (h : G44 wc f1 f2 l1 l2 A B i 0 s1 t1 s2 t2 g1 g2 w) : G44 wc f1 f2 l1 l2 A B i 1 s1 t1 (.slice (some ⟨w.heap.size, 0, none⟩) 2 2) t2 g1 w.heap.size (w.alloc (.cells #[l1, l2] 23)) :=
  have hb : Below w.heap.size w (w.alloc (.cells #[l1, l2] 23)) := bel_new (Below.refl _ _) _
  ⟨h.bel.trans (hb.mono h.bel.size), fun e => ⟨(h.a1 e).1, bel_get hb (h.a1 e).2⟩, fun e => ⟨(h.a2 e).1, owns_below (h.a2 e).2 hb⟩, fun _ => ⟨rfl, heap_alloc_new w _⟩, fun e => by omega⟩
theorem G44.call1 (h : G44 wc f1 f2 l1 l2 A B 1 j s1 t1 s2 t2 g1 g2 w) (hb : Below w.heap.size w w') {u : Value} (hu : w'.ownsRow w.heap.size 3 1 u A.length (ints1 A)) : G44 wc f1 f2 l1 l2 A B 2 j s1 u s2 t2 g1 g2 w' :=
  ⟨h.bel.trans (hb.mono h.bel.size), fun _ => ⟨(h.a1 (by omega)).1, bel_get hb (h.a1 (by omega)).2⟩, fun _ => ⟨nf_slice hu, Joins.ownsRow_le hu h.bel.size⟩, fun e => ⟨(h.b1 e).1, bel_get hb (h.b1 e).2⟩, fun e => ⟨(h.b2 e).1, owns_below (h.b2 e).2 hb⟩⟩
theorem G44.call2 (h : G44 wc f1 f2 l1 l2 A B 2 1 s1 t1 s2 t2 g1 g2 w) (hb : Below w.heap.size w w') {u : Value} (hu : w'.ownsRow w.heap.size 3 1 u B.length (ints1 B)) : G44 wc f1 f2 l1 l2 A B 2 2 s1 t1 s2 u g1 g2 w' :=
  ⟨h.bel.trans (hb.mono h.bel.size), fun e => ⟨(h.a1 e).1, bel_get hb (h.a1 e).2⟩, fun e => ⟨(h.a2 e).1, owns_below (h.a2 e).2 hb⟩, fun _ => ⟨(h.b1 (by omega)).1, bel_get hb (h.b1 (by omega)).2⟩, fun _ => ⟨nf_slice hu, Joins.ownsRow_le hu h.bel.size⟩⟩
end
def J44 (A : Array Value) (wc : World) (f1 f2 l1 l2 : Value) (X Y : List Int) (i j : Nat) (a : Act) (w : World) : Prop :=
  ∃ s1 t1 s2 t2 g1 g2, a = T22 72 73 78 79 A s1 t1 s2 t2 ∧ G44 wc f1 f2 l1 l2 X Y i j s1 t1 s2 t2 g1 g2 w
theorem reg44 {P : Program} {ops : Array Oper} {Q : Exit → Act → World → Prop} {S : World → Prop} {md : Region.Mode} {A : Array Value} {listed : Array Bool} {fuel : Nat} {w : World} (wc : World) (f1 f2 l1 l2 : Value) (X Y : List Int)
    (hl : listed = L44 0 0) (hf : fuel = 6) (hb : ∃ a b c d, (⟨A, []⟩ : Act) = T22 72 73 78 79 A a b c d) (hS : Below wc.heap.size wc w)
    (hr : ∀ i j, i ≤ 2 → j ≤ 2 → (j = 2 → i = 2) → (i < 2 ∨ j < 2) → Region.ready md ops (L44 i j) = R44 i j)
    (h0 : ∀ j a w, j ≤ 1 → J44 A wc f1 f2 l1 l2 X Y 0 j a w → wpOp P ops Q 10 (fun a' w' => S w' ∧ J44 A wc f1 f2 l1 l2 X Y 1 j a' w') a w)
    (h1 : ∀ j a w, j ≤ 1 → J44 A wc f1 f2 l1 l2 X Y 1 j a w → wpOp P ops Q 11 (fun a' w' => S w' ∧ J44 A wc f1 f2 l1 l2 X Y 2 j a' w') a w)
    (h2 : ∀ i a w, i ≤ 2 → J44 A wc f1 f2 l1 l2 X Y i 0 a w → wpOp P ops Q 16 (fun a' w' => S w' ∧ J44 A wc f1 f2 l1 l2 X Y i 1 a' w') a w)
    (h3 : ∀ a w, J44 A wc f1 f2 l1 l2 X Y 2 1 a w → wpOp P ops Q 17 (fun a' w' => S w' ∧ J44 A wc f1 f2 l1 l2 X Y 2 2 a' w') a w)
    (hend : ∀ a w, J44 A wc f1 f2 l1 l2 X Y 2 2 a w → wpAnyH P md ops Q S 2 (L44 2 2) a w) :
    wpAnyH P md ops Q S fuel listed ⟨A, []⟩ w := by
  subst hl; subst hf
  obtain ⟨va, vb, vc, vd, hb⟩ := hb
  refine law44 (J44 A wc f1 f2 l1 l2 X Y) hr h0 h1 h2 h3 hend 4 0 0 _ _ (by omega) (by omega) (by omega) rfl ⟨va, vb, vc, vd, 0, 0, hb, hS, fun e => by omega, fun e => by omega, fun e => by omega, fun e => by omega⟩
end Go.Proofs.YtmgfpcblbbpahaaGreat
