/- gram.Count. -/
import Derived.Test.YtbanmggkfpnalaaGreatDoorPtFits
set_option linter.unusedVariables false
set_option linter.unusedSimpArgs false
namespace Go.Proofs.YtbanmggkfpnalaaGreatDoor
open Go.RowKit Ru
namespace PT
mutual
/-- nodes and depth: so many were counted, so deep it was -/
def cnt : PT → Nat → Nat → Nat → Nat × Nat
  | .mk _ _ _ l, deep, n, d => cntL l (deep + 1) (n + 1) (max d deep)
def cntL : List PT → Nat → Nat → Nat → Nat × Nat
  | [], _, n, d => (n, d)
  | e :: l, deep, n, d => cntL l deep (cnt e deep n d).1 (cnt e deep n d).2
end
theorem cnt_eq (e : PT) (deep n d : Nat) : cnt e deep n d = cntL e.parts (deep + 1) (n + 1) (max d deep) := by cases e; rw [cnt]; rfl
theorem cntL_nil (deep n d : Nat) : cntL [] deep n d = (n, d) := by rw [cntL]
theorem cntL_cons (e : PT) (l : List PT) (deep n d : Nat) : cntL (e :: l) deep n d = cntL l deep (cnt e deep n d).1 (cnt e deep n d).2 := by rw [cntL]
theorem cnt_le : ∀ (N : Nat) (e : PT), e.size ≤ N → ∀ deep n d, (cnt e deep n d).1 = n + e.size ∧ (cnt e deep n d).2 ≤ max d (deep + e.size) := by
  intro N
  induction N with
  | zero => intro e h; have := e.size_pos; omega
  | succ N ih =>
    intro e hs deep n d
    rw [cnt_eq]
    have all : ∀ (l : List PT) (n d : Nat), sizes l ≤ N → (cntL l (deep + 1) n d).1 = n + sizes l ∧ (cntL l (deep + 1) n d).2 ≤ max d (deep + 1 + sizes l) := by
      intro l
      induction l with
      | nil => intro n d _; rw [cntL_nil, sizes_nil]; simp; omega
      | cons a l ihl =>
        intro n d hl
        rw [sizes_cons] at hl
        rw [cntL_cons, sizes_cons]
        have h1 := ih a (by omega) (deep + 1) n d
        have h2 := ihl (cnt a (deep + 1) n d).1 (cnt a (deep + 1) n d).2 (by omega)
        refine ⟨by rw [h2.1, h1.1]; omega, Nat.le_trans h2.2 ?_⟩
        omega
    have hz : e.size = sizes e.parts + 1 := by cases e; rw [size_mk]; rfl
    have := all e.parts (n + 1) (max d deep) (by omega)
    refine ⟨by rw [this.1]; omega, Nat.le_trans this.2 ?_⟩
    omega
theorem size_sizes (e : PT) : e.size = sizes e.parts + 1 := by cases e; rw [size_mk]; rfl
end PT
/-- as it was, but for what is new, and two blocks -/
structure Ch2 (w w' : World) (p q : Nat) : Prop where
  os : w'.os = w.os
  tape : w'.tape = w.tape
  output : w'.output = w.output
  size : w.heap.size ≤ w'.heap.size
  block : ∀ k, k < w.heap.size → k ≠ p → k ≠ q → w'.heap[k]? = w.heap[k]?
theorem Ch2.refl (w : World) (p q : Nat) : Ch2 w w p q := ⟨rfl, rfl, rfl, Nat.le_refl _, fun _ _ _ _ => rfl⟩
theorem Ch2.trans {a b c : World} {p q : Nat} (h : Ch2 a b p q) (k : Ch2 b c p q) : Ch2 a c p q :=
  ⟨k.os.trans h.os, k.tape.trans h.tape, k.output.trans h.output, Nat.le_trans h.size k.size, fun j hj hp hq => by have := h.size; rw [k.block j (by omega) hp hq, h.block j hj hp hq]⟩
theorem Ch2.of {w w' : World} {p q : Nat} (h : Below w.heap.size w w') : Ch2 w w' p q := ⟨h.os, h.tape, h.output, h.size, fun k hk _ _ => h.block k hk⟩
theorem Ch2.setP (w : World) (p q i : Nat) (x : Value) : Ch2 w (w.setCell ⟨p, i, none⟩ x) p q := ⟨rfl, rfl, rfl, by simp [World.setCell], fun k _ hp _ => Below.heap_setCell _ _ _ _ hp⟩
theorem Ch2.setQ (w : World) (p q i : Nat) (x : Value) : Ch2 w (w.setCell ⟨q, i, none⟩ x) p q := ⟨rfl, rfl, rfl, by simp [World.setCell], fun k _ _ hq => Below.heap_setCell _ _ _ _ hq⟩
theorem Ch2.get {w w' : World} {p q k : Nat} {o : Obj} (h : Ch2 w w' p q) (hk : w.heap[k]? = some o) (h1 : k ≠ p) (h2 : k ≠ q) : w'.heap[k]? = some o := by rw [h.block k (hp_lt hk) h1 h2]; exact hk
theorem Ch2.after {w0 w w' : World} {p q : Nat} (h : Below w0.heap.size w0 w) (k : Ch2 w w' p q) (hp : w0.heap.size ≤ p) (hq : w0.heap.size ≤ q) : Below w0.heap.size w0 w' :=
  h.trans ⟨k.os, k.tape, k.output, k.size, fun j hj => k.block j (by have := h.size; omega) (by omega) (by omega)⟩
end Go.Proofs.YtbanmggkfpnalaaGreatDoor
