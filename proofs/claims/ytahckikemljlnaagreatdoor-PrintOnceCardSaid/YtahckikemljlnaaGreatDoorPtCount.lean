/- gram.Count. -/
import Derived.Test.YtahckikemljlnaaGreatDoorPtFits
set_option linter.unusedVariables false
set_option linter.unusedSimpArgs false
namespace Go.Proofs.YtahckikemljlnaaGreatDoor
open Go.RowKit Ru
namespace PT
theorem size_sizes (e : PT) : e.size = sizes e.parts + 1 := by cases e; rw [size_mk]; rfl
end PT
/-- as it was, but for what is new, and two blocks -/
structure Ch2 (w w' : World) (p q : Nat) : Prop where
  os : w'.os = w.os
  tape : w'.tape = w.tape
  output : w'.output = w.output
  size : w.heap.size ≤ w'.heap.size
  block : ∀ k, k < w.heap.size → k ≠ p → k ≠ q → w'.heap[k]? = w.heap[k]?
theorem Ch2.refl (w : World) (p q : Nat) : Ch2 w w p q := ⟨rfl, rfl, rfl, Nat.le_refl _, fun _ _ _ _ => rfl⟩
theorem Ch2.trans {a b c : World} {p q : Nat} (h : Ch2 a b p q) (k : Ch2 b c p q) : Ch2 a c p q :=
  ⟨k.os.trans h.os, k.tape.trans h.tape, k.output.trans h.output, Nat.le_trans h.size k.size, fun j hj hp hq => by have := h.size; rw [k.block j (by omega) hp hq, h.block j hj hp hq]⟩
theorem Ch2.of {w w' : World} {p q : Nat} (h : Below w.heap.size w w') : Ch2 w w' p q := ⟨h.os, h.tape, h.output, h.size, fun k hk _ _ => h.block k hk⟩
theorem Ch2.get {w w' : World} {p q k : Nat} {o : Obj} (h : Ch2 w w' p q) (hk : w.heap[k]? = some o) (h1 : k ≠ p) (h2 : k ≠ q) : w'.heap[k]? = some o := by rw [h.block k (hp_lt hk) h1 h2]; exact hk
theorem Ch2.after {w0 w w' : World} {p q : Nat} (h : Below w0.heap.size w0 w) (k : Ch2 w w' p q) (hp : w0.heap.size ≤ p) (hq : w0.heap.size ≤ q) : Below w0.heap.size w0 w' :=
  h.trans ⟨k.os, k.tape, k.output, k.size, fun j hj => k.block j (by have := h.size; omega) (by omega) (by omega)⟩
end Go.Proofs.YtahckikemljlnaaGreatDoor
