/- Worlds that differ below a bound in two blocks alone; blocks of one cell. No program's numbers. -/
import Derived.Test.YtmgfpcblbbpahaaGreatRowsOf
import Derived.WalkSmall
import Derived.Lib.SmallJoins
set_option linter.unusedVariables false
set_option linter.unusedSimpArgs false
namespace Go.Proofs.YtmgfpcblbbpahaaGreat
open Go.RowKit

theorem owns_slice {w : World} {base size n : Nat} {e : TypeId} {v : Value} {xs : List Value} (h : w.ownsRow base e size v n xs) : ∃ o c, v = .slice o n c := by
  obtain ⟨h1, ⟨rfl, rfl⟩ | ⟨g, cap, cur, rfl, h2⟩⟩ := h
  · exact ⟨_, _, rfl⟩
  · exact ⟨_, _, rfl⟩

/-- the blocks below b are as they were, but for two -/
structure But (w w' : World) (b qa qo : Nat) : Prop where
  os : w'.os = w.os
  tape : w'.tape = w.tape
  output : w'.output = w.output
  size : w.heap.size ≤ w'.heap.size
  block : ∀ k, k < b → k ≠ qa → k ≠ qo → w'.heap[k]? = w.heap[k]?
theorem But.trans {a b c : World} {m qa qo : Nat} (h : But a b m qa qo) (k : But b c m qa qo) : But a c m qa qo :=
  ⟨k.os.trans h.os, k.tape.trans h.tape, k.output.trans h.output, Nat.le_trans h.size k.size, fun i hi h1 h2 => (k.block i hi h1 h2).trans (h.block i hi h1 h2)⟩
theorem But.of {w w' : World} {b qa qo : Nat} (h : Below b w w') : But w w' b qa qo := ⟨h.os, h.tape, h.output, h.size, fun k hk _ _ => h.block k hk⟩
theorem But.drew {w w' : World} {b qa qo : Nat} (h : But w w' b qa qo) : But w w'.drew b qa qo := ⟨h.os, h.tape, h.output, h.size, h.block⟩
theorem But.setA {w w' : World} {b qa qo i : Nat} (h : But w w' b qa qo) (x : Value) : But w (w'.setCell ⟨qa, i, none⟩ x) b qa qo :=
  ⟨h.os, h.tape, h.output, by have := h.size; simpa [World.setCell] using this, fun k hk h1 h2 => by rw [Below.heap_setCell w' _ x k h1]; exact h.block k hk h1 h2⟩
theorem But.alloc {w w' : World} {b qa qo : Nat} (h : But w w' b qa qo) (hb : b ≤ w'.heap.size) (o : Obj) : But w (w'.alloc o) b qa qo :=
  ⟨h.os, h.tape, h.output, by have := h.size; simp; omega, fun k hk h1 h2 => by rw [Below.heap_alloc w' o k (by omega)]; exact h.block k hk h1 h2⟩
theorem But.grown {w w' w2 : World} {b qa qo : Nat} {row : Option Nat} (h : But w w' b qa qo) (hg : w'.grownBy w2 row) (hb : b ≤ w'.heap.size) (hr : ∀ k, row = some k → b ≤ k) : But w w2 b qa qo :=
  ⟨hg.os.trans h.os, hg.tape.trans h.tape, hg.output.trans h.output, Nat.le_trans h.size hg.size, fun k hk h1 h2 => (hg.block k (by omega) (fun e => by have := hr k e.symm; omega)).trans (h.block k hk h1 h2)⟩

theorem cell1_of {w : World} {p : Nat} {a : Value} {t : TypeId} (h : w.heap[p]? = some (.cells #[a] t (0, 0))) : w.cell? ⟨p, 0, none⟩ = some a ∧ w.frozen? ⟨p, 0, none⟩ = false := by
  simp [World.cell?, World.frozen?, h]
theorem setc {w : World} {p : Nat} {a : Value} {t : TypeId} (h : w.heap[p]? = some (.cells #[a] t (0, 0))) (x : Value) : (w.setCell ⟨p, 0, none⟩ x).heap[p]? = some (.cells #[x] t (0, 0)) := by
  simp [World.setCell, Array.getElem?_modify, h]

end Go.Proofs.YtmgfpcblbbpahaaGreat
