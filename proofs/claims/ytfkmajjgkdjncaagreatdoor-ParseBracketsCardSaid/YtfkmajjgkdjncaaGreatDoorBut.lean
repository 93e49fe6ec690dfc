import Derived.Test.YtfkmajjgkdjncaaGreatDoorRowsOf
import Derived.WalkSmall
import Derived.Lib.SmallJoins
set_option linter.unusedVariables false
set_option linter.unusedSimpArgs false
namespace Go.Proofs.YtfkmajjgkdjncaaGreatDoor
open Go.RowKit
theorem owns_slice {w : World} {base size n : Nat} {e : TypeId} {v : Value} {xs : List Value} (h : w.ownsRow base e size v n xs) : ∃ o c, v = .slice o n c := by
 obtain ⟨h1, ⟨rfl, rfl⟩ | ⟨g, cap, cur, rfl, h2⟩⟩ := h
 · exact ⟨_, _, rfl⟩
 · exact ⟨_, _, rfl⟩
structure But (w w' : World) (b qa qo : Nat) : Prop where
 os : w'.os = w.os
 tape : w'.tape = w.tape
 output : w'.output = w.output
 size : w.heap.size ≤ w'.heap.size
 block : ∀ k, k < b → k ≠ qa → k ≠ qo → w'.heap[k]? = w.heap[k]?
theorem But.of {w w' : World} {b qa qo : Nat} (h : Below b w w') : But w w' b qa qo := ⟨h.os, h.tape, h.output, h.size, fun k hk _ _ => h.block k hk⟩
theorem drew_heap (w : World) : w.drew.heap = w.heap := rfl
theorem But.setA {w w' : World} {b qa qo i : Nat} (h : But w w' b qa qo) (x : Value) : But w (w'.setCell ⟨qa, i, none⟩ x) b qa qo :=
 ⟨h.os, h.tape, h.output, by have := h.size; simpa [World.setCell] using this, fun k hk h1 h2 => by rw [Below.heap_setCell w' _ x k h1]; exact h.block k hk h1 h2⟩
theorem cell1_of {w : World} {p : Nat} {a : Value} {t : TypeId} (h : w.heap[p]? = some (.cells #[a] t (0, 0))) : w.cell? ⟨p, 0, none⟩ = some a ∧ w.frozen? ⟨p, 0, none⟩ = false := by
 simp [World.cell?, World.frozen?, h]
theorem setc {w : World} {p : Nat} {a : Value} {t : TypeId} (h : w.heap[p]? = some (.cells #[a] t (0, 0))) (x : Value) : (w.setCell ⟨p, 0, none⟩ x).heap[p]? = some (.cells #[x] t (0, 0)) := by
 simp [World.setCell, Array.getElem?_modify, h]
end Go.Proofs.YtfkmajjgkdjncaaGreatDoor
