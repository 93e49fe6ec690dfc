/- word: Class's deferred closure; what its results' blocks hold. -/
import Derived.Test.YtkngppkchaadhaaClsEl
import Derived.Test.YtkngppkchaadhaaClsRest
import Derived.RegionTactic
import Derived.ChangeAlike
import Derived.BigRegion
set_option linter.unusedVariables false
set_option linter.unusedSimpArgs false
namespace Go.Proofs.Ytkngppkchaadhaa
open Go.RowKit De

def CatchC (w : World) (p q r : Nat) (a b : Int) (x : Exit) (c : Act) (w' : World) : Prop :=
  x = .normal ∧ c.defers = [] ∧ w'.heap[p]? = some (.cells #[.slice none 0 0] 29 (0, 0)) ∧ w'.heap[q]? = some (.cells #[.int .i64 a] 3 (0, 0)) ∧ w'.heap[r]? = some (.cells #[.int .i64 b] 3 (0, 0)) ∧ ∀ k, k ≤ p → k ≤ q → k ≤ r → k ≤ w.heap.size → Below k w w'

set_option maxHeartbeats 1000000 in
set_option maxRecDepth 1000000 in
theorem ccatch_panic (p q r : Nat) (a b : Int) (v x y : Value) (w : World)
    (hP : w.heap[p]? = some (.cells #[v] 29 (0, 0))) (hQ : w.heap[q]? = some (.cells #[x] 3 (0, 0))) (hR : w.heap[r]? = some (.cells #[y] 3 (0, 0))) (hpq : p ≠ q) (hqr : q ≠ r) (hpr : p ≠ r) :
    CallsD Try.prog 20 #[.pointer (some ⟨p, 0, none⟩), .pointer (some ⟨q, 0, none⟩), .pointer (some ⟨r, 0, none⟩)] (.panicking ({ v := .iface 45 (.agg #[.int .i64 a, .int .i64 b]), recovered := false } :: [])) w fun e u' w' =>
      e = .returned (.tuple #[]) ∧ u' = .panicking ({ v := .iface 45 (.agg #[.int .i64 a, .int .i64 b]), recovered := true } :: []) ∧
      w'.heap[p]? = some (.cells #[.slice none 0 0] 29 (0, 0)) ∧ w'.heap[q]? = some (.cells #[.int .i64 a] 3 (0, 0)) ∧ w'.heap[r]? = some (.cells #[.int .i64 b] 3 (0, 0)) ∧ ∀ k, k ≤ p → k ≤ q → k ≤ r → k ≤ w.heap.size → Below k w w' := by
  have ta : ∀ w, (Instr.typeAssert (.iface 45 (.agg #[.int .i64 a, .int .i64 b])) 20 45 true).run Try.prog w = .ok (.tuple #[.agg #[.int .i64 a, .int .i64 b], .bool true]) w := fun w => by kernel_rfl
  obtain ⟨cP, fP⟩ := cell1_of hP
  obtain ⟨cQ, fQ⟩ := cell1_of hQ
  obtain ⟨cR, fR⟩ := cell1_of hR
  refine callsD_of_wpS Try.func20 rfl fun c₀ cs hu => ?_
  simp only [Try.ntmps20, List.size_toArray, List.length_cons, List.length_nil, Nat.reduceAdd, Nat.reduceSub, Array.replicate_succ, Array.replicate_zero, List.push_toArray, List.append_toArray, List.nil_append, List.cons_append]
  have hrec : recov (c₀ :: cs) = (.iface 45 (.agg #[.int .i64 a, .int .i64 b]), { c₀ with mode := .panicking ({ v := .iface 45 (.agg #[.int .i64 a, .int .i64 b]), recovered := true } :: []) } :: cs) := by
    simp [recov, recoverD, hu]
  apply wpS_seq
  refine wpS_region_recover rfl rfl ?_
  rw [hrec]
  have HU := Lib.hid hu
  clear hrec hu
  have HI := Lib.hid (And.intro hP (And.intro hQ hR))
  have hlt : p < w.heap.size := by rcases Nat.lt_or_ge p w.heap.size with h | h; exact h; simp [h] at hP
  have hlo : q < w.heap.size := by rcases Nat.lt_or_ge q w.heap.size with h | h; exact h; simp [h] at hQ
  have hlf : r < w.heap.size := by rcases Nat.lt_or_ge r w.heap.size with h | h; exact h; simp [h] at hR
  clear hP hQ hR
  go_wp2
  simp only [Exit.thenS]
  refine wpS_of_wp (wp_mono (Q := CatchC w p q r a b) ?_ ?_)
  · go_wp2
    go_region
    obtain ⟨hP, hQ, hR⟩ := HI.out
    refine ⟨rfl, rfl, ?_, ?_, ?_, ?_⟩
    · rw [drew_heap, Below.heap_alloc _ _ _ (by simp [World.setCell]; omega), Below.heap_setCell _ _ _ _ (by simpa using hpr), Below.heap_setCell _ _ _ _ (by simpa using hpq)]
      exact set1 hP _
    · rw [drew_heap, Below.heap_alloc _ _ _ (by simp [World.setCell]; omega), Below.heap_setCell _ _ _ _ (by simpa using hqr)]
      refine set1 (a := x) ?_ _
      rw [Below.heap_setCell _ _ _ _ (by simpa using fun e => hpq e.symm)]
      exact hQ
    · rw [drew_heap, Below.heap_alloc _ _ _ (by simp [World.setCell]; omega)]
      refine set1 (a := y) ?_ _
      rw [Below.heap_setCell _ _ _ _ (by simpa using fun e => hqr e.symm), Below.heap_setCell _ _ _ _ (by simpa using fun e => hpr e.symm)]
      exact hR
    · intro k h1 h2 h3 h4
      exact (((((Below.refl k w).setCell h1 _).setCell h2 _).setCell h3 _).alloc (by simp [World.setCell]; exact h4) _).drew
  · rintro e a w' ⟨rfl, hdf, h1, h2, h3, h4⟩
    refine ⟨hdf, _, rfl, .tuple #[], ?_, rfl, rfl, h1, h2, h3, h4⟩
    exact results_none rfl _ _ _
set_option maxHeartbeats 1000000 in
set_option maxRecDepth 1000000 in
theorem ccatch_idle (p q r : Nat) (w : World) :
    CallsD Try.prog 20 #[.pointer (some ⟨p, 0, none⟩), .pointer (some ⟨q, 0, none⟩), .pointer (some ⟨r, 0, none⟩)] .returning w fun e u' w' =>
      e = .returned (.tuple #[]) ∧ u' = .returning ∧ w' = w.alloc (.cells #[.int .i64 0, .int .i64 0] 45) := by
  have ta : ∀ w, (Instr.typeAssert .nilIface 20 45 true).run Try.prog w = .ok (.tuple #[.agg #[.int .i64 0, .int .i64 0], .bool false]) w := fun w => by kernel_rfl
  refine callsD_of_wpS Try.func20 rfl fun c₀ cs hu => ?_
  simp only [Try.ntmps20, List.size_toArray, List.length_cons, List.length_nil, Nat.reduceAdd, Nat.reduceSub, Array.replicate_succ, Array.replicate_zero, List.push_toArray, List.append_toArray, List.nil_append, List.cons_append]
  have hrec : recov (c₀ :: cs) = (.nilIface, c₀ :: cs) := by
    simp [recov, recoverD, hu]
  apply wpS_seq
  refine wpS_region_recover rfl rfl ?_
  rw [hrec]
  have HU := Lib.hid hu
  clear hrec hu
  go_wp2
  simp only [Exit.thenS]
  refine wpS_of_wp (wp_mono (Q := fun x a w' => x = .normal ∧ a.defers = [] ∧ w' = w.alloc (.cells #[.int .i64 0, .int .i64 0] 45)) ?_ ?_)
  · go_wp2
  · rintro e a w' ⟨rfl, hdf, rfl⟩
    exact ⟨hdf, .returning, by have := HU.out; cases c₀; simp_all, .tuple #[], results_none rfl _ _ _, rfl, rfl, rfl⟩

/-- the blocks of Class's results hold what a world's three blocks hold -/
structure HoldC (w w' : World) (u : Value) : Prop where
  h0 : w'.heap[w.heap.size]? = some (.cells #[u] 29 (0, 0))
  h1 : w'.heap[w.heap.size + 1]? = some (.cells #[.int .i64 0] 3 (0, 0))
  h2 : w'.heap[w.heap.size + 1 + 1]? = some (.cells #[.int .i64 0] 3 (0, 0))
  bel : Below w.heap.size w w'
theorem HoldC.below {w a b : World} {u : Value} (h : HoldC w a u) (hs : w.heap.size + 1 + 1 < a.heap.size) (hb : Below a.heap.size a b) : HoldC w b u :=
  ⟨by rw [hb.block _ (by omega)]; exact h.h0, by rw [hb.block _ (by omega)]; exact h.h1, by rw [hb.block _ (by omega)]; exact h.h2, h.bel.trans (hb.mono h.bel.size)⟩

theorem HoldC.grown {w a b : World} {u : Value} {row : Option Nat} (h : HoldC w a u) (hs : w.heap.size + 1 + 1 < a.heap.size) (hg : a.grownBy b row) (hr : ∀ j, row = some j → w.heap.size + 1 + 1 < j) : HoldC w b u :=
  ⟨by rw [hg.block _ (by omega) (fun e => by have := hr _ e.symm; omega)]; exact h.h0, by rw [hg.block _ (by omega) (fun e => by have := hr _ e.symm; omega)]; exact h.h1, by rw [hg.block _ (by omega) (fun e => by have := hr _ e.symm; omega)]; exact h.h2,
    h.bel.grown hg h.bel.size (fun j hj => by have := hr j hj; omega)⟩
theorem HoldC.set {w a : World} {u : Value} (h : HoldC w a u) (v : Value) : HoldC w (a.setCell ⟨w.heap.size, 0, none⟩ v) v :=
  ⟨set1 h.h0 v, by rw [Below.heap_setCell _ _ _ _ (by simp)]; exact h.h1, by rw [Below.heap_setCell _ _ _ _ (by simp; omega)]; exact h.h2, h.bel.setCell (Nat.le_refl _) _⟩
theorem HoldC.ch {w a b : World} {u : Value} {p : Nat} (h : HoldC w a u) (hs : w.heap.size + 1 + 1 < a.heap.size) (hp : w.heap.size + 1 + 1 < p) (hb : Ch a b p) : HoldC w b u :=
  ⟨by rw [hb.block _ (by omega) (by omega)]; exact h.h0, by rw [hb.block _ (by omega) (by omega)]; exact h.h1, by rw [hb.block _ (by omega) (by omega)]; exact h.h2, h.bel.trans ⟨hb.os, hb.tape, hb.output, hb.size, fun k hk => hb.block k (by have := h.bel.size; omega) (by omega)⟩⟩
end Go.Proofs.Ytkngppkchaadhaa
