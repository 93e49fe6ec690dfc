/- gram: the checker's need; Check's deferred closure. -/
import Derived.Test.YtkmnigoikkffnaaGram
import Derived.Test.YtkmnigoikkffnaaGName
import Derived.Test.YtkmnigoikkffnaaRecov
import Derived.Test.YtkmnigoikkffnaaPtShaped
import Derived.Outline
import Derived.RegionTactic
import Derived.ChangeAlike
import Derived.BigRegion
set_option linter.unusedVariables false
set_option linter.unusedSimpArgs false
namespace Go.Proofs.Ytkmnigoikkffnaa
open Go.RowKit Ru

/-- the panic of an error -/
abbrev gflt (code at_ : Int) : Ending := .panicked [{ v := .iface 62 (.agg #[.int .i64 code, .int .i64 at_]), recovered := false }]
abbrev needF (q : Nat) : Value := .func (Fn.func 29) #[] #[.pointer (some ⟨q, 0, none⟩)]
set_option maxHeartbeats 1000000 in
theorem need_ok (q : Nat) (code : Int) (w : World) :
    Calls Try.prog 29 #[.bool true, .int .i64 code, .pointer (some ⟨q, 0, none⟩)] w fun e w' => e = .returned (.tuple #[]) ∧ w = w' := by
  go_enter Try.func29, Try.ntmps29
  go_wp2_with fail
  refine bodyPost_end (results_none rfl _ _ _) rfl ?_
  exact ⟨rfl, rfl⟩
set_option maxHeartbeats 1000000 in
theorem need_no (q : Nat) (code a : Int) (w : World) (hq : w.heap[q]? = some (.cells #[.int .i64 a] 3 (0, 0))) :
    Calls Try.prog 29 #[.bool false, .int .i64 code, .pointer (some ⟨q, 0, none⟩)] w fun e w' => e = gflt code a ∧ w = w' := by
  obtain ⟨c1, z1⟩ := cell1_of hq
  clear hq
  go_enter Try.func29, Try.ntmps29
  go_wp2
  exact ⟨rfl, rfl, rfl⟩
/-- both at once -/
theorem need_any (q : Nat) (ok : Bool) (code a : Int) (w : World) (hq : w.heap[q]? = some (.cells #[.int .i64 a] 3 (0, 0))) :
    Calls Try.prog 29 #[.bool ok, .int .i64 code, .pointer (some ⟨q, 0, none⟩)] w fun e w' => ((ok = true ∧ e = .returned (.tuple #[])) ∨ (ok = false ∧ e = gflt code a)) ∧ w = w' := by
  cases ok with
  | true => exact (need_ok q code w).mono (fun e w' h => ⟨.inl ⟨rfl, h.1⟩, h.2⟩)
  | false => exact (need_no q code a w hq).mono (fun e w' h => ⟨.inr ⟨rfl, h.1⟩, h.2⟩)

def GCatch (w : World) (q r : Nat) (a b : Int) (x : Exit) (c : Act) (w' : World) : Prop :=
  x = .normal ∧ c.defers = [] ∧ w'.heap[q]? = some (.cells #[.int .i64 a] 3 (0, 0)) ∧ w'.heap[r]? = some (.cells #[.int .i64 b] 3 (0, 0)) ∧ ∀ k, k ≤ q → k ≤ r → k ≤ w.heap.size → Below k w w'
set_option maxHeartbeats 1000000 in
set_option maxRecDepth 1000000 in
theorem gcatch_panic (q r : Nat) (a b : Int) (x y : Value) (w : World)
    (hQ : w.heap[q]? = some (.cells #[x] 3 (0, 0))) (hR : w.heap[r]? = some (.cells #[y] 3 (0, 0))) (hqr : q ≠ r) :
    CallsD Try.prog 28 #[.pointer (some ⟨q, 0, none⟩), .pointer (some ⟨r, 0, none⟩)] (.panicking ({ v := .iface 62 (.agg #[.int .i64 a, .int .i64 b]), recovered := false } :: [])) w fun e u' w' =>
      e = .returned (.tuple #[]) ∧ u' = .panicking ({ v := .iface 62 (.agg #[.int .i64 a, .int .i64 b]), recovered := true } :: []) ∧
      w'.heap[q]? = some (.cells #[.int .i64 a] 3 (0, 0)) ∧ w'.heap[r]? = some (.cells #[.int .i64 b] 3 (0, 0)) ∧ ∀ k, k ≤ q → k ≤ r → k ≤ w.heap.size → Below k w w' := by
  have ta : ∀ w, (Instr.typeAssert (.iface 62 (.agg #[.int .i64 a, .int .i64 b])) 20 62 true).run Try.prog w = .ok (.tuple #[.agg #[.int .i64 a, .int .i64 b], .bool true]) w := fun w => by kernel_rfl
  obtain ⟨cQ, fQ⟩ := cell1_of hQ
  obtain ⟨cR, fR⟩ := cell1_of hR
  refine callsD_of_wpS Try.func28 rfl fun c₀ cs hu => ?_
  simp only [Try.ntmps28, List.size_toArray, List.length_cons, List.length_nil, Nat.reduceAdd, Nat.reduceSub, Array.replicate_succ, Array.replicate_zero, List.push_toArray, List.append_toArray, List.nil_append, List.cons_append]
  have hrec : recov (c₀ :: cs) = (.iface 62 (.agg #[.int .i64 a, .int .i64 b]), { c₀ with mode := .panicking ({ v := .iface 62 (.agg #[.int .i64 a, .int .i64 b]), recovered := true } :: []) } :: cs) := by
    simp [recov, recoverD, hu]
  apply wpS_seq
  refine wpS_region_recover rfl rfl ?_
  rw [hrec]
  have HU := Lib.hid hu
  clear hrec hu
  have HI := Lib.hid (And.intro hQ hR)
  have hlo : q < w.heap.size := hp_lt hQ
  have hlf : r < w.heap.size := hp_lt hR
  clear hQ hR
  go_wp2
  simp only [Exit.thenS]
  refine wpS_of_wp (wp_mono (Q := GCatch w q r a b) ?_ ?_)
  · go_wp2
    go_region
    obtain ⟨hQ, hR⟩ := HI.out
    refine ⟨rfl, rfl, ?_, ?_, ?_⟩
    · rw [drew_heap, Below.heap_alloc _ _ _ (by simp [World.setCell]; omega), Below.heap_setCell _ _ _ _ (by simpa using hqr)]
      exact cell1_set hQ _
    · rw [drew_heap, Below.heap_alloc _ _ _ (by simp [World.setCell]; omega)]
      refine cell1_set (a := y) ?_ _
      rw [Below.heap_setCell _ _ _ _ (by simpa using fun e => hqr e.symm)]
      exact hR
    · intro k h2 h3 h4
      exact ((((Below.refl k w).setCell h2 _).setCell h3 _).alloc (by simp [World.setCell]; exact h4) _).drew
  · rintro e a w' ⟨rfl, hdf, h2, h3, h4⟩
    refine ⟨hdf, _, rfl, .tuple #[], ?_, rfl, rfl, h2, h3, h4⟩
    exact results_none rfl _ _ _
set_option maxHeartbeats 1000000 in
set_option maxRecDepth 1000000 in
theorem gcatch_idle (q r : Nat) (w : World) :
    CallsD Try.prog 28 #[.pointer (some ⟨q, 0, none⟩), .pointer (some ⟨r, 0, none⟩)] .returning w fun e u' w' =>
      e = .returned (.tuple #[]) ∧ u' = .returning ∧ w' = w.alloc (.cells #[.int .i64 0, .int .i64 0] 62) := by
  have ta : ∀ w, (Instr.typeAssert .nilIface 20 62 true).run Try.prog w = .ok (.tuple #[.agg #[.int .i64 0, .int .i64 0], .bool false]) w := fun w => by kernel_rfl
  refine callsD_of_wpS Try.func28 rfl fun c₀ cs hu => ?_
  simp only [Try.ntmps28, List.size_toArray, List.length_cons, List.length_nil, Nat.reduceAdd, Nat.reduceSub, Array.replicate_succ, Array.replicate_zero, List.push_toArray, List.append_toArray, List.nil_append, List.cons_append]
  have hrec : recov (c₀ :: cs) = (.nilIface, c₀ :: cs) := by
    simp [recov, recoverD, hu]
  apply wpS_seq
  refine wpS_region_recover rfl rfl ?_
  rw [hrec]
  have HU := Lib.hid hu
  clear hrec hu
  go_wp2
  simp only [Exit.thenS]
  refine wpS_of_wp (wp_mono (Q := fun x a w' => x = .normal ∧ a.defers = [] ∧ w' = w.alloc (.cells #[.int .i64 0, .int .i64 0] 62)) ?_ ?_)
  · go_wp2
  · rintro e a w' ⟨rfl, hdf, rfl⟩
    exact ⟨hdf, .returning, by have := HU.out; cases c₀; simp_all, .tuple #[], results_none rfl _ _ _, rfl, rfl, rfl⟩
end Go.Proofs.Ytkmnigoikkffnaa
