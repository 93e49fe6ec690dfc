/- word: All's deferred closure; All. -/
import Derived.Test.YtkngppkchaadhaaWordBad
import Derived.Outline
import Derived.RegionTactic
import Derived.ChangeAlike
import Derived.BigRegion
set_option linter.unusedVariables false
set_option linter.unusedSimpArgs false
namespace Go.Proofs.Ytkngppkchaadhaa
open Go.RowKit De Wd

theorem set1 {w : World} {p : Nat} {a : Value} {t : TypeId} (h : w.heap[p]? = some (.cells #[a] t (0, 0))) (x : Value) : (w.setCell ⟨p, 0, none⟩ x).heap[p]? = some (.cells #[x] t (0, 0)) := setc h x

def CatchW (w : World) (p q r : Nat) (a b : Int) (x : Exit) (c : Act) (w' : World) : Prop :=
  x = .normal ∧ c.defers = [] ∧ w'.heap[p]? = some (.cells #[.slice none 0 0] 23 (0, 0)) ∧ w'.heap[q]? = some (.cells #[.int .i64 a] 3 (0, 0)) ∧ w'.heap[r]? = some (.cells #[.int .i64 b] 3 (0, 0)) ∧ ∀ k, k ≤ p → k ≤ q → k ≤ r → k ≤ w.heap.size → Below k w w'

set_option maxHeartbeats 1000000 in
set_option maxRecDepth 1000000 in
theorem wcatch_panic (p q r : Nat) (a b : Int) (v x y : Value) (w : World)
    (hP : w.heap[p]? = some (.cells #[v] 23 (0, 0))) (hQ : w.heap[q]? = some (.cells #[x] 3 (0, 0))) (hR : w.heap[r]? = some (.cells #[y] 3 (0, 0))) (hpq : p ≠ q) (hqr : q ≠ r) (hpr : p ≠ r) :
    CallsD Try.prog 14 #[.pointer (some ⟨p, 0, none⟩), .pointer (some ⟨q, 0, none⟩), .pointer (some ⟨r, 0, none⟩)] (.panicking ({ v := .iface 45 (.agg #[.int .i64 a, .int .i64 b]), recovered := false } :: [])) w fun e u' w' =>
      e = .returned (.tuple #[]) ∧ u' = .panicking ({ v := .iface 45 (.agg #[.int .i64 a, .int .i64 b]), recovered := true } :: []) ∧
      w'.heap[p]? = some (.cells #[.slice none 0 0] 23 (0, 0)) ∧ w'.heap[q]? = some (.cells #[.int .i64 a] 3 (0, 0)) ∧ w'.heap[r]? = some (.cells #[.int .i64 b] 3 (0, 0)) ∧ ∀ k, k ≤ p → k ≤ q → k ≤ r → k ≤ w.heap.size → Below k w w' := by
  have ta : ∀ w, (Instr.typeAssert (.iface 45 (.agg #[.int .i64 a, .int .i64 b])) 20 45 true).run Try.prog w = .ok (.tuple #[.agg #[.int .i64 a, .int .i64 b], .bool true]) w := fun w => by kernel_rfl
  obtain ⟨cP, fP⟩ := cell1_of hP
  obtain ⟨cQ, fQ⟩ := cell1_of hQ
  obtain ⟨cR, fR⟩ := cell1_of hR
  refine callsD_of_wpS Try.func14 rfl fun c₀ cs hu => ?_
  simp only [Try.ntmps14, List.size_toArray, List.length_cons, List.length_nil, Nat.reduceAdd, Nat.reduceSub, Array.replicate_succ, Array.replicate_zero, List.push_toArray, List.append_toArray, List.nil_append, List.cons_append]
  have hrec : recov (c₀ :: cs) = (.iface 45 (.agg #[.int .i64 a, .int .i64 b]), { c₀ with mode := .panicking ({ v := .iface 45 (.agg #[.int .i64 a, .int .i64 b]), recovered := true } :: []) } :: cs) := by
    simp [recov, recoverD, hu]
  apply wpS_seq
  refine wpS_region_recover rfl rfl ?_
  rw [hrec]
  have HU := Lib.hid hu
  clear hrec hu
  have HI := Lib.hid (And.intro hP (And.intro hQ hR))
  have hlt : p < w.heap.size := by rcases Nat.lt_or_ge p w.heap.size with h | h; exact h; simp [h] at hP
  have hlo : q < w.heap.size := by rcases Nat.lt_or_ge q w.heap.size with h | h; exact h; simp [h] at hQ
  have hlf : r < w.heap.size := by rcases Nat.lt_or_ge r w.heap.size with h | h; exact h; simp [h] at hR
  clear hP hQ hR
  go_wp2
  simp only [Exit.thenS]
  refine wpS_of_wp (wp_mono (Q := CatchW w p q r a b) ?_ ?_)
  · go_wp2
    go_region
    obtain ⟨hP, hQ, hR⟩ := HI.out
    refine ⟨rfl, rfl, ?_, ?_, ?_, ?_⟩
    · rw [drew_heap, Below.heap_alloc _ _ _ (by simp [World.setCell]; omega), Below.heap_setCell _ _ _ _ (by simpa using hpr), Below.heap_setCell _ _ _ _ (by simpa using hpq)]
      exact set1 hP _
    · rw [drew_heap, Below.heap_alloc _ _ _ (by simp [World.setCell]; omega), Below.heap_setCell _ _ _ _ (by simpa using hqr)]
      refine set1 (a := x) ?_ _
      rw [Below.heap_setCell _ _ _ _ (by simpa using fun e => hpq e.symm)]
      exact hQ
    · rw [drew_heap, Below.heap_alloc _ _ _ (by simp [World.setCell]; omega)]
      refine set1 (a := y) ?_ _
      rw [Below.heap_setCell _ _ _ _ (by simpa using fun e => hqr e.symm), Below.heap_setCell _ _ _ _ (by simpa using fun e => hpr e.symm)]
      exact hR
    · intro k h1 h2 h3 h4
      exact (((((Below.refl k w).setCell h1 _).setCell h2 _).setCell h3 _).alloc (by simp [World.setCell]; exact h4) _).drew
  · rintro e a w' ⟨rfl, hdf, h1, h2, h3, h4⟩
    refine ⟨hdf, _, rfl, .tuple #[], ?_, rfl, rfl, h1, h2, h3, h4⟩
    exact results_none rfl _ _ _
set_option maxHeartbeats 1000000 in
set_option maxRecDepth 1000000 in
theorem wcatch_idle (p q r : Nat) (w : World) :
    CallsD Try.prog 14 #[.pointer (some ⟨p, 0, none⟩), .pointer (some ⟨q, 0, none⟩), .pointer (some ⟨r, 0, none⟩)] .returning w fun e u' w' =>
      e = .returned (.tuple #[]) ∧ u' = .returning ∧ w' = w.alloc (.cells #[.int .i64 0, .int .i64 0] 45) := by
  have ta : ∀ w, (Instr.typeAssert .nilIface 20 45 true).run Try.prog w = .ok (.tuple #[.agg #[.int .i64 0, .int .i64 0], .bool false]) w := fun w => by kernel_rfl
  refine callsD_of_wpS Try.func14 rfl fun c₀ cs hu => ?_
  simp only [Try.ntmps14, List.size_toArray, List.length_cons, List.length_nil, Nat.reduceAdd, Nat.reduceSub, Array.replicate_succ, Array.replicate_zero, List.push_toArray, List.append_toArray, List.nil_append, List.cons_append]
  have hrec : recov (c₀ :: cs) = (.nilIface, c₀ :: cs) := by
    simp [recov, recoverD, hu]
  apply wpS_seq
  refine wpS_region_recover rfl rfl ?_
  rw [hrec]
  have HU := Lib.hid hu
  clear hrec hu
  go_wp2
  simp only [Exit.thenS]
  refine wpS_of_wp (wp_mono (Q := fun x a w' => x = .normal ∧ a.defers = [] ∧ w' = w.alloc (.cells #[.int .i64 0, .int .i64 0] 45)) ?_ ?_)
  · go_wp2
  · rintro e a w' ⟨rfl, hdf, rfl⟩
    exact ⟨hdf, .returning, by have := HU.out; cases c₀; simp_all, .tuple #[], results_none rfl _ _ _, rfl, rfl, rfl⟩

/-- words as cells -/
def wcs (s : ByteArray) (W : List (Nat × Wt)) : List Value := W.flatMap fun p => wval s p.1 p.2
theorem wcs_append (s : ByteArray) (A B : List (Nat × Wt)) : wcs s (A ++ B) = wcs s A ++ wcs s B := by simp [wcs]
theorem wcs_len (s : ByteArray) (L : List (Nat × Wt)) : (wcs s L).length = L.length * 3 := by
  induction L with
  | nil => rfl
  | cons p L ih => simp only [wcs, List.flatMap_cons, List.length_append, List.length_cons] at ih ⊢; rw [ih]; simp [wval]; omega
def AllPost (s : ByteArray) (w : World) (e : Ending) (w' : World) : Prop :=
  match rs (sb s) with
  | .bad c a => e = .returned (.tuple #[.slice none 0 0, .int .i64 c, .int .i64 a]) ∧ Below w.heap.size w w'
  | .ok W => ∃ u, e = .returned (.tuple #[u, .int .i64 0, .int .i64 0]) ∧ w'.ownsRow w.heap.size 36 3 u W.length (wcs s W) ∧ Below w.heap.size w w'
theorem all_bad {s : ByteArray} {w w' : World} {e : Ending} {c : Int} {a : Nat} (h : rs (sb s) = .bad c a) (he : e = .returned (.tuple #[.slice none 0 0, .int .i64 c, .int .i64 a])) (hb : Below w.heap.size w w') : AllPost s w e w' := by
  unfold AllPost; rw [h]; exact ⟨he, hb⟩
theorem infoWord : ∃ i, Try.prog.info? 36 = some i ∧ i.zero = some (.agg #[.int .i64 0, .string ⟨#[]⟩, .int .i64 0]) ∧ i.size = 3 ∧ i.bytes = 32 := info_parts (by kernel_rfl)
theorem three (w : World) (o0 o1 o2 : Obj) (W : World) (h : W = (((w.alloc o0).alloc o1).alloc o2)) :
    W.heap[w.heap.size]? = some o0 ∧ W.heap[w.heap.size + 1]? = some o1 ∧ W.heap[w.heap.size + 1 + 1]? = some o2 ∧ W.heap.size = w.heap.size + 1 + 1 + 1 ∧ Below w.heap.size w W := by
  subst h
  refine ⟨?_, ?_, ?_, by simp, ((((Below.refl _ _).alloc (Nat.le_refl _) _).alloc (by simp) _).alloc (by simp; omega) _)⟩
  · rw [Below.heap_alloc _ _ _ (by simp <;> omega), Below.heap_alloc _ _ _ (by simp)]
    exact heap_alloc_new w _
  · rw [Below.heap_alloc _ _ _ (by simp)]
    have := heap_alloc_new (w.alloc o0) o1
    simpa using this
  · have := heap_alloc_new ((w.alloc o0).alloc o1) o2
    simpa using this
/-- the blocks of All's results hold what a world's three blocks hold -/
structure Hold3 (w w' : World) (u : Value) : Prop where
  h0 : w'.heap[w.heap.size]? = some (.cells #[u] 23 (0, 0))
  h1 : w'.heap[w.heap.size + 1]? = some (.cells #[.int .i64 0] 3 (0, 0))
  h2 : w'.heap[w.heap.size + 1 + 1]? = some (.cells #[.int .i64 0] 3 (0, 0))
  bel : Below w.heap.size w w'
theorem Hold3.below {w a b : World} {u : Value} (h : Hold3 w a u) (hs : w.heap.size + 1 + 1 < a.heap.size) (hb : Below a.heap.size a b) : Hold3 w b u :=
  ⟨by rw [hb.block _ (by omega)]; exact h.h0, by rw [hb.block _ (by omega)]; exact h.h1, by rw [hb.block _ (by omega)]; exact h.h2, h.bel.trans (hb.mono h.bel.size)⟩

set_option maxHeartbeats 4000000 in
set_option maxRecDepth 1000000 in
theorem all_long (s : ByteArray) (w : World) (hs : s.size ≤ 100000) (hl : 4000 < s.size) : Calls Try.prog 8 #[.string s] w (AllPost s w) := by
  have hmf : ∀ (fn : Fn) (first cap : Array Value) (w : World), (Instr.makeFunc fn first cap).run Try.prog w = .ok (.func fn first cap) w := fun _ _ _ _ => rfl
  have hr : rs (sb s) = .bad 6 0 := by unfold rs; rw [if_pos (by rw [sb_len]; exact hl)]
  have HR := Lib.hid hr
  obtain ⟨W3, hW3⟩ : ∃ W3, W3 = (((w.alloc (.cells #[.slice none 0 0] 23)).alloc (.cells #[.int .i64 0] 3)).alloc (.cells #[.int .i64 0] 3)) := ⟨_, rfl⟩
  obtain ⟨g0, g1, g2, g3, g4⟩ := three w _ _ _ W3 hW3
  have HG := Lib.hid (And.intro hW3 (And.intro g0 (And.intro g1 (And.intro g2 (And.intro g3 g4)))))
  clear hr hW3 g0 g1 g2 g3 g4
  go_enter_defers Try.func8, Try.ntmps8
  go_wp2
  obtain ⟨hW3, g0, g1, g2, g3, g4⟩ := HG.out
  rw [← hW3]
  refine leaves_cons (f := 14) (args := #[.pointer (some ⟨w.heap.size, 0, none⟩), .pointer (some ⟨w.heap.size + 1, 0, none⟩), .pointer (some ⟨w.heap.size + 1 + 1, 0, none⟩)]) (by simp) (by simp [go_sem]) ?_
  refine (wcatch_panic _ _ _ 6 0 _ _ _ W3 g0 g1 g2 (by omega) (by omega) (by omega)).mono ?_
  rintro e u' w7 ⟨rfl, rfl, K0, K1, K2, hbel7⟩
  have HB7 : Below w.heap.size w w7 := g4.trans (hbel7 _ (Nat.le_refl _) (by omega) (by omega) (by omega))
  obtain ⟨c0, z0⟩ := cell1_of K0
  obtain ⟨c1, z1⟩ := cell1_of K1
  obtain ⟨c2, z2⟩ := cell1_of K2
  simp [Leaves, settle, results, Try.results8, go_sem, c0, c1, c2]
  exact all_bad HR.out rfl HB7
end Go.Proofs.Ytkngppkchaadhaa
