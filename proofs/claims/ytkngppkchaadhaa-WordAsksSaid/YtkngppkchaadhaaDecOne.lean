/- decode: one's deferred closure. -/
import Derived.Test.YtkngppkchaadhaaDecSeq
import Derived.Test.YtkngppkchaadhaaRecov
import Derived.Outline
import Derived.Deep.Cut
set_option linter.unusedVariables false
set_option linter.unusedSimpArgs false
namespace Go.Proofs.Ytkngppkchaadhaa
open Go.RowKit De

theorem cell5_of {w : World} {p : Nat} {a b c d e : Value} {t : TypeId} (h : w.heap[p]? = some (.cells #[a, b, c, d, e] t (0, 0))) :
    (w.cell? ⟨p, 0, none⟩ = some a ∧ w.cell? ⟨p, 1, none⟩ = some b ∧ w.cell? ⟨p, 2, none⟩ = some c ∧ w.cell? ⟨p, 3, none⟩ = some d ∧ w.cell? ⟨p, 4, none⟩ = some e) ∧
    (w.frozen? ⟨p, 0, none⟩ = false ∧ w.frozen? ⟨p, 1, none⟩ = false ∧ w.frozen? ⟨p, 2, none⟩ = false ∧ w.frozen? ⟨p, 3, none⟩ = false ∧ w.frozen? ⟨p, 4, none⟩ = false) := by
  simp [World.cell?, World.frozen?, h]

theorem set5 {w : World} {p : Nat} {a b c d e : Value} {t : TypeId} (h : w.heap[p]? = some (.cells #[a, b, c, d, e] t (0, 0))) (a' b' c' d' e' : Value) :
    (((((w.setCell ⟨p, 0, none⟩ a').setCell ⟨p, 1, none⟩ b').setCell ⟨p, 2, none⟩ c').setCell ⟨p, 3, none⟩ d').setCell ⟨p, 4, none⟩ e').heap[p]? = some (.cells #[a', b', c', d', e'] t (0, 0)) := by
  simp [World.setCell, Array.getElem?_modify, h]

def CatchPost (w : World) (qi qo : Nat) (f : Int) (g : Nat) (short : Bool) (x : Exit) (a : Act) (w' : World) : Prop :=
  x = .normal ∧ a.defers = [] ∧ w'.heap[qi]? = some (.cells #[.int .i32 65533, .int .i64 f, .int .i64 (f + max (g : Int) 1), .bool true, .bool (decide (0 < (g : Int)))] 54 (0, 0)) ∧
      w'.heap[qo]? = some (.cells #[.bool short] 4 (0, 0)) ∧ ∀ b, b ≤ qi → b ≤ qo → b ≤ w.heap.size → Below b w w'

set_option maxHeartbeats 1000000 in
set_option maxRecDepth 1000000 in
theorem catch_panic (qf qg qi qo : Nat) (f : Int) (g : Nat) (short : Bool) (w : World)
    (hF : w.heap[qf]? = some (.cells #[.int .i64 f] 3 (0, 0))) (hG : w.heap[qg]? = some (.cells #[.int .i64 g] 3 (0, 0)))
    (hI : w.heap[qi]? = some (.cells #[.int .i32 0, .int .i64 0, .int .i64 0, .bool false, .bool false] 54 (0, 0))) (hO : w.heap[qo]? = some (.cells #[.bool false] 4 (0, 0)))
    (hf : 0 ≤ f ∧ f ≤ 1000000000) (hg : g ≤ 4) (hd : qi ≠ qo) :
    CallsD Try.prog 58 #[.pointer (some ⟨qf, 0, none⟩), .pointer (some ⟨qg, 0, none⟩), .pointer (some ⟨qi, 0, none⟩), .pointer (some ⟨qo, 0, none⟩)] (.panicking ({ v := .iface 87 (.agg #[.bool short]), recovered := false } :: [])) w fun e u' w' =>
      e = .returned (.tuple #[]) ∧ u' = .panicking ({ v := .iface 87 (.agg #[.bool short]), recovered := true } :: []) ∧
      w'.heap[qi]? = some (.cells #[.int .i32 65533, .int .i64 f, .int .i64 (f + max (g : Int) 1), .bool true, .bool (decide (0 < (g : Int)))] 54 (0, 0)) ∧
      w'.heap[qo]? = some (.cells #[.bool short] 4 (0, 0)) ∧ ∀ b, b ≤ qi → b ≤ qo → b ≤ w.heap.size → Below b w w' := by
  have ta : ∀ w, (Instr.typeAssert (.iface 87 (.agg #[.bool short])) 20 87 true).run Try.prog w = .ok (.tuple #[.agg #[.bool short], .bool true]) w := fun w => by cases short <;> kernel_rfl
  obtain ⟨cF, fF⟩ := cell1_of hF
  obtain ⟨cG, fG⟩ := cell1_of hG
  obtain ⟨cO, fO⟩ := cell1_of hO
  refine callsD_of_wpS Try.func58 rfl fun c₀ cs hu => ?_
  simp only [Try.ntmps58, List.size_toArray, List.length_cons, List.length_nil, Nat.reduceAdd, Nat.reduceSub, Array.replicate_succ, Array.replicate_zero, List.push_toArray, List.append_toArray, List.nil_append, List.cons_append]
  have hrec : recov (c₀ :: cs) = (.iface 87 (.agg #[.bool short]), { c₀ with mode := .panicking ({ v := .iface 87 (.agg #[.bool short]), recovered := true } :: []) } :: cs) := by
    simp [recov, recoverD, hu]
  apply wpS_seq
  refine wpS_region_recover rfl rfl ?_
  rw [hrec]
  have HU := Lib.hid hu
  clear hrec hu
  obtain ⟨⟨i0, i1, i2, i3, i4⟩, j0, j1, j2, j3, j4⟩ := cell5_of hI
  have HI := Lib.hid (And.intro hI hO)
  have hlt : qi < w.heap.size := by rcases Nat.lt_or_ge qi w.heap.size with h | h; exact h; simp [h] at hI
  have hlo : qo < w.heap.size := by rcases Nat.lt_or_ge qo w.heap.size with h | h; exact h; simp [h] at hO
  have hlf : qf < w.heap.size := by rcases Nat.lt_or_ge qf w.heap.size with h | h; exact h; simp [h] at hF
  have hlg : qg < w.heap.size := by rcases Nat.lt_or_ge qg w.heap.size with h | h; exact h; simp [h] at hG
  clear hF hG hI hO
  go_wp2
  simp only [Exit.thenS]
  refine wpS_of_wp (wp_mono (Q := CatchPost w qi qo f g short) ?_ ?_)
  · go_wp2
    all_goals (
      obtain ⟨hI, hO⟩ := HI.out
      refine ⟨rfl, rfl, ?_, ?_, ?_⟩
      · rw [Below.heap_alloc _ _ _ (by simp [World.setCell]; omega), Below.heap_setCell _ _ _ _ (by simpa using hd), set5 hI]
        have e1 : (decide (0 < g)) = decide (0 < (g : Int)) := by simp
        have e2 : f + max (g : Int) 1 = f + (g : Int) ∨ f + max (g : Int) 1 = f + 1 := by omega
        rw [e1]
        first
          | (have : f + max (g : Int) 1 = f + (g : Int) := by omega
             rw [this])
          | (have : f + max (g : Int) 1 = f + 1 := by omega
             rw [this])
      · rw [Below.heap_alloc _ _ _ (by simp [World.setCell]; omega)]
        refine setc (a := .bool false) ?_ _
        rw [Below.heap_setCell _ _ _ _ (by simpa using fun e => hd e.symm), Below.heap_setCell _ _ _ _ (by simpa using fun e => hd e.symm), Below.heap_setCell _ _ _ _ (by simpa using fun e => hd e.symm), Below.heap_setCell _ _ _ _ (by simpa using fun e => hd e.symm), Below.heap_setCell _ _ _ _ (by simpa using fun e => hd e.symm)]
        exact hO
      · intro b h1 h2 h3
        exact ((((((((Below.refl b w).setCell h1 _).setCell h1 _).setCell h1 _).setCell h1 _).setCell h1 _).setCell h2 _).alloc (by simp [World.setCell]; exact h3) _))
  · rintro e a w' ⟨rfl, hdf, h1, h2, h3⟩
    refine ⟨hdf, _, rfl, .tuple #[], ?_, rfl, rfl, by simpa using h1, h2, h3⟩
    exact results_none rfl _ _ _

set_option maxHeartbeats 1000000 in
set_option maxRecDepth 1000000 in
theorem catch_idle (qf qg qi qo : Nat) (w : World) :
    CallsD Try.prog 58 #[.pointer (some ⟨qf, 0, none⟩), .pointer (some ⟨qg, 0, none⟩), .pointer (some ⟨qi, 0, none⟩), .pointer (some ⟨qo, 0, none⟩)] .returning w fun e u' w' =>
      e = .returned (.tuple #[]) ∧ u' = .returning ∧ w' = w.alloc (.cells #[.bool false] 87) := by
  have ta : ∀ w, (Instr.typeAssert .nilIface 20 87 true).run Try.prog w = .ok (.tuple #[.agg #[.bool false], .bool false]) w := fun w => by kernel_rfl
  refine callsD_of_wpS Try.func58 rfl fun c₀ cs hu => ?_
  simp only [Try.ntmps58, List.size_toArray, List.length_cons, List.length_nil, Nat.reduceAdd, Nat.reduceSub, Array.replicate_succ, Array.replicate_zero, List.push_toArray, List.append_toArray, List.nil_append, List.cons_append]
  have hrec : recov (c₀ :: cs) = (.nilIface, c₀ :: cs) := by
    simp [recov, recoverD, hu]
  apply wpS_seq
  refine wpS_region_recover rfl rfl ?_
  rw [hrec]
  have HU := Lib.hid hu
  clear hrec hu
  go_wp2
  simp only [Exit.thenS]
  refine wpS_of_wp (wp_mono (Q := fun x a w' => x = .normal ∧ a.defers = [] ∧ w' = w.alloc (.cells #[.bool false] 87)) ?_ ?_)
  · go_wp2
  · rintro e a w' ⟨rfl, hdf, rfl⟩
    exact ⟨hdf, .returning, by have := HU.out; cases c₀; simp_all, .tuple #[], results_none rfl _ _ _, rfl, rfl, rfl⟩
end Go.Proofs.Ytkngppkchaadhaa
