/- forest: matcher and its closure. -/
import Derived.Test.YtjeploipaejepaaLineIndex
import Derived.Test.YtjeploipaejepaaForestMath
import Derived.WalkSmall
import Derived.Lib.SmallJoins
set_option linter.unusedVariables false
set_option linter.unusedSimpArgs false
namespace Go.Proofs.Ytjeploipaejepaa
open Go.RowKit Fo

/-- the blocks below b are as they were, but for two -/
structure But (w w' : World) (b qa qo : Nat) : Prop where
  os : w'.os = w.os
  tape : w'.tape = w.tape
  output : w'.output = w.output
  size : w.heap.size ≤ w'.heap.size
  block : ∀ k, k < b → k ≠ qa → k ≠ qo → w'.heap[k]? = w.heap[k]?
theorem But.trans {a b c : World} {m qa qo : Nat} (h : But a b m qa qo) (k : But b c m qa qo) : But a c m qa qo :=
  ⟨k.os.trans h.os, k.tape.trans h.tape, k.output.trans h.output, Nat.le_trans h.size k.size, fun i hi h1 h2 => (k.block i hi h1 h2).trans (h.block i hi h1 h2)⟩
theorem But.of {w w' : World} {b qa qo : Nat} (h : Below b w w') : But w w' b qa qo := ⟨h.os, h.tape, h.output, h.size, fun k hk _ _ => h.block k hk⟩
theorem drew_heap (w : World) : w.drew.heap = w.heap := rfl
theorem But.drew {w w' : World} {b qa qo : Nat} (h : But w w' b qa qo) : But w w'.drew b qa qo := ⟨h.os, h.tape, h.output, h.size, h.block⟩
theorem But.setA {w w' : World} {b qa qo i : Nat} (h : But w w' b qa qo) (x : Value) : But w (w'.setCell ⟨qa, i, none⟩ x) b qa qo :=
  ⟨h.os, h.tape, h.output, by have := h.size; simpa [World.setCell] using this, fun k hk h1 h2 => by rw [Below.heap_setCell w' _ x k h1]; exact h.block k hk h1 h2⟩
theorem But.setO {w w' : World} {b qa qo i : Nat} (h : But w w' b qa qo) (x : Value) : But w (w'.setCell ⟨qo, i, none⟩ x) b qa qo :=
  ⟨h.os, h.tape, h.output, by have := h.size; simpa [World.setCell] using this, fun k hk h1 h2 => by rw [Below.heap_setCell w' _ x k h2]; exact h.block k hk h1 h2⟩
theorem But.alloc {w w' : World} {b qa qo : Nat} (h : But w w' b qa qo) (hb : b ≤ w'.heap.size) (o : Obj) : But w (w'.alloc o) b qa qo :=
  ⟨h.os, h.tape, h.output, by have := h.size; simp; omega, fun k hk h1 h2 => by rw [Below.heap_alloc w' o k (by omega)]; exact h.block k hk h1 h2⟩
theorem But.grown {w w' w2 : World} {b qa qo : Nat} {row : Option Nat} (h : But w w' b qa qo) (hg : w'.grownBy w2 row) (hb : b ≤ w'.heap.size) (hr : ∀ k, row = some k → b ≤ k) : But w w2 b qa qo :=
  ⟨hg.os.trans h.os, hg.tape.trans h.tape, hg.output.trans h.output, Nat.le_trans h.size hg.size, fun k hk h1 h2 => (hg.block k (by omega) (fun e => by have := hr k e.symm; omega)).trans (h.block k hk h1 h2)⟩

/-- blocks qa and qo are those of a matcher that has taken k symbols: st is the open Calls, the last one first -/
def Mat (w : World) (b qa qo k : Nat) (st : List Nat) : Prop :=
  qa < b ∧ qo < b ∧ qa ≠ qo ∧ b ≤ w.heap.size ∧ w.heap[qa]? = some (.cells #[.int .i64 ((k : Int) - 1)] 3 (0, 0)) ∧
    ∃ v, w.heap[qo]? = some (.cells #[v] 23 (0, 0)) ∧ w.ownsRow b 3 1 v st.length (st.reverse.map fun n : Nat => Value.int .i64 (n : Int))

/-- what a matcher tells of a symbol, and what is open behind it -/
def nextS (kind : Int) (k : Nat) (st : List Nat) : Int × List Nat :=
  if kind = 1 then (-1, k :: st) else if kind = 2 then (match st with | [] => (-1, []) | c :: r => ((c : Int), r)) else (-1, st)

theorem cell1_of {w : World} {p : Nat} {a : Value} {t : TypeId} (h : w.heap[p]? = some (.cells #[a] t (0, 0))) : w.cell? ⟨p, 0, none⟩ = some a ∧ w.frozen? ⟨p, 0, none⟩ = false := by
  simp [World.cell?, World.frozen?, h]
theorem setc {w : World} {p : Nat} {a : Value} {t : TypeId} (h : w.heap[p]? = some (.cells #[a] t (0, 0))) (x : Value) : (w.setCell ⟨p, 0, none⟩ x).heap[p]? = some (.cells #[x] t (0, 0)) := by
  simp [World.setCell, Array.getElem?_modify, h]

theorem matcher_any (w : World) : Calls Try.prog 44 #[] w fun e w' =>
    e = .returned (.func (Fn.func 52) #[] #[.pointer (some ⟨w.heap.size + 1, 0, none⟩), .pointer (some ⟨w.heap.size, 0, none⟩)]) ∧
      (∀ b, w.heap.size + 2 ≤ b → ∀ w2, Below w'.heap.size w' w2 → b ≤ w2.heap.size → Mat w2 b (w.heap.size + 1) w.heap.size 0 []) ∧ w'.heap.size = w.heap.size + 2 ∧ Below w.heap.size w w' := by
  go_enter Try.func44, Try.ntmps44
  go_wp2
  go_ret
  refine ⟨rfl, ?_, by simp, by repeat (first | exact Below.refl _ _ | assumption | (refine Below.drew ?_) | (refine below_drewN ?_ _) | (refine bel_new ?_ _) | (refine bel_then ?_ (by assumption)))⟩
  intro b hb w2 hw2 hb2
  refine ⟨by omega, by omega, by omega, hb2, ?_, .slice none 0 0, ?_, World.ownsRow_nil _ _ _ _⟩
  · rw [hw2.block _ (by simp)]
    have := heap_alloc_new (w.alloc (Obj.cells #[Value.slice none 0 0] 23)) (Obj.cells #[Value.int .i64 (-1)] 3)
    simpa using this
  · rw [hw2.block _ (by simp; omega), Below.heap_alloc _ _ _ (by simp)]
    exact heap_alloc_new w _

set_option maxHeartbeats 1000000 in
set_option maxRecDepth 1000000 in
theorem next_any (b qa qo k : Nat) (st : List Nat) (tok kind : Int) (w : World) (hM : Mat w b qa qo k st) (hk : k ≤ 1000000) (hl : st.length ≤ 1000000) :
    Calls Try.prog 52 #[.agg #[.int .i64 tok, .int .i64 kind], .pointer (some ⟨qa, 0, none⟩), .pointer (some ⟨qo, 0, none⟩)] w fun e w' =>
      e = .returned (.tuple #[.int .i64 (nextS kind k st).1, .int .i64 (nextS kind k st).2.length]) ∧ Mat w' b qa qo (k + 1) (nextS kind k st).2 ∧ But w w' b qa qo := by
  obtain ⟨i0, hi, hz0, hz1, hz2⟩ := infoInt
  obtain ⟨ha, ho, hne, hb, hA, v, hO, hown⟩ := hM
  have hne' : ¬ qo = qa := fun e => hne e.symm
  obtain ⟨cA, fA⟩ := cell1_of hA
  obtain ⟨cO, fO⟩ := cell1_of hO
  obtain ⟨ov, cv, rfl⟩ := owns_slice hown
  have hqa : qa < w.heap.size := by omega
  have hqo : qo < w.heap.size := by omega
  by_cases h1 : kind = 1
  · subst h1
    go_enter Try.func52, Try.ntmps52
    go_wp2_with (first
      | (at_builtin; refine wpList_append_own _ rfl _ _ 23 rfl b 3 i0 (.int .i64 0) 1 8 Try.underlying23 hi hz0 hz1 hz2 rfl (by decide) _ st.length (st.reverse.map fun n : Nat => Value.int .i64 (n : Int)) rfl ?c0 ⟨w.heap.size + 1, 0, none⟩ 1 1 [.int .i64 (k : Int)] rfl rfl ?c1 ?c2 ?c3 ?c4 ?c5 ?_)
      | go_in)
    case c0 => exact ((ownsRow_setCell_below hown (by simpa using ha) _).alloc _).alloc _
    case c1 =>
      intro j u hj
      match j, hj with
      | 0, hj => simp at hj; subst hj; exact Joins.cell_alloc_mark_at _ #[.int .i64 (k : Int)] 3 (0, 0) _ 0 (by simp)
    case c2 => intro u hu; simp at hu; subst hu; rfl
    case c3 => unfold maxLen; omega
    case c4 => omega
    case c5 => simp; omega
    intro v' w' hown' hgrow _
    obtain ⟨o2, c2, rfl⟩ := owns_slice hown'
    have hrow : ∀ j, (Value.slice ov st.length cv).ownBlock = some j → b ≤ j := fun j hj => (hown.lt j hj).1
    have gA : w'.heap[qa]? = some (.cells #[.int .i64 (k : Int)] 3 (0, 0)) := by
      rw [hgrow.block qa (by simp; omega) (fun e => by have := hrow qa e.symm; omega), Below.heap_alloc _ _ _ (by simp; omega), Below.heap_alloc _ _ _ (by simp; omega)]
      exact setc hA _
    have gO : w'.heap[qo]? = some (.cells #[.slice ov st.length cv] 23 (0, 0)) := by
      rw [hgrow.block qo (by simp; omega) (fun e => by have := hrow qo e.symm; omega), Below.heap_alloc _ _ _ (by simp; omega), Below.heap_alloc _ _ _ (by simp; omega), Below.heap_setCell _ _ _ _ hne']
      exact hO
    have bt : But w w' b qa qo := ((((But.of (Below.refl b w)).setA _).alloc (by simp; omega) _).alloc (by simp; omega) _).grown hgrow (by simp; omega) hrow
    have hs := bt.size
    obtain ⟨cA', fA'⟩ := cell1_of gA
    obtain ⟨cO', fO'⟩ := cell1_of gO
    have HH := Lib.hid (And.intro gA (And.intro gO (And.intro bt hown')))
    clear cA fA cO fO hA hO hown hgrow gA gO bt hown' hrow
    go_wp2
    go_region
    all_goals (try go_wp2)
    go_ret2
    obtain ⟨gA, gO, bt, hown'⟩ := HH.out
    have e1 : nextS 1 k st = (-1, k :: st) := by simp [nextS]
    rw [e1]
    refine ⟨by simp, ⟨ha, ho, hne, by simp; omega, ?_, .slice o2 (st.length + 1) c2, ?_, ?_⟩, ?_⟩
    · rw [drew_heap, Below.heap_setCell _ _ _ _ hne, gA]; simp
    · rw [drew_heap]; exact setc gO _
    · have h := (ownsRow_setCell_below hown' (a := ⟨qo, 0, none⟩) (by simpa using ho) (.slice o2 (st.length + 1) c2)).drew
      simpa using h
    · exact (bt.setO _).drew
  · by_cases h2 : kind = 2 ∧ st ≠ []
    · obtain ⟨rfl, h3⟩ := h2
      obtain ⟨c, r, rfl⟩ := List.exists_cons_of_ne_nil h3
      obtain ⟨g, cg, e⟩ := Joins.ownsRow_form hown (by simp)
      simp only [Value.slice.injEq, true_and] at e
      obtain ⟨rfl, _, rfl⟩ := e
      have hgb := hown.lt g rfl
      have hgA : ¬ g = qa := by omega
      have hgO : ¬ g = qo := by omega
      have hgA' : ¬ qa = g := by omega
      have hgO' : ¬ qo = g := by omega
      have hcell : w.cell? ⟨g, r.length, none⟩ = some (.int .i64 c) := cell_add (hown.cells rfl) r.length _ (by simp)
      have hcap : r.length + 1 ≤ cv := by
        obtain ⟨_, ⟨h, _⟩ | ⟨g', cap, cur, h, _, _, h4, _⟩⟩ := hown
        · cases h
        · simp only [Value.slice.injEq] at h; simp at h4; omega
      have hcap0 : ¬ cv = 0 := by omega
      simp only [List.length_cons] at hl cO ⊢
      have HH := Lib.hid (And.intro hA (And.intro hO hown))
      clear hA hO hown h3
      go_enter Try.func52, Try.ntmps52
      go_wp2
      go_region
      all_goals (try go_wp2)
      go_ret2
      obtain ⟨hA, hO, hown⟩ := HH.out
      have e1 : nextS 2 k (c :: r) = ((c : Int), r) := by simp [nextS]
      rw [e1]
      have hp : w.ownsRow b 3 1 (.slice (some ⟨g, 0, none⟩) r.length cv) r.length (r.reverse.map fun n : Nat => Value.int .i64 (n : Int)) :=
        ownsRow_pop (last := [.int .i64 (c : Int)]) (by simp) (by simpa using hown)
      refine ⟨by simp, ⟨ha, ho, hne, by simp; omega, ?_, .slice (some ⟨g, 0, none⟩) r.length cv, ?_, ?_⟩, ?_⟩
      · rw [drew_heap, Below.heap_alloc _ _ _ (by simp; omega), Below.heap_setCell _ _ _ _ hne]
        have h := setc hA (.int .i64 (k : Int))
        simpa using h
      · rw [drew_heap, Below.heap_alloc _ _ _ (by simp; omega)]
        refine setc (a := .slice (some ⟨g, 0, none⟩) (r.length + 1) cv) ?_ _
        rw [Below.heap_setCell _ _ _ _ hne']; simpa using hO
      · exact ((ownsRow_setCell_below (ownsRow_setCell_below hp (by simpa using ha) _) (by simpa using ho) _).alloc _).drew
      · exact ((((But.of (Below.refl b w)).setA _).setO _).alloc (by simp; omega) _).drew
    · have e1 : nextS kind k st = (-1, st) := by
        unfold nextS
        rw [if_neg h1]
        by_cases h3 : kind = 2
        · rw [if_pos h3]
          cases st with
          | nil => rfl
          | cons c r => exact absurd ⟨h3, by simp⟩ h2
        · rw [if_neg h3]
      rw [e1]
      have HH := Lib.hid (And.intro hA (And.intro hO hown))
      clear hA hO hown e1
      have hcase : (kind = 2 ∧ st.length = 0) ∨ ¬ kind = 2 := by
        by_cases h3 : kind = 2
        · exact .inl ⟨h3, by cases st with
            | nil => rfl
            | cons c r => exact absurd ⟨h3, by simp⟩ h2⟩
        · exact .inr h3
      clear h2
      rcases hcase with ⟨rfl, h0⟩ | h2
      all_goals (
        go_enter Try.func52, Try.ntmps52
        go_wp2
        go_region
        all_goals (try go_wp2)
        go_ret2
        obtain ⟨hA, hO, hown⟩ := HH.out
        refine ⟨by first | (simp; done) | (simp; omega), ⟨ha, ho, hne, by simp; omega, ?_, .slice ov st.length cv, ?_, ?_⟩, ?_⟩
        · rw [drew_heap, Below.heap_alloc _ _ _ (by simp; omega)]
          have h := setc hA (.int .i64 (k : Int))
          simpa using h
        · rw [drew_heap, Below.heap_alloc _ _ _ (by simp; omega), Below.heap_setCell _ _ _ _ hne']; exact hO
        · exact ((ownsRow_setCell_below hown (by simpa using ha) _).alloc _).drew
        · exact (((But.of (Below.refl b w)).setA _).alloc (by simp; omega) _).drew)
end Go.Proofs.Ytjeploipaejepaa
