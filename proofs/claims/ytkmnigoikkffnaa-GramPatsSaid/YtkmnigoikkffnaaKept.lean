/- Regions that draw their order and whose operations keep what was there: walked once, in a class of worlds; a last operation that may do anything. No Go function in sight. -/
import Derived.StillTail
import Derived.BigQuiet
import Derived.Test.YtkmnigoikkffnaaRowsOf
set_option linter.unusedVariables false
set_option linter.unusedSimpArgs false
namespace Go.Proofs.Ytkmnigoikkffnaa
open Go Go.RowKit

section
variable {P : Program} {ops : Array Oper} {md : Region.Mode} {C : World → Prop}
/-- so many operations of the first n, in whatever order; then L -/
def Hd (P : Program) (md : Region.Mode) (ops : Array Oper) (C : World → Prop) (n : Nat) (L : Array Bool → Act → Prop) : Nat → Array Bool → Act → Prop
  | 0, s, a => L s a
  | f + 1, s, a => Region.ready md ops s ≠ [] ∧ ∀ i ∈ Region.ready md ops s, i < n ∧ qOp P ops C i (Hd P md ops C n L f (s.setIfInBounds i true)) a
theorem hd_any {n g : Nat} {L : Array Bool → Act → Prop} {Q : Exit → Act → World → Prop} (hL : ∀ s a w, C w → L s a → wpAny P md ops Q g s a w) :
    ∀ (f : Nat) (s : Array Bool) (a : Act) (w : World), C w → Hd P md ops C n L f s a → wpAny P md ops Q (f + g) s a w := by
  intro f
  induction f with
  | zero => intro s a w hw h; rw [Nat.zero_add]; exact hL s a w hw h
  | succ f ih =>
    intro s a w hw h
    have e : f + 1 + g = (f + g) + 1 := by omega
    rw [e]
    exact ⟨fun h0 => (h.1 h0).elim, fun i hi => wpOp_of_qOp hw (fun a' w' hw' hh => ih _ a' w' hw' hh) (h.2 i hi).2⟩
/-- what is wanted of an operation that is taken first -/
structure Frst (md : Region.Mode) (ops : Array Oper) (n i : Nat) (oi : Oper) (s : Array Bool) : Prop where
  inv : HeadInv md ops n s
  rdy : i ∈ Region.ready md ops s
  far : ∀ j oj, ops[j]? = some oj → j ≠ i → s.getD j true = false → (∀ e ∈ oj.after, Region.binds md e = true → e.on ≠ i) → oi.apart ops oj = true
theorem Frst.lt {n i : Nat} {oi : Oper} {s : Array Bool} (h : Frst md ops n i oi s) (hs : Region.sinkB md ops n = true) (hc : Region.chainB md ops n = true) (hn : n < ops.size) (hin : i < n) {j : Nat} (hj : j ∈ Region.ready md ops s) : j < n := by
  rcases Nat.lt_or_ge j n with k | k
  · exact k
  · exact (tail_waits hs hc hn h.inv _ i rfl hin (mem_ready.1 h.rdy).1 j k hj).elim
theorem Frst.next {n i j : Nat} {oi : Oper} {s : Array Bool} (h : Frst md ops n i oi s) (hj : j ∈ Region.ready md ops s) (hjn : j < n) (hji : j ≠ i) : Frst md ops n i oi (s.setIfInBounds j true) where
  inv := h.inv.set hj hjn
  rdy := ready_mono h.rdy hji.symm
  far := by
    intro k ok hk hki hun hno
    refine h.far k ok hk hki ?_ hno
    by_cases e : j = k
    · exact e ▸ (mem_ready.1 hj).1
    · rwa [getD_set_ne true e] at hun
theorem hd_first {n i : Nat} {oi : Oper} {v : Value} {L : Array Bool → Act → Prop} (hi : ops[i]? = some oi) (hsel : Region.noSelect ops = true)
    (hs : Region.sinkB md ops n = true) (hc : Region.chainB md ops n = true) (hn : n < ops.size) (hin : i < n)
    (hd : ∀ s a, L s a → ∀ j ∈ Region.ready md ops s, n ≤ j) :
    ∀ (f : Nat) (s : Array Bool) (a : Act), Frst md ops n i oi s → YieldsIn P ops C oi v a →
      Hd P md ops C n L f (s.setIfInBounds i true) (a.put oi.dst v) → Hd P md ops C n L (f + 1) s a := by
  intro f
  induction f with
  | zero =>
    intro s a F hy H
    refine ⟨fun h => (by have := F.rdy; rw [h] at this; cases this), fun j hj => ⟨F.lt hs hc hn hin hj, ?_⟩⟩
    by_cases e : j = i
    · rw [e]; exact hy.qOp hi H
    · have h1 := hd _ _ H j (ready_mono hj e)
      have h2 := F.lt hs hc hn hin hj
      omega
  | succ f ih =>
    intro s a F hy H
    refine ⟨fun h => (by have := F.rdy; rw [h] at this; cases this), fun j hj => ⟨F.lt hs hc hn hin hj, ?_⟩⟩
    by_cases e : j = i
    · rw [e]; exact hy.qOp hi H
    · obtain ⟨hun, oj, hoj, hall⟩ := mem_ready.1 hj
      have hno : ∀ e ∈ oj.after, Region.binds md e = true → e.on ≠ i := by
        intro x hx hb hxi
        have h1 := hall x hx hb
        rw [hxi, getD_both (mem_ready.1 F.rdy).1] at h1
        cases h1
      have h2 := qOp_put hoj (F.far j oj hoj e hun hno) (fun cs b => Region.noSelect_spec hsel i oi cs b hi) (fun cs b => Region.noSelect_spec hsel j oj cs b hoj) hy (H.2 j (ready_mono hj e)).2
      refine qOp_mono (fun a' h3 => ih _ a' (F.next hj (F.lt hs hc hn hin hj) e) h3.1 ?_) h2
      rw [Array.setIfInBounds_comm _ _ e]
      exact h3.2
theorem hd_lex {n g : Nat} {Lq : Act → Prop} (hsel : Region.noSelect ops = true) (hs : Region.sinkB md ops n = true) (hc : Region.chainB md ops n = true) (hn : n < ops.size) :
    ∀ (l : List Oper) (k : Nat) (s : Array Bool) (a : Act), (∀ j, j < l.length → l[j]? = ops[k + j]?) → k + l.length = n → HeadInv md ops n s →
    Region.lexHead md ops g l.length k s = true → wpQuiet P ops C Lq l a → Hd P md ops C n (fun s' a' => Region.seqB md ops g n s' = true ∧ Lq a') l.length s a := by
  intro l
  induction l with
  | nil =>
    intro k s a _ hk _ hB h
    obtain rfl : k = n := by simpa using hk
    exact ⟨by simpa [Region.lexHead] using hB, h⟩
  | cons o l ih =>
    intro k s a hl hk inv hB h
    have h0 : ops[k]? = some o := by simpa using (hl 0 (by simp)).symm
    rw [List.length_cons] at hk
    simp only [List.length_cons, Region.lexHead, Bool.and_eq_true] at hB
    have hr : k ∈ Region.ready md ops s := by simpa using hB.1.1
    have hst : qOp P ops C k (wpQuiet P ops C Lq l) a := by unfold qOp; simp only [h0]; exact h
    obtain ⟨v, hy, hK⟩ := yieldsIn_of_qOp h0 hst
    refine hd_first h0 hsel hs hc hn (by omega) (fun s' a' hL => seqB_ready hL.1) l.length s a ⟨inv, hr, Region.free_spec h0 hB.1.2⟩ hy ?_
    exact ih (k + 1) _ _ (fun j hj => by have := hl (j + 1) (by simp; omega); simpa [Nat.add_assoc, Nat.add_comm 1 j] using this) (by omega) (inv.set hr (by omega)) hB.2 hK
end
/-- a region: all but the last operations keep the class; the last ones may do anything -/
theorem region_tail {P : Program} {id : Nat} {Q : Exit → Act → World → Prop} {a : Act} {w : World} {l : List Oper} {ι : Type} (W : ι → World) (n : Nat) (hm : P.follows .mixedOrders = true) (hB : Region.lexTailB .any l.toArray n = true) (h0 : ∃ i, w.drew = W i)
    (h : wpQuiet P l.toArray (fun w' => ∃ i, w' = W i) (fun a' => ∀ w', (∃ i, w' = W i) → wpList P l.toArray Q (l.drop n) a' w') (l.take n) a) : (Code.region id l.toArray true).wp P Q a w := by
  simp only [Region.lexTailB, Bool.and_eq_true, decide_eq_true_eq] at hB
  obtain ⟨⟨⟨⟨hsel, hn⟩, hs⟩, hc⟩, hlex⟩ := hB
  have hn' : n < l.length := by simpa using hn
  have htl : (l.take n).length = n := by simp; omega
  have hdl : (l.drop n).length = l.toArray.size - n := by simp
  have inv0 : HeadInv .any l.toArray n (Array.replicate l.toArray.size false) :=
    ⟨by simp, fun j oj _ hl => (by rw [getD_replicate_false] at hl; cases hl), fun t _ ht => getD_in (by simpa using ht) (getD_replicate_false _ _)⟩
  have H := hd_lex (md := .any) (g := l.toArray.size - n) hsel hs hc hn (l.take n) 0 _ a (fun j hj => by rw [htl] at hj; simp [hj]) (by omega) inv0 (by rw [htl]; exact hlex) h
  refine wp_region_any hm ?_
  have H2 := hd_any (Q := Q) (g := l.toArray.size - n) (fun s a' w' hw' hL => by
    have := wpAny_of_seq (md := .any) (Q' := Q) (l.drop n) n s a' w' (fun j => by simp [List.getElem?_drop]) (by rw [hdl]; exact hL.1) (hL.2 w' hw')
    rwa [hdl] at this) _ _ _ _ h0 H
  have e : (l.take n).length + (l.toArray.size - n) = l.toArray.size := by simp; omega
  rw [e] at H2
  exact H2
/-- a region whose operations all keep the class -/
theorem region_kept {P : Program} {id : Nat} {Q : Exit → Act → World → Prop} {a : Act} {w : World} {l : List Oper} {ι : Type} (W : ι → World) (hm : P.follows .mixedOrders = true) (hB : Region.lexB .any l.toArray = true) (h0 : ∃ i, w.drew = W i)
    (h : wpQuiet P l.toArray (fun w' => ∃ i, w' = W i) (fun a' => ∀ w', (∃ i, w' = W i) → Q .normal a' w') l a) : (Code.region id l.toArray true).wp P Q a w :=
  wp_region_quiet (C := fun w' => ∃ i, w' = W i) hm hB h0 (by simpa using h)
/-- the worlds that keep what was there, under numbers -/
theorem kept_family (w : World) : ∃ (ι : Type) (K : ι → World), Nonempty ι ∧ (∀ i, Below w.heap.size w (K i)) ∧ ∀ w', Below w.heap.size w w' → ∃ i, w' = K i :=
  ⟨{ w' : World // Below w.heap.size w w' }, Subtype.val, ⟨⟨w, Below.refl _ _⟩⟩, fun i => i.2, fun w' h => ⟨⟨w', h⟩, rfl⟩⟩
/-- a callee that keeps what was there -/
theorem calls_kept {P : Program} {f : FuncId} {args : Array Value} {w : World} {ι : Type} {K : ι → World} (hb : ∀ i, Below w.heap.size w (K i)) (hs : ∀ w', Below w.heap.size w w' → ∃ i, w' = K i) {v : Value} {i : ι}
    (h : Calls P f args (K i) fun e w'' => e = .returned v ∧ Below (K i).heap.size (K i) w'') : Calls P f args (K i) fun e w'' => e = .returned v ∧ ∃ j, w'' = K j :=
  h.mono fun e w'' hh => ⟨hh.1, hs _ (bel_then (hb i) hh.2)⟩
theorem calls_same {P : Program} {f : FuncId} {args : Array Value} {ι : Type} {K : ι → World} {v : Value} {i : ι}
    (h : Calls P f args (K i) fun e w'' => e = .returned v ∧ K i = w'') : Calls P f args (K i) fun e w'' => e = .returned v ∧ ∃ j, w'' = K j :=
  h.mono fun e w'' hh => ⟨hh.1, i, hh.2.symm⟩
end Go.Proofs.Ytkmnigoikkffnaa
