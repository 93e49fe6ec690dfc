/- A slice expression over a row of elements of several cells, with the new slice left open. -/
import Derived.Test.YtjhfncmeiaogaaaRowsOf
namespace Go.Proofs.Ytjhfncmeiaogaaa
open Go.RowKit
set_option linter.unusedVariables false
set_option linter.unusedSimpArgs false

/-- a part of a row of elements of size cells -/
theorem Row.slicedS {w : World} {o : Option Addr} {n cap size : Nat} {cs : List Value} (h : Row w (.slice o n cap) n cs) (hn : cs.length = n * size) {l m : Nat} (h1 : l ≤ m) (h2 : m ≤ n) :
    Row w (Go.sliced o l m cap size) (m - l) ((cs.drop (l * size)).take ((m - l) * size)) := by
  obtain ⟨o', cap', e, hc, hm, hr⟩ := h
  simp only [Value.slice.injEq, true_and] at e
  obtain ⟨rfl, rfl⟩ := e
  refine ⟨_, _, rfl, by omega, by omega, ?_⟩
  rcases hr with ⟨h0, h3⟩ | ⟨b, off, rfl, hlt, hcc⟩
  · refine .inl ⟨by omega, ?_⟩
    intro h4
    have : l = 0 := by omega
    subst this
    by_cases e : cap = 0
    · omega
    · rw [if_neg e] at h4
      cases o with
      | none => have := h3 rfl; omega
      | some a => simp at h4
  · by_cases e : m - l = 0
    · refine .inl ⟨e, ?_⟩
      intro h4
      by_cases e2 : cap = l
      · omega
      · rw [if_neg e2] at h4; simp at h4
    · right
      rw [if_neg (by omega)]
      refine ⟨b, off + l * size, ?_, hlt, ?_⟩
      · simp only [Option.map_some, Addr.add]
        by_cases e3 : l * size = 0
        · simp [e3]
        · rw [if_neg e3]
      · intro j u hj
        rw [List.getElem?_take] at hj
        split at hj
        · rw [List.getElem?_drop] at hj
          have := hcc (l * size + j) u hj
          rwa [← Nat.add_assoc] at this
        · cases hj

/-- 'x[:h]': what comes is a row of the first h elements -/
theorem wpList_cutS_h {P : Program} (w : World) {ops : Array Oper} {rest : List Oper} {o : Oper} {a : Act} {Q : Exit → Act → World → Prop} (hgd : o.guard = none) (x y : Operand) (t : TypeId)
    (ho : o.op = .slice t x none (some y) none) (e : TypeId) (he : P.elem t = e) (ht : P.underlying t = some (.slice (P.elem t))) (i : TypeInfo) (hi : P.info? e = some i) (size : Nat) (hsize : i.size = size)
    (v : Value) (n : Nat) (cs : List Value) (hx : a.eval x = v) (hrow : Row w v n cs) (hcs : cs.length = n * size) (h : Nat) (hy : a.eval y = .int .i64 h) (hh : h ≤ n)
    (K : ∀ o' c', (∀ w', Row w' v n cs → Row w' (.slice o' h c') h (cs.take (h * size))) → wpList P ops Q rest (a.put o.dst (.slice o' h c')) w) : wpList P ops Q (o :: rest) a w := by
  refine wpList_plain hgd fun K' hK => ?_
  obtain ⟨o1, cap, rfl, hc, hm, hrr⟩ := hrow
  have hs := fun (w' : World) (hr : Row w' (.slice o1 n cap) n cs) => hr.slicedS hcs (Nat.zero_le h) hh
  have hsz : (sizeOf (P.elem t)).run P w = .ok size w := by
    rw [he]; simp [sizeOf, run_typeInfo _ hi, hsize, go_sem]
  unfold Oper.wp execOp
  simp only [ho, Option.map_none, Option.map_some, hx, hy, Sem.run_bind, Sem.run_pure, run_sliceAt_slice _ _ _ _ _ _ ht, run_slice_h w t o1 n cap ht .i64 (h : Int) (by omega) (by omega), hsz, Result.andThen_ok]
  refine hK _ _ ?_
  have e1 : ((h : Int)).toNat = h := by simp
  rw [e1]
  simp only [Go.sliced, Nat.sub_zero] at hs ⊢
  have e2 : List.take (h * size) (List.drop (0 * size) cs) = cs.take (h * size) := by simp
  rw [e2] at hs
  exact K _ _ hs
end Go.Proofs.Ytjhfncmeiaogaaa
