/- A slice expression over a row, with the new slice left open. -/
import Derived.Test.YtjeploipaejepaaRowsOf
namespace Go.Proofs.Ytjeploipaejepaa
open Go.RowKit
set_option linter.unusedVariables false
set_option linter.unusedSimpArgs false

/-- 'x[:h]': what comes is a row of the first h cells -/
theorem wpList_cut_h {P : Program} (w : World) {ops : Array Oper} {rest : List Oper} {o : Oper} {a : Act} {Q : Exit → Act → World → Prop} (hgd : o.guard = none) (x y : Operand) (t : TypeId)
    (ho : o.op = .slice t x none (some y) none) (e : TypeId) (he : P.elem t = e) (ht : P.underlying t = some (.slice (P.elem t))) (i : TypeInfo) (hi : P.info? e = some i) (hsize : i.size = 1)
    (v : Value) (n : Nat) (cs : List Value) (hx : a.eval x = v) (hrow : Row w v n cs) (hcs : cs.length = n) (h : Nat) (hy : a.eval y = .int .i64 h) (hh : h ≤ n)
    (K : ∀ o' c', (∀ w', Row w' v n cs → Row w' (.slice o' h c') h (cs.take h)) → wpList P ops Q rest (a.put o.dst (.slice o' h c')) w) : wpList P ops Q (o :: rest) a w := by
  refine wpList_plain hgd fun K' hK => ?_
  obtain ⟨o1, cap, rfl, hc, hm, hrr⟩ := hrow
  have hs := fun (w' : World) (hr : Row w' (.slice o1 n cap) n cs) => hr.sliced hcs (Nat.zero_le h) hh
  have hsz : (sizeOf (P.elem t)).run P w = .ok 1 w := by
    rw [he]; simp [sizeOf, run_typeInfo _ hi, hsize, go_sem]
  unfold Oper.wp execOp
  simp only [ho, Option.map_none, Option.map_some, hx, hy, Sem.run_bind, Sem.run_pure, run_sliceAt_slice _ _ _ _ _ _ ht, run_slice_h w t o1 n cap ht .i64 (h : Int) (by omega) (by omega), hsz, Result.andThen_ok]
  refine hK _ _ ?_
  have e1 : ((h : Int)).toNat = h := by simp
  rw [e1]
  simp only [Go.sliced, Nat.sub_zero] at hs ⊢
  have e2 : List.take h (List.drop 0 cs) = cs.take h := by simp
  rw [e2] at hs
  exact K _ _ hs

/-- 'x[l:]': what comes is a row of the cells from l on -/
theorem wpList_cut_l {P : Program} (w : World) {ops : Array Oper} {rest : List Oper} {o : Oper} {a : Act} {Q : Exit → Act → World → Prop} (hgd : o.guard = none) (x y : Operand) (t : TypeId)
    (ho : o.op = .slice t x (some y) none none) (e : TypeId) (he : P.elem t = e) (ht : P.underlying t = some (.slice (P.elem t))) (i : TypeInfo) (hi : P.info? e = some i) (hsize : i.size = 1)
    (v : Value) (n : Nat) (cs : List Value) (hx : a.eval x = v) (hrow : Row w v n cs) (hcs : cs.length = n) (l : Nat) (hy : a.eval y = .int .i64 l) (hl : l ≤ n)
    (K : ∀ o' c', (∀ w', Row w' v n cs → Row w' (.slice o' (n - l) c') (n - l) (cs.drop l)) → wpList P ops Q rest (a.put o.dst (.slice o' (n - l) c')) w) : wpList P ops Q (o :: rest) a w := by
  refine wpList_plain hgd fun K' hK => ?_
  obtain ⟨o1, cap, rfl, hc, hm, hrr⟩ := hrow
  have hs := fun (w' : World) (hr : Row w' (.slice o1 n cap) n cs) => hr.sliced hcs hl (Nat.le_refl n)
  have hsz : (sizeOf (P.elem t)).run P w = .ok 1 w := by
    rw [he]; simp [sizeOf, run_typeInfo _ hi, hsize, go_sem]
  unfold Oper.wp execOp
  simp only [ho, Option.map_none, Option.map_some, hx, hy, Sem.run_bind, Sem.run_pure, run_sliceAt_slice _ _ _ _ _ _ ht, run_slice_l w t o1 n cap ht .i64 (l : Int) (by omega) (by omega), hsz, Result.andThen_ok]
  refine hK _ _ ?_
  have e1 : ((l : Int)).toNat = l := by simp
  rw [e1]
  simp only [Go.sliced] at hs ⊢
  have e2 : List.take (n - l) (List.drop l cs) = cs.drop l := List.take_of_length_le (by simp; omega)
  rw [e2] at hs
  exact K _ _ hs
end Go.Proofs.Ytjeploipaejepaa
