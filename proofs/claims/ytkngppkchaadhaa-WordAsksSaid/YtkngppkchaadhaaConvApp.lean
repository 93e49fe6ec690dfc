/- Appending behind the bytes of a converted text. -/
import Derived.Test.YtkngppkchaadhaaRowsOf
import Derived.Lib.ConvBytes
import Derived.ArgAppend
import Derived.Deep.Upon
import Derived.Deep.AppendSrc
set_option linter.unusedVariables false
set_option linter.unusedSimpArgs false
namespace Go.Proofs.Ytkngppkchaadhaa
open Go.RowKit

theorem setCells_tape (b : Nat) : ∀ (vs : List Value) (o : Nat) (w : World), (w.setCells b o vs).tape = w.tape
  | [], _, _ => rfl
  | v :: r, o, w => by
    show ((w.setCell ⟨b, o, none⟩ v).setCells b (o + 1) r).tape = w.tape
    rw [setCells_tape b r]
    rfl
theorem setCells_size (b : Nat) : ∀ (vs : List Value) (o : Nat) (w : World), (w.setCells b o vs).heap.size = w.heap.size
  | [], _, _ => rfl
  | v :: r, o, w => by
    show ((w.setCell ⟨b, o, none⟩ v).setCells b (o + 1) r).heap.size = w.heap.size
    rw [setCells_size b r]
    simp [World.setCell]
theorem convW_below (w : World) (e : TypeId) (s : ByteArray) : Below w.heap.size w (Lib.bytesWorld w e s) := by
  refine ⟨?_, ?_, ?_, by rw [Lib.bytesWorld_size]; omega, fun k hk => Lib.bytesWorld_at_old w e s k hk⟩ <;> (unfold Lib.bytesWorld World.freeze; rw [if_neg (by decide)]; rfl)
theorem convW_frozen (w : World) (e : TypeId) (s : ByteArray) (j : Nat) (hj : j < (Lib.bytesCells w e s).size) : (Lib.bytesWorld w e s).frozen? ⟨w.heap.size, j, none⟩ = false := by
  simp [World.frozen?, Lib.bytesWorld_at_new]
  omega
theorem convW_some (w : World) (e : TypeId) (s : ByteArray) (j : Nat) (hj : j < (Lib.bytesCells w e s).size) : ((Lib.bytesWorld w e s).cell? ⟨w.heap.size, j, none⟩).isSome = true := by
  simp [World.cell?, Lib.bytesWorld_at_new, hj]
theorem convCells_size (w : World) (e : TypeId) (s : ByteArray) : (Lib.bytesCells w e s).size = grownCap w s.size 0 e := by
  have := grownCap_ge w s.size 0 e
  simp [Lib.bytesCells]
  omega
theorem convW_cells (w : World) (e : TypeId) (s : ByteArray) : ∀ (j : Nat) (u : Value), ((sb s).map (Value.int .u8))[j]? = some u → (Lib.bytesWorld w e s).cell? ⟨w.heap.size, 0 + j, none⟩ = some u := by
  intro j u hu
  have hj : j < s.size := by
    have := (List.getElem?_eq_some_iff.1 hu).1
    simpa [sb] using this
  rw [Nat.zero_add, Lib.bytesWorld_cell w e s j hj, ← hu]
  have hj' : j < s.data.size := hj
  simp [sb, hj', List.getD, Array.getElem?_eq_getElem hj']
/-- the row behind an append -/
theorem wpList_append_conv {P : Program} (w : World) (t : ByteArray) {ops : Array Oper} {rest : List Oper} {o : Oper} {a : Act} {Q : Exit → Act → World → Prop} (hgd : o.guard = none) (s x : Operand) (T e : TypeId)
    (ho : o.op = .call { callee := .builtin .append, args := #[s, x], argTypes := #[T, T] })
    (i : TypeInfo) (ht : P.underlying T = some (.slice e)) (hi : P.info? e = some i) (hz : i.zero = some (.int .u8 0)) (hsize : i.size = 1) (hby : i.bytes = 1)
    (hs : a.eval s = .slice (some ⟨w.heap.size, 0, none⟩) t.size (grownCap w t.size 0 e))
    (u : Value) (m : Nat) (news : List Value) (hx : a.eval x = u) (hrow : Row (Lib.bytesWorld w e t) u m news) (hl : news.length = m) (h1 : ∀ u ∈ news, u.oneCell' = true)
    (h63 : t.size + m ≤ 1000000)
    (h : ∀ v' w', Row w' v' (t.size + m) ((sb t).map (Value.int .u8) ++ news) → Below w.heap.size w w' → wpList P ops Q rest (a.put o.dst v') w') : wpList P ops Q (o :: rest) a (Lib.bytesWorld w e t) := by
  have hcap := grownCap_le_maxLen w t.size 0 e (by unfold maxLen; omega)
  have hcs := convCells_size w e t
  have hsl : (sb t).length = t.size := by simp [sb]
  have hol : ((sb t).map (Value.int .u8)).length = t.size * 1 := by simp [sb]
  have hsz := Lib.bytesWorld_size w e t
  obtain ⟨ou, cu, rfl, hcu, hmu, hru⟩ := hrow
  -- there is room
  have room : ∀ (hr : t.size + m ≤ grownCap w t.size 0 e), Row ((Lib.bytesWorld w e t).setCells w.heap.size (0 + t.size * 1) news) (.slice (some ⟨w.heap.size, 0, none⟩) (t.size + m) (grownCap w t.size 0 e)) (t.size + m) ((sb t).map (Value.int .u8) ++ news) ∧
      Below w.heap.size w ((Lib.bytesWorld w e t).setCells w.heap.size (0 + t.size * 1) news) := by
    intro hr
    have hsm : ∀ j, j < news.length → ((Lib.bytesWorld w e t).cell? ⟨w.heap.size, 0 + t.size * 1 + j, none⟩).isSome = true := fun j hj => convW_some w e t _ (by omega)
    refine ⟨⟨_, _, rfl, hr, hcap, .inr ⟨w.heap.size, 0, rfl, by rw [setCells_size, hsz]; omega, fun j u hu => ?_⟩⟩, ?_⟩
    · by_cases hj : j < t.size
      · rw [World.cell?_setCells_out _ _ _ _ _ (fun _ _ => Or.inl (by show 0 + j < 0 + t.size * 1; omega))]
        rw [List.getElem?_append_left (by rw [hol]; omega)] at hu
        exact convW_cells w e t j u hu
      · rw [List.getElem?_append_right (by rw [hol]; omega), hol] at hu
        have hjn : j - t.size * 1 < news.length := (List.getElem?_eq_some_iff.1 hu).1
        have := World.cell?_setCells_in w.heap.size news (0 + t.size * 1) _ hsm (j - t.size * 1) hjn
        rw [show 0 + j = 0 + t.size * 1 + (j - t.size * 1) by omega, this, ← hu, List.getElem?_eq_getElem hjn]
    · refine (convW_below w e t).trans ⟨World.os_setCells _ _ _ _, setCells_tape _ _ _ _, World.output_setCells _ _ _ _, by rw [setCells_size]; exact Nat.le_refl _, fun k hk => World.heap_setCells_other _ _ _ _ (by rw [hsz]; omega) (by omega)⟩
  cases ou with
  | some ad =>
    have hnews : ∀ j u, news[j]? = some u → (Lib.bytesWorld w e t).cell? (ad.add j) = some u := by
      rcases hru with ⟨rfl, _⟩ | ⟨b, off, hb, hlt, hcc⟩
      · intro j u hj
        have : news = [] := List.eq_nil_of_length_eq_zero (by omega)
        subst this; simp at hj
      · cases hb
        intro j u hj
        rw [Addr.add_lit]
        exact hcc j u hj
    refine wpList_append_arg _ hgd s x T ho e i (.int .u8 0) 1 1 ht hi hz hsize hby rfl (by decide) w.heap.size 0 t.size (grownCap w t.size 0 e) ((sb t).map (Value.int .u8)) hs hol (convW_cells w e t) ad m cu news hx (by omega) hnews h1
      (fun hr j hj => ⟨convW_some w e t _ (by omega), convW_frozen w e t _ (by omega)⟩) (by unfold maxLen; omega) (by omega) (fun hr => h _ _ (room hr).1 (room hr).2) (fun hr v' w' hown hg => ?_)
    exact h v' w' (Row.owned hown) (bel_grown (convW_below w e t) hg (by simp))
  | none =>
    have hm0 : m = 0 := by rcases hru with ⟨rfl, _⟩ | ⟨b, off, hb, _⟩; exact rfl; cases hb
    subst hm0
    have hn0 : news = [] := List.eq_nil_of_length_eq_zero hl
    subst hn0
    have hge := grownCap_ge w t.size 0 e
    refine wpList_plain hgd fun K hK' => ?_
    have hrun := run_append_room_src (P := P) (w := Lib.bytesWorld w e t) T T o.type e i ht hi w.heap.size 0 t.size (grownCap w t.size 0 e) (.slice none 0 cu) 0 [] (Src.ofNil _ ht cu) (by omega) (by simp) (by simp)
    rw [hsize] at hrun
    unfold Oper.wp
    simp [execOp, ho, resolve, invoke, builtin, hs, hx, hrun, Result.andThen]
    exact hK' _ _ (h _ _ (room (by omega)).1 (room (by omega)).2)
end Go.Proofs.Ytkngppkchaadhaa
