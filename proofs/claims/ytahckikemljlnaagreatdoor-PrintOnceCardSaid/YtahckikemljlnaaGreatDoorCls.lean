/- word: Class, of plain letters. -/
import Derived.Test.YtahckikemljlnaaGreatDoorCls0
set_option linter.unusedVariables false
set_option linter.unusedSimpArgs false
namespace Go.Proofs.YtahckikemljlnaaGreatDoor
open Go.RowKit De Wd

namespace Wd
def els (L : Its) : Nat → List Ru.Pc → Nat → Except Nat (List Ru.Pc)
  | 0, _, _ => .error 0
  | f + 1, acc, k => if acc ≠ [] ∧ L.length ≤ k then .ok acc else match el L k with
    | .error j => .error j
    | .ok (q, k') => els L f (acc ++ [q]) k'
inductive Cr where
  | bad (j : Nat)
  | ok (S : List Ru.Pc)
def cls (L : Its) (n : Nat) : Cr :=
  match els L (L.length + 2) [] (if pk L 0 = 94 then 1 else 0) with
  | .error j => .bad (plc L n j)
  | .ok acc => if (if pk L 0 = 94 then Ru.nt acc else Ru.nrm acc) = [] then .bad n else .ok (if pk L 0 = 94 then Ru.nt acc else Ru.nrm acc)
theorem els_stop {L : Its} {f k : Nat} {acc : List Ru.Pc} (ha : acc ≠ []) (hk : L.length ≤ k) : els L (f + 1) acc k = .ok acc := by
  simp only [els]; rw [if_pos ⟨ha, hk⟩]
theorem els_bad {L : Its} {f k j : Nat} {acc : List Ru.Pc} (ha : ¬ (acc ≠ [] ∧ L.length ≤ k)) (h : el L k = .error j) : els L (f + 1) acc k = .error j := by
  simp only [els]; rw [if_neg ha, h]
theorem els_go {L : Its} {f k k' : Nat} {acc : List Ru.Pc} {q : Ru.Pc} (ha : ¬ (acc ≠ [] ∧ L.length ≤ k)) (h : el L k = .ok (q, k')) : els L (f + 1) acc k = els L f (acc ++ [q]) k' := by
  simp only [els]; rw [if_neg ha, h]
theorem el_ok {L : Its} (hpl : Pl L) {k k' : Nat} {q : Ru.Pc} (h : el L k = .ok (q, k')) : k < k' ∧ k < L.length ∧ q.1 ≤ q.2 ∧ Ru.scal q.1 = true ∧ Ru.scal q.2 = true := by
  unfold el at h
  split at h
  · rename_i h1
    have l1 := tk_lt h1
    have p1 := hpl.pk l1
    split at h
    · split at h
      · rename_i h3
        have p3 := hpl.pk (tk_lt h3)
        split at h
        · cases h
        · rename_i h4
          cases h
          refine ⟨by omega, l1, by simp; omega, ?_, ?_⟩ <;> (rw [Ru.scal_iff]; simp only; omega)
      · cases h
    · cases h
      refine ⟨by omega, l1, by simp, ?_, ?_⟩ <;> (rw [Ru.scal_iff]; simp only; omega)
  · cases h
end Wd
def lenOf (v : Value) : Nat := match v with | .slice _ n _ => n | _ => 0
/-- the state of Class's loop -/
structure ClsAt (w wr : World) (p : Nat) (L : Its) (k0 n : Nat) (v u : Value) (acc : List Ru.Pc) (f k : Nat) : Prop where
  hold : HoldC w wr (.slice none 0 0)
  ci : CI wr p L k n v
  lo : w.heap.size + 1 + 1 < p
  own : wr.ownsRow (p + 1) 86 2 u acc.length (flatK .i32 acc)
  len : acc.length ≤ k
  ok : Ru.Okr acc
  eq : els L (L.length + 2) [] k0 = els L f acc k
  fuel : L.length - k < f
theorem CI.low {a b : World} {p k n : Nat} {L : Its} {ou : Option Addr} {cu : Nat} (h : CI a p L k n (.slice ou L.length cu)) (hb : ∀ j, j < p + 1 → b.heap[j]? = a.heap[j]?) (hs : a.heap.size ≤ b.heap.size) (hlow : ∀ b off, ou = some ⟨b, off, none⟩ → b < p + 1) : CI b p L k n (.slice ou L.length cu) := by
  refine ⟨by rw [hb p (by omega)]; exact h.hh, ?_, h.far, h.le, h.small⟩
  obtain ⟨o, cap, e, l1, l2, h3⟩ := h.row
  simp only [Value.slice.injEq, true_and] at e
  obtain ⟨rfl, rfl⟩ := e
  refine ⟨_, _, rfl, l1, l2, ?_⟩
  rcases h3 with h3 | ⟨b', off, eb, hb', hc⟩
  · exact .inl h3
  · refine .inr ⟨b', off, eb, by omega, fun j u hu => ?_⟩
    rw [← hc j u hu]
    unfold World.cell?
    rw [hb b' (hlow b' off eb)]
theorem CI.setBlk {a : World} {p k n E i : Nat} {x : Value} {L : Its} {ou : Option Addr} {cu : Nat} (h : CI a p L k n (.slice ou L.length cu)) (hE : E ≠ p) (hlow : ∀ b off, ou = some ⟨b, off, none⟩ → b ≠ E) : CI (a.setCell ⟨E, i, none⟩ x) p L k n (.slice ou L.length cu) := by
  refine ⟨by rw [Below.heap_setCell _ _ _ _ (by simpa using fun e => hE e.symm)]; exact h.hh, ?_, h.far, h.le, h.small⟩
  obtain ⟨o, cap, e, l1, l2, h3⟩ := h.row
  simp only [Value.slice.injEq, true_and] at e
  obtain ⟨rfl, rfl⟩ := e
  refine ⟨_, _, rfl, l1, l2, ?_⟩
  rcases h3 with h3 | ⟨b', off, eb, hb', hc⟩
  · exact .inl h3
  · refine .inr ⟨b', off, eb, by simpa [World.setCell] using hb', fun j u hu => ?_⟩
    rw [← hc j u hu]
    unfold World.cell?
    rw [Below.heap_setCell _ _ _ _ (by simpa using hlow b' off eb)]
theorem HoldC.again {w X : World} {u : Value} (h : HoldC w X u) : HoldC w (((X.setCell ⟨w.heap.size, 0, none⟩ u).setCell ⟨w.heap.size + 1, 0, none⟩ (.int .i64 0)).setCell ⟨w.heap.size + 1 + 1, 0, none⟩ (.int .i64 0)) u := by
  refine ⟨?_, ?_, ?_, ((h.bel.setCell (Nat.le_refl _) _).setCell (by simp) _).setCell (by simp; omega) _⟩
  · rw [Below.heap_setCell _ _ _ _ (by simp; omega), Below.heap_setCell _ _ _ _ (by simp)]; exact set1 h.h0 _
  · rw [Below.heap_setCell _ _ _ _ (by simp)]; refine set1 (a := .int .i64 0) ?_ _; rw [Below.heap_setCell _ _ _ _ (by simp)]; exact h.h1
  · refine set1 (a := .int .i64 0) ?_ _; rw [Below.heap_setCell _ _ _ _ (by simp), Below.heap_setCell _ _ _ _ (by simp; omega)]; exact h.h2
theorem HoldC.low {w a b : World} {u : Value} {q : Nat} (h : HoldC w a u) (hs : w.heap.size + 1 + 1 < q) (hb : Below q a b) : HoldC w b u :=
  ⟨by rw [hb.block _ (by omega)]; exact h.h0, by rw [hb.block _ (by omega)]; exact h.h1, by rw [hb.block _ (by omega)]; exact h.h2, h.bel.trans (hb.mono (by omega))⟩
theorem Ru.nrm_len (l : List Ru.Pc) : (Ru.nrm l).length = (Ru.pcs l).length := by unfold Ru.nrm; rw [Ru.rngs_len]
theorem Ru.nt_len (l : List Ru.Pc) : (Ru.nt l).length = (Ru.cpl 0 (Ru.pcs l)).length := by unfold Ru.nt; rw [Ru.rngs_len]
theorem Ru.pcs_le (l : List Ru.Pc) : (Ru.pcs l).length ≤ l.length := by
  unfold Ru.pcs
  have h1 := Ru.merge_len (Ru.srt (Ru.raw l))
  have h2 : ∀ l : List Ru.Pc, (Ru.srt l).length = l.length := by
    have hi : ∀ (p : Ru.Pc) (l : List Ru.Pc), (Ru.ins p l).length = l.length + 1 := by
      intro p l
      induction l with
      | nil => rfl
      | cons q l ih => simp only [Ru.ins]; split <;> simp [ih]
    intro l
    induction l with
    | nil => rfl
    | cons q l ih => simp only [Ru.srt]; rw [hi, ih]; rfl
  have h3 : (Ru.raw l).length ≤ l.length := by
    unfold Ru.raw
    have := List.length_filter_le (fun p : Ru.Pc => decide (p.1 < p.2)) (l.map Ru.pcOf)
    simpa using this
  rw [h2] at h1; omega
theorem Ru.pcs_pos (l : List Ru.Pc) : ∀ q ∈ Ru.pcs l, 0 ≤ q.1 ∧ q.1 < q.2 ∧ q.2 ≤ 1112064 := fun q hq => by
  have h1 := (Ru.pcs_nf l).pos q hq
  have h2 := Ru.pcs_bd l q hq
  omega
theorem ClsAt.no {w wr : World} {p : Nat} {L : Its} {k0 n : Nat} {v u : Value} {acc : List Ru.Pc} {f k j : Nat} (h : ClsAt w wr p L k0 n v u acc f k) (ha : ¬ (acc ≠ [] ∧ L.length ≤ k)) (he : el L k = .error j) : els L (L.length + 2) [] k0 = .error j := by
  obtain ⟨f, rfl⟩ : ∃ g, f = g + 1 := ⟨f - 1, by have := h.fuel; omega⟩
  rw [h.eq, els_bad ha he]
theorem ClsAt.stop {w wr : World} {p : Nat} {L : Its} {k0 n : Nat} {v u : Value} {acc : List Ru.Pc} {f k : Nat} (h : ClsAt w wr p L k0 n v u acc f k) (ha : acc ≠ []) (hk : L.length ≤ k) : els L (L.length + 2) [] k0 = .ok acc := by
  obtain ⟨f, rfl⟩ : ∃ g, f = g + 1 := ⟨f - 1, by have := h.fuel; omega⟩
  rw [h.eq, els_stop ha hk]
theorem ClsAt.next {w wr w2 : World} {p : Nat} {L : Its} {k0 n : Nat} {v u u2 : Value} {acc : List Ru.Pc} {f k k' : Nat} {q : Ru.Pc} (hpl : Pl L) (h : ClsAt w wr p L k0 n v u acc f k) (ha : ¬ (acc ≠ [] ∧ L.length ≤ k)) (he : el L k = .ok (q, k'))
    (hh : HoldC w w2 (.slice none 0 0)) (hci : CI w2 p L k' n v) (hown : w2.ownsRow (p + 1) 86 2 u2 (acc.length + 1) (flatK .i32 acc ++ [.int .i32 q.1, .int .i32 q.2])) : ∃ f', ClsAt w w2 p L k0 n v u2 (acc ++ [q]) f' k' := by
  obtain ⟨f, rfl⟩ : ∃ g, f = g + 1 := ⟨f - 1, by have := h.fuel; omega⟩
  have ho := el_ok hpl he
  refine ⟨f, hh, hci, h.lo, ?_, ?_, ?_, ?_, ?_⟩
  · rw [flatK_append, List.length_append]; exact hown
  · have := h.len; simp; omega
  · intro x hx
    rcases List.mem_append.1 hx with hx | hx
    · exact h.ok x hx
    · simp at hx; subst hx; exact ho.2.2
  · rw [h.eq, els_go ha he]
  · have := h.fuel; omega

end Go.Proofs.YtahckikemljlnaaGreatDoor
