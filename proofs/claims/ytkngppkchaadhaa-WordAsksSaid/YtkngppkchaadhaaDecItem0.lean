/- Items one by one: what a row of items reads (for seats without the decoder's law). -/
import Derived.Test.YtkngppkchaadhaaDecWhole
set_option linter.unusedVariables false
set_option linter.unusedSimpArgs false
namespace Go.Proofs.Ytkngppkchaadhaa
open Go.RowKit De

theorem itsc_get (L : List (Nat × It)) : ∀ (k i : Nat) (p : Nat × It), L[k]? = some p → i < 5 → (itsc L)[k * 5 + i]? = (itc p.1 p.2)[i]? := by
  induction L with
  | nil => intro k i p h; simp at h
  | cons q L ih =>
    intro k i p h hi
    have e : itsc (q :: L) = itc q.1 q.2 ++ itsc L := by simp [itsc]
    have hl : (itc (q.1 : Nat) q.2).length = 5 := by simp [itc]
    rw [e]
    cases k with
    | zero =>
      simp at h
      subst h
      rw [List.getElem?_append_left (by omega)]
      simp
    | succ k =>
      rw [List.getElem?_append_right (by omega)]
      have := ih k i p (by simpa using h) hi
      rw [← this]
      congr 1; omega
/-- the cells of an item of a row -/
theorem Row.item {w : World} {v : Value} {L : List (Nat × It)} (h : Row w v L.length (itsc L)) {k : Nat} {p : Nat × It} (hk : L[k]? = some p) :
    ∃ b off cap, v = .slice (some ⟨b, off, none⟩) L.length cap ∧ b < w.heap.size ∧
      w.cell? ⟨b, off + k * 5, none⟩ = some (.int .i32 p.2.r) ∧ w.cell? ⟨b, off + k * 5 + 1, none⟩ = some (.int .i64 p.1) ∧ w.cell? ⟨b, off + k * 5 + 2, none⟩ = some (.int .i64 ((p.1 : Int) + p.2.n)) ∧
      w.cell? ⟨b, off + k * 5 + 3, none⟩ = some (.bool p.2.bad) ∧ w.cell? ⟨b, off + k * 5 + 4, none⟩ = some (.bool p.2.more) := by
  have hlt : k < L.length := (List.getElem?_eq_some_iff.1 hk).1
  obtain ⟨o, cap, rfl, h1, h2, h3⟩ := h
  rcases h3 with ⟨h0, _⟩ | ⟨b, off, rfl, hb, hc⟩
  · omega
  have g := fun i hi => itsc_get L k i p hk hi
  refine ⟨b, off, cap, rfl, hb, ?_, ?_, ?_, ?_, ?_⟩
  · have := hc (k * 5 + 0) (.int .i32 p.2.r) (by rw [g 0 (by omega)]; rfl); simpa [Nat.add_assoc] using this
  · have := hc (k * 5 + 1) (.int .i64 p.1) (by rw [g 1 (by omega)]; rfl); simpa [Nat.add_assoc] using this
  · have := hc (k * 5 + 2) (.int .i64 ((p.1 : Int) + p.2.n)) (by rw [g 2 (by omega)]; rfl); simpa [Nat.add_assoc] using this
  · have := hc (k * 5 + 3) (.bool p.2.bad) (by rw [g 3 (by omega)]; rfl); simpa [Nat.add_assoc] using this
  · have := hc (k * 5 + 4) (.bool p.2.more) (by rw [g 4 (by omega)]; rfl); simpa [Nat.add_assoc] using this

end Go.Proofs.Ytkngppkchaadhaa
