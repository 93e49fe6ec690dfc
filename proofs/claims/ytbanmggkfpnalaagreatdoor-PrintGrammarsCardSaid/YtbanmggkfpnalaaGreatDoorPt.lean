/- Patterns as trees; how a value holds one in memory; slices.Equal of strings. -/
import Derived.Test.YtbanmggkfpnalaaGreatDoorReMay2
set_option linter.unusedVariables false
set_option linter.unusedSimpArgs false
namespace Go.Proofs.YtbanmggkfpnalaaGreatDoor
open Go.RowKit Ru

namespace RE
mutual
def same : RE → RE → Bool
  | .mk k s l, f => decide (k = f.kind) && (decide (s = f.set) && (decide (l.length = f.parts.length) && sameL l f.parts))
def sameL : List RE → List RE → Bool
  | [], _ => true
  | a :: l, m => match m with
    | [] => true
    | b :: m => same a b && sameL l m
end
end RE
end Go.Proofs.YtbanmggkfpnalaaGreatDoor

namespace Go.Proofs.YtbanmggkfpnalaaGreatDoor
open Go.RowKit Ru

inductive PT where
  | mk (k : Int) (ns es : List ByteArray) (l : List PT)
namespace PT
def kind : PT → Int | mk k _ _ _ => k
def names : PT → List ByteArray | mk _ n _ _ => n
def ends : PT → List ByteArray | mk _ _ e _ => e
def parts : PT → List PT | mk _ _ _ l => l
mutual
def size : PT → Nat
  | mk _ _ _ l => sizes l + 1
def sizes : List PT → Nat
  | [] => 0
  | e :: l => size e + sizes l
end
theorem size_mk (k : Int) (n e : List ByteArray) (l : List PT) : (mk k n e l).size = sizes l + 1 := by rw [size]
theorem sizes_nil : sizes [] = 0 := by rw [sizes]
theorem sizes_cons (e : PT) (l : List PT) : sizes (e :: l) = e.size + sizes l := by rw [sizes]
theorem size_pos (e : PT) : 1 ≤ e.size := by cases e; rw [size_mk]; omega
theorem size_get : ∀ (l : List PT) (i : Nat) (e : PT), l[i]? = some e → e.size ≤ sizes l := by
  intro l
  induction l with
  | nil => intro i e h; simp at h
  | cons a l ih =>
    intro i e h
    rw [sizes_cons]
    cases i with
    | zero => simp at h; subst h; omega
    | succ i => have := ih i e (by simpa using h); omega
theorem size_part {e p : PT} {i : Nat} (h : e.parts[i]? = some p) : p.size < e.size := by
  cases e with
  | mk k n s l => rw [size_mk]; have := size_get l i p h; omega
inductive Fit : PT → Prop
  | mk (k : Int) (n e : List ByteArray) (l : List PT) (hn : n.length ≤ 1000) (he : e.length ≤ 1000) (hl : l.length ≤ 1000) (h : ∀ (i : Nat) (p : PT), l[i]? = some p → Fit p) : Fit (.mk k n e l)
theorem Fit.lens {e : PT} (h : Fit e) : e.names.length ≤ 1000 ∧ e.ends.length ≤ 1000 ∧ e.parts.length ≤ 1000 := by cases h; exact ⟨by assumption, by assumption, by assumption⟩
theorem Fit.part {e p : PT} {i : Nat} (h : Fit e) (hp : e.parts[i]? = some p) : Fit p := by cases h with | mk k n s l hn he hl h => exact h i p hp
end PT
def strs (l : List ByteArray) : List Value := l.map Value.string
theorem strs_get {l : List ByteArray} {i : Nat} {s : ByteArray} (h : l[i]? = some s) : (strs l)[i]? = some (.string s) := by simp only [strs, List.getElem?_map, h, Option.map_some]
theorem strs_len (l : List ByteArray) : (strs l).length = l.length := by simp [strs]
def quad (l : List (Int × Value × Value × Value)) : List Value := l.flatMap fun p => [.int .i64 p.1, p.2.1, p.2.2.1, p.2.2.2]
theorem quad_cons (p : Int × Value × Value × Value) (l : List (Int × Value × Value × Value)) : quad (p :: l) = [.int .i64 p.1, p.2.1, p.2.2.1, p.2.2.2] ++ quad l := by simp [quad]
theorem quad_get : ∀ (l : List (Int × Value × Value × Value)) (k : Nat) (p : Int × Value × Value × Value), l[k]? = some p → (quad l)[k * 4]? = some (.int .i64 p.1) ∧ (quad l)[k * 4 + 1]? = some p.2.1 ∧ (quad l)[k * 4 + 2]? = some p.2.2.1 ∧ (quad l)[k * 4 + 3]? = some p.2.2.2 := by
  intro l
  induction l with
  | nil => intro k p h; simp at h
  | cons q l ih =>
    intro k p h
    rw [quad_cons]
    cases k with
    | zero => simp at h; subst h; simp
    | succ k =>
      have := ih k p (by simpa using h)
      refine ⟨?_, ?_, ?_, ?_⟩ <;> rw [List.getElem?_append_right (by simp; omega)]
      · rw [← this.1]; congr 1; simp; omega
      · rw [← this.2.1]; congr 1; simp; omega
      · rw [← this.2.2.1]; congr 1; simp; omega
      · rw [← this.2.2.2]; congr 1; simp; omega
inductive PtIs (w : World) : PT → Value → Value → Value → Prop
  | mk (k : Int) (n e : List ByteArray) (l : List PT) (nv ev lv : Value) (ps : List (Int × Value × Value × Value)) (hns : Row w nv n.length (strs n)) (hes : Row w ev e.length (strs e)) (hl : Row w lv l.length (quad ps)) (hn : ps.length = l.length)
      (hk : ∀ (i : Nat) (c : PT) (p : Int × Value × Value × Value), l[i]? = some c → ps[i]? = some p → c.kind = p.1) (ih : ∀ (i : Nat) (c : PT) (p : Int × Value × Value × Value), l[i]? = some c → ps[i]? = some p → PtIs w c p.2.1 p.2.2.1 p.2.2.2) : PtIs w (.mk k n e l) nv ev lv
theorem PtIs.moved {w w' : World} {e : PT} {nv ev lv : Value} (h : PtIs w e nv ev lv) (hb : Below w.heap.size w w') : PtIs w' e nv ev lv := by
  induction h with
  | mk k n s l nv ev lv ps hns hes hl hn hk ih h => exact .mk k n s l nv ev lv ps (hns.below hb) (hes.below hb) (hl.below hb) hn hk (fun i e p he hp => h i e p he hp)
theorem PtIs.names {w : World} {e : PT} {nv ev lv : Value} (h : PtIs w e nv ev lv) : Row w nv e.names.length (strs e.names) := by cases h; assumption
theorem PtIs.ends {w : World} {e : PT} {nv ev lv : Value} (h : PtIs w e nv ev lv) : Row w ev e.ends.length (strs e.ends) := by cases h; assumption
theorem PtIs.form {w : World} {e : PT} {nv ev lv : Value} (h : PtIs w e nv ev lv) : (∃ o c, nv = .slice o e.names.length c) ∧ (∃ o c, ev = .slice o e.ends.length c) ∧ (∃ o c, lv = .slice o e.parts.length c) := by
  cases h with
  | mk k n s l nv ev lv ps hns hes hl hn hk ih =>
    obtain ⟨o, c, rfl, _⟩ := hns
    obtain ⟨o', c', rfl, _⟩ := hes
    obtain ⟨o'', c'', rfl, _⟩ := hl
    exact ⟨⟨o, c, rfl⟩, ⟨o', c', rfl⟩, ⟨o'', c'', rfl⟩⟩
def slO : Value → Option Addr | .slice o _ _ => o | _ => none
def slN : Value → Nat | .slice _ n _ => n | _ => 0
def slC : Value → Nat | .slice _ _ c => c | _ => 0
theorem PtIs.row4 {w : World} {e : PT} {nv ev lv : Value} (h : PtIs w e nv ev lv) : ∃ (o : Option Addr) (cap : Nat) (k : Nat → Int) (no : Nat → Option Addr) (nn nc : Nat → Nat) (eo : Nat → Option Addr) (en ec : Nat → Nat) (lo : Nat → Option Addr) (ln lc : Nat → Nat), lv = .slice o e.parts.length cap ∧
    ∀ (i : Nat) (p : PT), e.parts[i]? = some p → k i = p.kind ∧ PtIs w p (.slice (no i) (nn i) (nc i)) (.slice (eo i) (en i) (ec i)) (.slice (lo i) (ln i) (lc i)) ∧ ∃ b off, o = some ⟨b, off, none⟩ ∧ b < w.heap.size ∧
      w.cell? ⟨b, off + i * 4, none⟩ = some (.int .i64 (k i)) ∧ w.cell? ⟨b, off + i * 4 + 1, none⟩ = some (.slice (no i) (nn i) (nc i)) ∧ w.cell? ⟨b, off + i * 4 + 2, none⟩ = some (.slice (eo i) (en i) (ec i)) ∧ w.cell? ⟨b, off + i * 4 + 3, none⟩ = some (.slice (lo i) (ln i) (lc i)) := by
  cases h with
  | mk k n s l nv ev lv ps hns hes hl hn hk ih =>
    have hl2 := hl
    obtain ⟨o, cap, rfl, _⟩ := hl2
    refine ⟨o, cap, fun i => (ps.getD i (0, .nilIface, .nilIface, .nilIface)).1, fun i => slO (ps.getD i (0, .nilIface, .nilIface, .nilIface)).2.1, fun i => slN (ps.getD i (0, .nilIface, .nilIface, .nilIface)).2.1, fun i => slC (ps.getD i (0, .nilIface, .nilIface, .nilIface)).2.1,
      fun i => slO (ps.getD i (0, .nilIface, .nilIface, .nilIface)).2.2.1, fun i => slN (ps.getD i (0, .nilIface, .nilIface, .nilIface)).2.2.1, fun i => slC (ps.getD i (0, .nilIface, .nilIface, .nilIface)).2.2.1,
      fun i => slO (ps.getD i (0, .nilIface, .nilIface, .nilIface)).2.2.2, fun i => slN (ps.getD i (0, .nilIface, .nilIface, .nilIface)).2.2.2, fun i => slC (ps.getD i (0, .nilIface, .nilIface, .nilIface)).2.2.2, rfl, fun i p hp => ?_⟩
    have hi : i < l.length := (List.getElem?_eq_some_iff.1 hp).1
    obtain ⟨b, off, cap', e, hb, hc⟩ := hl.cells' (by omega)
    simp only [Value.slice.injEq, true_and] at e
    obtain ⟨rfl, rfl⟩ := e
    obtain ⟨q, hq⟩ : ∃ q, ps[i]? = some q := ⟨ps[i], List.getElem?_eq_getElem (by omega)⟩
    have hd : ps.getD i (0, .nilIface, .nilIface, .nilIface) = q := by rw [List.getD, hq]; rfl
    have g := quad_get ps i q hq
    have hpi := ih i p q hp hq
    obtain ⟨⟨x1, y1, e1⟩, ⟨x2, y2, e2⟩, ⟨x3, y3, e3⟩⟩ := hpi.form
    have g0 := hc _ _ g.1
    have g1 := hc _ _ g.2.1
    have g2 := hc _ _ g.2.2.1
    have g3 := hc _ _ g.2.2.2
    simp only [hd]
    rw [e1, e2, e3] at hpi
    rw [e1] at g1
    rw [e2] at g2
    rw [e3] at g3
    rw [e1, e2, e3]
    exact ⟨(hk i p q hp hq).symm, hpi, b, off, rfl, hb, g0, by rw [Nat.add_assoc]; exact g1, by rw [Nat.add_assoc]; exact g2, by rw [Nat.add_assoc]; exact g3⟩

theorem bytes_ne {x y : ByteArray} (h : x ≠ y) : (x.toList == y.toList) = false := by
  rw [beq_eq_false_iff_ne]
  intro e
  rw [ByteArray.toList_eq, ByteArray.toList_eq] at e
  exact h (ByteArray.ext (Array.toList_inj.1 e))
end Go.Proofs.YtbanmggkfpnalaaGreatDoor
