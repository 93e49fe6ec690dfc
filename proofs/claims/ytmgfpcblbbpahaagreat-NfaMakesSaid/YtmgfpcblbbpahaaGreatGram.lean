/- Grammars; how a value holds one; gram.Find. -/
import Derived.Test.YtmgfpcblbbpahaaGreatReMark
import Derived.Laws.EntriesVeiled
set_option linter.unusedVariables false
set_option linter.unusedSimpArgs false
namespace Go.Proofs.YtmgfpcblbbpahaaGreat
open Go.RowKit Ru

namespace RE
mutual
def same : RE → RE → Bool
  | .mk k s l, f => decide (k = f.kind) && (decide (s = f.set) && (decide (l.length = f.parts.length) && sameL l f.parts))
def sameL : List RE → List RE → Bool
  | [], _ => true
  | a :: l, m => match m with
    | [] => true
    | b :: m => same a b && sameL l m
end
end RE
end Go.Proofs.YtmgfpcblbbpahaaGreat

namespace Go.Proofs.YtmgfpcblbbpahaaGreat
open Go.RowKit Ru

inductive PT where
  | mk (k : Int) (ns es : List ByteArray) (l : List PT)
namespace PT
def kind : PT → Int | mk k _ _ _ => k
def names : PT → List ByteArray | mk _ n _ _ => n
def ends : PT → List ByteArray | mk _ _ e _ => e
def parts : PT → List PT | mk _ _ _ l => l
mutual
def size : PT → Nat
  | mk _ _ _ l => sizes l + 1
def sizes : List PT → Nat
  | [] => 0
  | e :: l => size e + sizes l
end
theorem size_mk (k : Int) (n e : List ByteArray) (l : List PT) : (mk k n e l).size = sizes l + 1 := by rw [size]
theorem sizes_nil : sizes [] = 0 := by rw [sizes]
theorem sizes_cons (e : PT) (l : List PT) : sizes (e :: l) = e.size + sizes l := by rw [sizes]
theorem size_pos (e : PT) : 1 ≤ e.size := by cases e; rw [size_mk]; omega
theorem size_get : ∀ (l : List PT) (i : Nat) (e : PT), l[i]? = some e → e.size ≤ sizes l := by
  intro l
  induction l with
  | nil => intro i e h; simp at h
  | cons a l ih =>
    intro i e h
    rw [sizes_cons]
    cases i with
    | zero => simp at h; subst h; omega
    | succ i => have := ih i e (by simpa using h); omega
theorem size_part {e p : PT} {i : Nat} (h : e.parts[i]? = some p) : p.size < e.size := by
  cases e with
  | mk k n s l => rw [size_mk]; have := size_get l i p h; omega
inductive Fit : PT → Prop
  | mk (k : Int) (n e : List ByteArray) (l : List PT) (hn : n.length ≤ 1000) (he : e.length ≤ 1000) (hl : l.length ≤ 1000) (h : ∀ (i : Nat) (p : PT), l[i]? = some p → Fit p) : Fit (.mk k n e l)
theorem Fit.part {e p : PT} {i : Nat} (h : Fit e) (hp : e.parts[i]? = some p) : Fit p := by cases h with | mk k n s l hn he hl h => exact h i p hp
end PT
def strs (l : List ByteArray) : List Value := l.map Value.string
def quad (l : List (Int × Value × Value × Value)) : List Value := l.flatMap fun p => [.int .i64 p.1, p.2.1, p.2.2.1, p.2.2.2]
inductive PtIs (w : World) : PT → Value → Value → Value → Prop
  | mk (k : Int) (n e : List ByteArray) (l : List PT) (nv ev lv : Value) (ps : List (Int × Value × Value × Value)) (hns : Row w nv n.length (strs n)) (hes : Row w ev e.length (strs e)) (hl : Row w lv l.length (quad ps)) (hn : ps.length = l.length)
      (hk : ∀ (i : Nat) (c : PT) (p : Int × Value × Value × Value), l[i]? = some c → ps[i]? = some p → c.kind = p.1) (ih : ∀ (i : Nat) (c : PT) (p : Int × Value × Value × Value), l[i]? = some c → ps[i]? = some p → PtIs w c p.2.1 p.2.2.1 p.2.2.2) : PtIs w (.mk k n e l) nv ev lv
theorem PtIs.names {w : World} {e : PT} {nv ev lv : Value} (h : PtIs w e nv ev lv) : Row w nv e.names.length (strs e.names) := by cases h; assumption
theorem PtIs.ends {w : World} {e : PT} {nv ev lv : Value} (h : PtIs w e nv ev lv) : Row w ev e.ends.length (strs e.ends) := by cases h; assumption
theorem PtIs.form {w : World} {e : PT} {nv ev lv : Value} (h : PtIs w e nv ev lv) : (∃ o c, nv = .slice o e.names.length c) ∧ (∃ o c, ev = .slice o e.ends.length c) ∧ (∃ o c, lv = .slice o e.parts.length c) := by
  cases h with
  | mk k n s l nv ev lv ps hns hes hl hn hk ih =>
    obtain ⟨o, c, rfl, _⟩ := hns
    obtain ⟨o', c', rfl, _⟩ := hes
    obtain ⟨o'', c'', rfl, _⟩ := hl
    exact ⟨⟨o, c, rfl⟩, ⟨o', c', rfl⟩, ⟨o'', c'', rfl⟩⟩
end Go.Proofs.YtmgfpcblbbpahaaGreat

namespace Go.Proofs.YtmgfpcblbbpahaaGreat
open Go.RowKit Ru

namespace PT
mutual
def same : PT → PT → Bool
  | .mk k n e l, f => decide (k = f.kind) && (decide (n = f.names) && (decide (e = f.ends) && (decide (l.length = f.parts.length) && sameL l f.parts)))
def sameL : List PT → List PT → Bool
  | [], _ => true
  | a :: l, m => match m with
    | [] => true
    | b :: m => same a b && sameL l m
end
end PT
end Go.Proofs.YtmgfpcblbbpahaaGreat

namespace Go.Proofs.YtmgfpcblbbpahaaGreat
open Go.RowKit Ru

structure TK where
  name : ByteArray
  kind : Int
  cls : Int
  re : RE
structure ST where
  calls : List ByteArray
  p : PT
structure RU where
  cls : Int
  free : Bool
  steps : List ST
theorem fm_get {α : Type} (f : α → List Value) (W : Nat) (hW : ∀ a, (f a).length = W) : ∀ (l : List α) (i j : Nat) (a : α), l[i]? = some a → j < W → (l.flatMap f)[i * W + j]? = (f a)[j]? := by
  intro l
  induction l with
  | nil => intro i j a h; simp at h
  | cons x l ih =>
    intro i j a h hj
    rw [List.flatMap_cons]
    cases i with
    | zero => simp at h; subst h; rw [Nat.zero_mul, Nat.zero_add, List.getElem?_append_left (by rw [hW]; exact hj)]
    | succ i =>
      rw [List.getElem?_append_right (by rw [hW, Nat.succ_mul]; omega), hW, ← ih i j a (by simpa using h) hj]
      congr 1
      rw [Nat.succ_mul]; omega
def five (p : ST × Value × Value × Value × Value) : List Value := [p.2.1, .int .i64 p.1.p.kind, p.2.2.1, p.2.2.2.1, p.2.2.2.2]
def three (p : RU × Value) : List Value := [.int .i64 p.1.cls, .bool p.1.free, p.2]
def StsAre (w : World) (v : Value) (l : List ST) : Prop := ∃ ps : List (ST × Value × Value × Value × Value), ps.map (·.1) = l ∧ Row w v l.length (ps.flatMap five) ∧
  ∀ (i : Nat) (p : ST × Value × Value × Value × Value), ps[i]? = some p → Row w p.2.1 p.1.calls.length (strs p.1.calls) ∧ PtIs w p.1.p p.2.2.1 p.2.2.2.1 p.2.2.2.2
def RusAre (w : World) (v : Value) (l : List RU) : Prop := ∃ ps : List (RU × Value), ps.map (·.1) = l ∧ Row w v l.length (ps.flatMap three) ∧ ∀ (i : Nat) (p : RU × Value), ps[i]? = some p → StsAre w p.2 p.1.steps
def findB (l : List TK) (s : ByteArray) : Int := match l.findIdx? (fun t => decide (t.name = s)) with | some i => i | none => -1
end Go.Proofs.YtmgfpcblbbpahaaGreat
