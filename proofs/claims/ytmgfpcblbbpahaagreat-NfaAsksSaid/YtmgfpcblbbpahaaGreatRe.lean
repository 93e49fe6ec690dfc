/- Expressions as trees; how a value holds one in memory. No Go function in sight. -/
import Derived.Test.YtmgfpcblbbpahaaGreatPairRow
import Derived.WalkKit
import Derived.Lib.Hide
set_option linter.unusedVariables false
set_option linter.unusedSimpArgs false
namespace Go.Proofs.YtmgfpcblbbpahaaGreat
open Go.RowKit

/-- an expression: its kind, its set, its parts -/
inductive RE where
  | mk (k : Int) (s : List (Int × Int)) (l : List RE)
namespace RE
def kind : RE → Int | mk k _ _ => k
def set : RE → List (Int × Int) | mk _ s _ => s
def parts : RE → List RE | mk _ _ l => l
mutual
def size : RE → Nat
  | mk _ _ l => sizes l + 1
def sizes : List RE → Nat
  | [] => 0
  | e :: l => size e + sizes l
end
theorem size_mk (k : Int) (s : List (Int × Int)) (l : List RE) : (mk k s l).size = sizes l + 1 := by rw [size]
theorem sizes_nil : sizes [] = 0 := by rw [sizes]
theorem sizes_cons (e : RE) (l : List RE) : sizes (e :: l) = e.size + sizes l := by rw [sizes]
theorem size_pos (e : RE) : 1 ≤ e.size := by cases e; rw [size_mk]; omega
theorem size_get : ∀ (l : List RE) (i : Nat) (e : RE), l[i]? = some e → e.size ≤ sizes l := by
  intro l
  induction l with
  | nil => intro i e h; simp at h
  | cons a l ih =>
    intro i e h
    rw [sizes_cons]
    cases i with
    | zero => simp at h; subst h; omega
    | succ i => have := ih i e (by simpa using h); omega
theorem size_part {e p : RE} {i : Nat} (h : e.parts[i]? = some p) : p.size < e.size := by
  cases e with
  | mk k s l => rw [size_mk]; have := size_get l i p h; omega
end RE
/-- the cells of the parts: three each -/
def trip (l : List (Int × Value × Value)) : List Value := l.flatMap fun p => [.int .i64 p.1, p.2.1, p.2.2]
theorem trip_cons (p : Int × Value × Value) (l : List (Int × Value × Value)) : trip (p :: l) = [.int .i64 p.1, p.2.1, p.2.2] ++ trip l := by simp [trip]
theorem trip_get : ∀ (l : List (Int × Value × Value)) (k : Nat) (p : Int × Value × Value), l[k]? = some p → (trip l)[k * 3]? = some (.int .i64 p.1) ∧ (trip l)[k * 3 + 1]? = some p.2.1 ∧ (trip l)[k * 3 + 2]? = some p.2.2 := by
  intro l
  induction l with
  | nil => intro k p h; simp at h
  | cons q l ih =>
    intro k p h
    rw [trip_cons]
    cases k with
    | zero => simp at h; subst h; simp
    | succ k =>
      have := ih k p (by simpa using h)
      refine ⟨?_, ?_, ?_⟩ <;> rw [List.getElem?_append_right (by simp; omega)]
      · rw [← this.1]; congr 1; simp; omega
      · rw [← this.2.1]; congr 1; simp; omega
      · rw [← this.2.2]; congr 1; simp; omega
/-- the set and the parts of a value hold a tree -/
inductive ReIs (w : World) : RE → Value → Value → Prop
  | mk (k : Int) (s : List (Int × Int)) (l : List RE) (sv lv : Value) (ps : List (Int × Value × Value)) (hs : Row w sv s.length (flatK .i32 s)) (hl : Row w lv l.length (trip ps)) (hn : ps.length = l.length)
      (hk : ∀ (i : Nat) (e : RE) (p : Int × Value × Value), l[i]? = some e → ps[i]? = some p → e.kind = p.1) (ih : ∀ (i : Nat) (e : RE) (p : Int × Value × Value), l[i]? = some e → ps[i]? = some p → ReIs w e p.2.1 p.2.2) : ReIs w (.mk k s l) sv lv
theorem ReIs.moved {w w' : World} {e : RE} {sv lv : Value} (h : ReIs w e sv lv) (hb : Below w.heap.size w w') : ReIs w' e sv lv := by
  induction h with
  | mk k s l sv lv ps hs hl hn hk ih h => exact .mk k s l sv lv ps (hs.below hb) (hl.below hb) hn hk (fun i e p he hp => h i e p he hp)
theorem ReIs.set {w : World} {e : RE} {sv lv : Value} (h : ReIs w e sv lv) : Row w sv e.set.length (flatK .i32 e.set) := by cases h; assumption
theorem ReIs.form {w : World} {e : RE} {sv lv : Value} (h : ReIs w e sv lv) : (∃ o c, sv = .slice o e.set.length c) ∧ (∃ o c, lv = .slice o e.parts.length c) := by
  cases h with
  | mk k s l sv lv ps hs hl hn hk ih =>
    obtain ⟨o, c, rfl, _⟩ := hs
    obtain ⟨o', c', rfl, _⟩ := hl
    exact ⟨⟨o, c, rfl⟩, ⟨o', c', rfl⟩⟩
theorem Row.cells' {w : World} {v : Value} {n : Nat} {cs : List Value} (h : Row w v n cs) (hn : 0 < n) : ∃ b off cap, v = .slice (some ⟨b, off, none⟩) n cap ∧ b < w.heap.size ∧ ∀ j u, cs[j]? = some u → w.cell? ⟨b, off + j, none⟩ = some u := by
  obtain ⟨o, cap, rfl, h1, h2, h3⟩ := h
  rcases h3 with ⟨h0, _⟩ | ⟨b, off, rfl, hb, hc⟩
  · omega
  · exact ⟨b, off, cap, rfl, hb, hc⟩
theorem ReIs.part {w : World} {e : RE} {sv lv : Value} (h : ReIs w e sv lv) {i : Nat} {p : RE} (hp : e.parts[i]? = some p) :
    ∃ b off cap s' l', lv = .slice (some ⟨b, off, none⟩) e.parts.length cap ∧ b < w.heap.size ∧ w.cell? ⟨b, off + i * 3, none⟩ = some (.int .i64 p.kind) ∧ w.cell? ⟨b, off + i * 3 + 1, none⟩ = some s' ∧ w.cell? ⟨b, off + i * 3 + 2, none⟩ = some l' ∧ ReIs w p s' l' := by
  cases h with
  | mk k s l sv lv ps hs hl hn hk ih =>
    have hi : i < l.length := (List.getElem?_eq_some_iff.1 hp).1
    obtain ⟨b, off, cap, rfl, hb, hc⟩ := hl.cells' (by omega)
    obtain ⟨q, hq⟩ : ∃ q, ps[i]? = some q := ⟨ps[i], List.getElem?_eq_getElem (by omega)⟩
    have g := trip_get ps i q hq
    refine ⟨b, off, cap, q.2.1, q.2.2, rfl, hb, ?_, ?_, ?_, ih i p q hp hq⟩
    · rw [hk i p q hp hq]; exact hc _ _ g.1
    · have := hc _ _ g.2.1; simpa [Nat.add_assoc] using this
    · have := hc _ _ g.2.2; simpa [Nat.add_assoc] using this
end Go.Proofs.YtmgfpcblbbpahaaGreat
