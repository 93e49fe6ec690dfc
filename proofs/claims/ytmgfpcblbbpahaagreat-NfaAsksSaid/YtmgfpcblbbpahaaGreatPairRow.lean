/- Slices of pairs of whole numbers as lists: lemmas on their cells. No program's numbers. -/
import Derived.Test.YtmgfpcblbbpahaaGreatRowsOf
import Derived.ChangeSlices
import Derived.ChangeSame
import Derived.ChangeArms
import Derived.Deep.Slices
import Derived.Lib.SmallJoins
import Derived.WideShapes
import Derived.ProofKit
import Derived.OpenShut
import Derived.WalkKit
set_option linter.unusedVariables false
set_option linter.unusedSimpArgs false
namespace Go.Proofs.YtmgfpcblbbpahaaGreat
open Go.RowKit Go.ChangeShapes Go.WideShapes Go.ChangeAt Go.Deep Go.Joins

def flatK (k : IntKind) (l : List (Int × Int)) : List Value := l.flatMap fun p => [.int k p.1, .int k p.2]
end Go.Proofs.YtmgfpcblbbpahaaGreat

namespace Go.Proofs.YtmgfpcblbbpahaaGreat
open Go.RowKit

theorem flatK_cons (k : IntKind) (p : Int × Int) (l : List (Int × Int)) : flatK k (p :: l) = .int k p.1 :: .int k p.2 :: flatK k l := rfl
theorem flatK_nil (k : IntKind) : flatK k [] = [] := rfl
theorem flatK_append (k : IntKind) (a b : List (Int × Int)) : flatK k (a ++ b) = flatK k a ++ flatK k b := by simp [flatK]
theorem flatK_len (k : IntKind) : ∀ l : List (Int × Int), (flatK k l).length = l.length * 2
  | [] => rfl
  | p :: l => by rw [flatK_cons]; simp [flatK_len k l]; omega
theorem flatK_one (k : IntKind) : ∀ l : List (Int × Int), ∀ u ∈ flatK k l, u.oneCell' = true
  | [], u, h => by simp [flatK] at h
  | p :: l, u, h => by
    rw [flatK_cons] at h
    rcases List.mem_cons.1 h with rfl | h
    · rfl
    rcases List.mem_cons.1 h with rfl | h
    · rfl
    · exact flatK_one k l u h
theorem flatK_at (k : IntKind) : ∀ (l : List (Int × Int)) (i : Nat), i < l.length → (flatK k l)[i * 2]? = some (.int k (l.getD i (0, 0)).1) ∧ (flatK k l)[i * 2 + 1]? = some (.int k (l.getD i (0, 0)).2)
  | [], i, h => by simp at h
  | p :: l, 0, _ => by simp [flatK_cons]
  | p :: l, i + 1, h => by
    have := flatK_at k l i (by simpa using h)
    have e1 : (i + 1) * 2 = (i * 2) + 2 := by omega
    rw [e1, flatK_cons]
    simpa using this
theorem flatK_last (k : IntKind) (t : List (Int × Int)) (q : Int × Int) (x : Int) : (flatK k (t ++ [q])).set (t.length * 2 + 1) (.int k x) = flatK k (t ++ [(q.1, x)]) := by
  rw [flatK_append, flatK_append, List.set_append_right _ _ (by rw [flatK_len]; omega), flatK_len]
  simp [flatK_cons, flatK_nil]
theorem getD_snoc {α} (t : List α) (q d : α) : (t ++ [q]).getD t.length d = q := by simp [List.getD]
theorem Row.pair {w : World} {b off n cap : Nat} {k : IntKind} {l : List (Int × Int)} (h : Row w (.slice (some ⟨b, off, none⟩) n cap) n (flatK k l)) {i : Nat} (hi : i < l.length) (hn : n = l.length) :
    b < w.heap.size ∧ w.cell? ⟨b, off + i * 2, none⟩ = some (.int k (l.getD i (0, 0)).1) ∧ w.cell? ⟨b, off + i * 2 + 1, none⟩ = some (.int k (l.getD i (0, 0)).2) := by
  obtain ⟨o, c, e, h1, h2, h3⟩ := h
  simp only [Value.slice.injEq, true_and] at e
  obtain ⟨rfl, rfl⟩ := e
  rcases h3 with ⟨h0, _⟩ | ⟨b', off', e', hlt, hc⟩
  · omega
  · simp only [Option.some.injEq, Addr.mk.injEq, and_true] at e'
    obtain ⟨rfl, rfl⟩ := e'
    obtain ⟨c1, c2⟩ := flatK_at k l i hi
    exact ⟨hlt, hc _ _ c1, by rw [Nat.add_assoc]; exact hc _ _ c2⟩
theorem Row.head {w : World} {v : Value} {n : Nat} {cs : List Value} (h : Row w v n cs) (hn : 0 < n) : ∃ b off cap, v = .slice (some ⟨b, off, none⟩) n cap ∧ b < w.heap.size := by
  obtain ⟨o, c, e, h1, h2, h3⟩ := h
  rcases h3 with ⟨h0, _⟩ | ⟨b', off', e', hlt, hc⟩
  · omega
  · exact ⟨b', off', c, by rw [e, e'], hlt⟩
end Go.Proofs.YtmgfpcblbbpahaaGreat
