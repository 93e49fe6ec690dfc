/- The document's patterns: goboref11.texts, SamePat, Empty, CountPat. -/
import Derived.Test.YtahckikemljlnaaGreatDoorPtCount
import Derived.Test.YtahckikemljlnaaGreatDoorPtEmpty
import Derived.Test.YtahckikemljlnaaGreatDoorPtSame
import Derived.Deep.RegionHeld3
import Derived.Deep.DeepCutAuto
set_option linter.unusedVariables false
set_option linter.unusedSimpArgs false
namespace Go.Proofs.YtahckikemljlnaaGreatDoor
open Go.RowKit Ru

namespace PT
end PT
namespace PT
mutual
def dep : PT → Nat
  | .mk _ _ _ l => deps l + 1
def deps : List PT → Nat
  | [] => 0
  | e :: l => max (dep e) (deps l)
end
theorem dep_eq (e : PT) : e.dep = deps e.parts + 1 := by cases e; rw [dep]; rfl
theorem deps_snoc : ∀ (l : List PT) (e : PT), deps (l ++ [e]) = max (deps l) e.dep := by
  intro l
  induction l with
  | nil => intro e; rw [List.nil_append, deps, deps]; simp [deps]
  | cons a l ih => intro e; rw [List.cons_append, deps, ih, deps]; omega
theorem sizes_snoc : ∀ (l : List PT) (e : PT), sizes (l ++ [e]) = sizes l + e.size := by
  intro l
  induction l with
  | nil => intro e; rw [List.nil_append, sizes_cons, sizes_nil]; omega
  | cons a l ih => intro e; rw [List.cons_append, sizes_cons, ih, sizes_cons]; omega
theorem sizes_take : ∀ (l : List PT) (k : Nat), sizes (l.take k) ≤ sizes l := by
  intro l
  induction l with
  | nil => intro k; simp
  | cons a l ih =>
    intro k
    cases k with
    | zero => rw [List.take_zero, sizes_nil]; omega
    | succ k => rw [List.take_succ_cons, sizes_cons, sizes_cons]; have := ih k; omega
theorem dep_le : ∀ (N : Nat) (e : PT), e.size ≤ N → e.dep ≤ e.size := by
  intro N
  induction N with
  | zero => intro e h; have := e.size_pos; omega
  | succ N ih =>
    have all : ∀ l : List PT, sizes l ≤ N → deps l ≤ sizes l := by
      intro l
      induction l with
      | nil => intro _; rw [deps]; omega
      | cons a l ihl => intro h; rw [sizes_cons] at h ⊢; rw [deps]; have := ih a (by omega); have := ihl (by omega); omega
    intro e h
    rw [size_sizes] at h ⊢
    rw [dep_eq]
    have := all e.parts (by omega)
    omega
theorem take_snoc {l : List PT} {k : Nat} {p : PT} (h : l[k]? = some p) : l.take (k + 1) = l.take k ++ [p] := by rw [List.take_add_one, h]; rfl
end PT
end Go.Proofs.YtahckikemljlnaaGreatDoor
