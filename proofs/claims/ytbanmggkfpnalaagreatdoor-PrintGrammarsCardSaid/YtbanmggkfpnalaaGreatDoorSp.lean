/- The rules by which a state's cells are turned, as one. -/
import Derived.Test.YtbanmggkfpnalaaGreatDoorRowsOf
set_option linter.unusedVariables false
set_option linter.unusedSimpArgs false
namespace Go.Proofs.YtbanmggkfpnalaaGreatDoor

theorem sp {α : Type} : (∀ (l : List α) (i : Nat) (a : α), l.toArray.setIfInBounds i a = (l.set i a).toArray) ∧ (∀ (x a : α) (l : List α), (x :: l).set 0 a = a :: l) ∧ (∀ (x a : α) (l : List α) (n : Nat), (x :: l).set (n + 1) a = x :: l.set n a) ∧
    (∀ (l : List α) (i : Nat) (h : i < l.toArray.size), l.toArray[i] = l[i]'(by simpa using h)) ∧ (∀ (x : α) (l : List α) (i : Nat) (h : i + 1 < (x :: l).length), (x :: l)[i + 1] = l[i]'(by simpa using h)) ∧ (∀ (x : α) (l : List α) (h : 0 < (x :: l).length), (x :: l)[0] = x) :=
  ⟨fun l i a => List.setIfInBounds_toArray l i a, fun x a l => rfl, fun x a l n => rfl, fun l i h => rfl, fun x l i h => rfl, fun x l h => rfl⟩
end Go.Proofs.YtbanmggkfpnalaaGreatDoor
