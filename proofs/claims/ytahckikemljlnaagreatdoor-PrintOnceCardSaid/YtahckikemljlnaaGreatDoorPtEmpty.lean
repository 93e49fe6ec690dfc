/- gram: Empty, shaped. -/
import Derived.Test.YtahckikemljlnaaGreatDoorPtFits
set_option linter.unusedVariables false
set_option linter.unusedSimpArgs false
namespace Go.Proofs.YtahckikemljlnaaGreatDoor
open Go.RowKit Ru

namespace PT
mutual
/-- may a pattern be of nothing -/
def emp : PT → Bool
  | .mk k n e l => if k = 1 ∨ k = 4 ∨ k = 7 then true else if k = 5 then (decide (l.length = 2) && allE l) else if k = 6 then anyE l else false
def anyE : List PT → Bool
  | [] => false
  | e :: l => emp e || anyE l
def allE : List PT → Bool
  | [] => true
  | e :: l => emp e && allE l
end
theorem emp_eq (e : PT) : e.emp = if e.kind = 1 ∨ e.kind = 4 ∨ e.kind = 7 then true else if e.kind = 5 then (decide (e.parts.length = 2) && allE e.parts) else if e.kind = 6 then anyE e.parts else false := by cases e; rw [emp]; rfl
theorem anyE_iff (l : List PT) : anyE l = true ↔ ∃ (i : Nat) (e : PT), l[i]? = some e ∧ e.emp = true := by
  induction l with
  | nil => rw [anyE]; simp
  | cons a l ih =>
    rw [anyE, Bool.or_eq_true, ih]
    constructor
    · rintro (h | ⟨i, e, h1, h2⟩)
      · exact ⟨0, a, rfl, h⟩
      · exact ⟨i + 1, e, by simpa using h1, h2⟩
    · rintro ⟨i, e, h1, h2⟩
      cases i with
      | zero => simp at h1; subst h1; exact .inl h2
      | succ i => exact .inr ⟨i, e, by simpa using h1, h2⟩
end PT
end Go.Proofs.YtahckikemljlnaaGreatDoor
