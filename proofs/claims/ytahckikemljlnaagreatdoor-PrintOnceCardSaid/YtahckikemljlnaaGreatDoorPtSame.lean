/- gram: SamePat. -/
import Derived.Test.YtahckikemljlnaaGreatDoorPt
set_option linter.unusedVariables false
set_option linter.unusedSimpArgs false
namespace Go.Proofs.YtahckikemljlnaaGreatDoor
open Go.RowKit Ru

namespace PT
mutual
/-- are two trees the same -/
def same : PT → PT → Bool
  | .mk k n e l, f => decide (k = f.kind) && (decide (n = f.names) && (decide (e = f.ends) && (decide (l.length = f.parts.length) && sameL l f.parts)))
def sameL : List PT → List PT → Bool
  | [], _ => true
  | a :: l, m => match m with
    | [] => true
    | b :: m => same a b && sameL l m
end
theorem same_eq (e f : PT) : e.same f = (decide (e.kind = f.kind) && (decide (e.names = f.names) && (decide (e.ends = f.ends) && (decide (e.parts.length = f.parts.length) && sameL e.parts f.parts)))) := by cases e; rw [same]; rfl
theorem sameL_iff : ∀ (l m : List PT), sameL l m = true ↔ ∀ (i : Nat) (a b : PT), l[i]? = some a → m[i]? = some b → same a b = true := by
  intro l
  induction l with
  | nil => intro m; rw [sameL]; simp
  | cons x l ih =>
    intro m
    cases m with
    | nil => rw [sameL]; simp
    | cons y m =>
      rw [sameL, Bool.and_eq_true, ih m]
      constructor
      · rintro ⟨h1, h2⟩ i a b ha hb
        cases i with
        | zero => simp at ha hb; subst ha; subst hb; exact h1
        | succ i => exact h2 i a b (by simpa using ha) (by simpa using hb)
      · intro h
        exact ⟨h 0 x y rfl rfl, fun i a b ha hb => h (i + 1) a b (by simpa using ha) (by simpa using hb)⟩
theorem same_iff : ∀ (N : Nat) (a b : PT), a.size ≤ N → (same a b = true ↔ a = b) := by
  intro N
  induction N with
  | zero => intro a b h; have := a.size_pos; omega
  | succ N ih =>
    intro a b hs
    rw [same_eq]
    simp only [Bool.and_eq_true, decide_eq_true_eq, sameL_iff]
    constructor
    · rintro ⟨h1, h2, h5, h3, h4⟩
      cases a with
      | mk k s e l =>
        cases b with
        | mk k' s' e' l' =>
          simp only [kind, names, ends, parts] at h1 h2 h3 h4 h5
          subst h1; subst h2; subst h5
          congr 1
          refine List.ext_getElem h3 (fun i h5 h6 => ?_)
          refine (ih _ _ ?_).1 (h4 i _ _ (List.getElem?_eq_getElem h5) (List.getElem?_eq_getElem h6))
          have := size_part (e := .mk k s e l) (List.getElem?_eq_getElem h5)
          omega
    · rintro rfl
      refine ⟨rfl, rfl, rfl, rfl, fun i x y hx hy => ?_⟩
      rw [hx] at hy
      cases hy
      have := size_part hx
      exact (ih _ _ (by omega)).2 rfl
end PT
end Go.Proofs.YtahckikemljlnaaGreatDoor
