/- What the laws of printing and reading back ask, of the trees: plain mathematics. -/
import Derived.Test.YtahckikemljlnaaGreatDoorPmDet
set_option linter.unusedVariables false
set_option linter.unusedSimpArgs false
namespace Go.Proofs.YtahckikemljlnaaGreatDoor
open Go.RowKit De Wd Ru

namespace Pm
/-- a set in normal form is an expression that is printed and read back -/
theorem set_prt {l : List (Int × Int)} (h1 : (nrm l).length ≠ 0) (h2 : (nrm l).length ≤ 20) :
    (RE.mk 2 (nrm l) []).prt = true ∧ (RE.mk 2 (nrm l) []).nn = false ∧ (RE.mk 2 (nrm l) []).dep ≤ 20 ∧ (RE.mk 2 (nrm l) []).text = setB (nrm l) := by
  have hm : mayB (nrm l) = true := may_of (nrm_norm l)
  refine ⟨?_, ?_, ?_, ?_⟩
  · rw [RE.prt_eq]
    show (RE.shp (.mk 2 (nrm l) []) && RE.prtL []) = true
    rw [RE.prtL_nil]
    unfold RE.shp
    simp [RE.kind, RE.set, RE.parts, hm, h2]
    cases hq : nrm l with
    | nil => rw [hq] at h1; simp at h1
    | cons x u => simp
  · rw [RE.nn_eq]
    have : RE.nnL (RE.mk 2 (nrm l) []).parts = false := RE.nnL_not (fun i hi => by simp [RE.parts] at hi)
    rw [this]
    simp [RE.kind]
  · rw [RE.dep_eq]
    show RE.deps [] + 1 ≤ 20
    rw [RE.deps_nil0]; omega
  · rw [RE.text_eq]; rfl
/-- an expression that may be, without RNone, is printed and read back -/
theorem may_back {e : RE} (h : e.may = true) : e.prt = true ∧ e.dep ≤ 20 ∧ e.size ≤ 60 := by
  have := ((RE.vis_both e.size e (Nat.le_refl _) 0 1).1).1 h
  exact ⟨this.2.2, by omega, by omega⟩
/-- unlike expressions that may be have unlike texts -/
theorem texts_eq {a b : RE} (ha : a.may = true) (hb : b.may = true) (na : a.nn = false) (nb : b.nn = false) : a.text = b.text ↔ a = b := by
  obtain ⟨a1, a2, _⟩ := may_back ha
  obtain ⟨b1, b2, _⟩ := may_back hb
  exact ⟨fun h => text_inj a1 na a2 b1 nb b2 h, fun h => by rw [h]⟩
end Pm
end Go.Proofs.YtahckikemljlnaaGreatDoor
