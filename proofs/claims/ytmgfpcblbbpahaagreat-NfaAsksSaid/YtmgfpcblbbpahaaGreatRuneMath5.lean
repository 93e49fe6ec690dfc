/- Sets of runes: what a cell is. No Go in sight. -/
import Derived.Test.YtmgfpcblbbpahaaGreatRuneMath4
set_option linter.unusedVariables false
set_option linter.unusedSimpArgs false
namespace Go.Proofs.YtmgfpcblbbpahaaGreat.Ru

theorem ends_gt {P : List Pc} (h : ∀ q ∈ P, 0 ≤ q.1 ∧ q.1 < q.2 ∧ q.2 ≤ 1112064) : ∀ z ∈ ends P, -1 < z := fun z hz => by
  obtain ⟨q, hq, e⟩ := (mem_ends P z).1 hz
  have := h q hq; omega
theorem map_pcOf_ok {C : List Pc} (h : ∀ q ∈ C, 0 ≤ q.1 ∧ q.1 < q.2 ∧ q.2 ≤ 1112064) : (rngs C).map pcOf = C := by
  unfold rngs
  rw [List.map_map]
  conv => rhs; rw [← List.map_id C]
  apply List.map_congr_left
  intro q hq
  have h1 := h q hq
  simp only [Function.comp, id]
  rw [pcOf_vlu h1.1 h1.2.1 h1.2.2]
end Go.Proofs.YtmgfpcblbbpahaaGreat.Ru
