/- runes: Norm, Not. -/
import Derived.Test.YtmgfpcblbbpahaaGreatRnPieces
import Derived.Test.YtmgfpcblbbpahaaGreatBut
set_option linter.unusedVariables false
set_option linter.unusedSimpArgs false
namespace Go.Proofs.YtmgfpcblbbpahaaGreat.Rn
open Go.RowKit Ru

namespace Ru
theorem length_ins (p : Pc) : ∀ l, (ins p l).length = l.length + 1
  | [] => rfl
  | q :: l => by unfold ins; split <;> simp [length_ins p l]
theorem length_srt : ∀ l, (srt l).length = l.length
  | [] => rfl
  | p :: l => by simp [srt, length_ins, length_srt l]
theorem pcs_le (l : List Pc) : (pcs l).length ≤ l.length := by
  have h1 := merge_len (srt (raw l))
  rw [length_srt] at h1
  exact Nat.le_trans h1 (raw_le l)
theorem nrm_le (l : List Pc) : (nrm l).length ≤ l.length := by unfold nrm; rw [rngs_len]; exact pcs_le l
/-- all within range -/
theorem ok_of {P : List Pc} (h : Nf (-1) P) (h2 : Bd P) : ∀ q ∈ P, 0 ≤ q.1 ∧ q.1 < q.2 ∧ q.2 ≤ 1112064 := fun q hq => by
  have := h.pos q hq; have := h2 q hq; omega
theorem ok_pcs (l : List Pc) : ∀ q ∈ pcs l, 0 ≤ q.1 ∧ q.1 < q.2 ∧ q.2 ≤ 1112064 := ok_of (pcs_nf l) (pcs_bd l)
end Ru
open Ru
theorem i32_rngs {P : List Pc} (h : ∀ q ∈ P, 0 ≤ q.1 ∧ q.1 < q.2 ∧ q.2 ≤ 1112064) : i32s (rngs P) := by
  intro p hp
  obtain ⟨q, hq, rfl⟩ := List.mem_map.1 hp
  have := h q hq
  have h1 := vlu_range (p := q.1) (by omega) (by omega)
  have h2 := vlu_range (p := q.2 - 1) (by omega) (by omega)
  simp only; omega
theorem i32_nrm (l : List Pc) : i32s (nrm l) := i32_rngs (ok_pcs l)
/-- Not's two captured variables: blocks qf (from) and qo (out) -/
def NotS (w : World) (b qf qo : Nat) (s : List Pc × Int) : Prop :=
  qf < b ∧ qo < b ∧ qf ≠ qo ∧ b ≤ w.heap.size ∧ w.heap[qf]? = some (.cells #[.int .i64 s.2] 3 (0, 0)) ∧
    ∃ v, w.heap[qo]? = some (.cells #[v] 95 (0, 0)) ∧ w.ownsRow b 98 2 v s.1.length (flatK .i64 s.1)
theorem NotS.below {w w' : World} {b qf qo : Nat} {s : List Pc × Int} (h : NotS w b qf qo s) (hb : Below w.heap.size w w') : NotS w' b qf qo s := by
  obtain ⟨h1, h2, h3, h4, h5, v, h6, h7⟩ := h
  exact ⟨h1, h2, h3, Nat.le_trans h4 hb.size, by rw [hb.block qf (by omega)]; exact h5, v, by rw [hb.block qo (by omega)]; exact h6, owns_below h7 hb⟩
theorem butLowRn {w1 w2 : World} {b qa qo n : Nat} (h : But w1 w2 b qa qo) (hn : n ≤ b) (h1 : n ≤ qa) (h2 : n ≤ qo) : Below n w1 w2 := ⟨h.os, h.tape, h.output, h.size, fun k hk => h.block k (by omega) (by omega) (by omega)⟩

end Go.Proofs.YtmgfpcblbbpahaaGreat.Rn
