/- A list of expressions as an argument: the parts of a node that is only thought. -/
import Derived.Test.YtmgfpcblbbpahaaGreatArgGram
import Derived.Test.YtmgfpcblbbpahaaGreatRefSetsG
set_option linter.unusedVariables false
set_option linter.unusedSimpArgs false
namespace Go.Proofs.YtmgfpcblbbpahaaGreat
open Go.ChangeShapes Go.WideShapes Go.ChangeAt Go.RowKit Go.Joins Ru
theorem i32_of_wf {n : Int} (h : (Lit.int .i32 n).wf = true) : -2147483648 ≤ n ∧ n ≤ 2147483647 := by
  simpa [Lit.wf, IntKind.min, IntKind.max, IntKind.bits, IntKind.signed] using h
variable {H : Type} {enc : TypeId × Value → H} {W : World}

end Go.Proofs.YtmgfpcblbbpahaaGreat

namespace Go.Proofs.YtmgfpcblbbpahaaGreat
open Go.ChangeShapes Go.WideShapes Go.ChangeAt Go.RowKit Go.Joins Ru
variable {H : Type} {enc : TypeId × Value → H} {W : World}
set_option maxRecDepth 100000 in
theorem arg_res {r : Reach} {b0 : Nat} {v : Value} {d : DataW H} {ps : List MemPlace} (hval : Value.okWide Tryz.prog W r b0 27 v) (h : DataW.Trod enc Tryz.prog W 0 (fun _ => true) true 27 v d ps) (hlt : ∀ x ∈ ps, x.block < W.heap.size) :
    ∃ l : List RE, ReIs W (.mk 0 [] l) (.slice none 0 0) v ∧ (RE.mk 0 [] l).Raw := by
  obtain ⟨a0, len, cap, rfl⟩ := okWide_slice Tryz.underlying27 hval
  obtain ⟨fuel, hf⟩ := h
  have hf1 : DataW.trod enc Tryz.prog W 0 (fun _ => true) true fuel 27 [.slice a0 len cap] = some (d, ps) := hf
  letI : Inhabited (RE × Value × Value) := ⟨(.mk 0 [] [], .nilIface, .nilIface)⟩
  obtain ⟨qs, h1, h2⟩ := trod_row (α := RE × Value × Value) 3 (fun cs p => cs = [.int .i64 p.1.kind, p.2.1, p.2.2] ∧ ReIs W p.1 p.2.1 p.2.2 ∧ p.1.Raw) Tryz.underlying27 c3re (by omega) hf1 hlt (fun m cs y hm hy hl => read_re m cs y hy hl)
  have hget : ∀ (i : Nat) (e : RE) (p : Int × Value × Value), (qs.map fun q => q.2.1)[i]? = some e → (qs.map fun q => (q.2.1.kind, q.2.2.1, q.2.2.2))[i]? = some p → ∃ q ∈ qs, e = q.2.1 ∧ p = (q.2.1.kind, q.2.2.1, q.2.2.2) := by
    intro i e p he hp
    rw [List.getElem?_map] at he hp
    obtain ⟨q, hq, rfl⟩ := Option.map_eq_some_iff.1 he
    rw [hq] at hp
    simp at hp
    exact ⟨q, List.mem_of_getElem? hq, rfl, hp.symm⟩
  refine ⟨qs.map fun q => q.2.1, .mk 0 [] _ _ _ (qs.map fun q => (q.2.1.kind, q.2.2.1, q.2.2.2)) (Row.nil W) ?_ (by simp) ?_ ?_, .mk 0 [] _ (fun p hp => by simp at hp) ?_⟩
  · rw [List.length_map]
    have e := flat_eq (f := fun p : RE × Value × Value => [Value.int .i64 p.1.kind, p.2.1, p.2.2]) qs fun p hp => (h2 p hp).2.1
    have e2 : trip (qs.map fun q => (q.2.1.kind, q.2.2.1, q.2.2.2)) = (qs.map (·.2)).flatMap fun p : RE × Value × Value => [Value.int .i64 p.1.kind, p.2.1, p.2.2] := by
      unfold trip; rw [List.flatMap_map, List.flatMap_map]
    rw [e2, ← e]; exact h1
  · intro i e p he hp
    obtain ⟨q, _, rfl, rfl⟩ := hget i e p he hp
    rfl
  · intro i e p he hp
    obtain ⟨q, hq, rfl, rfl⟩ := hget i e p he hp
    exact (h2 q hq).2.2.1
  · intro i e he
    rw [List.getElem?_map] at he
    obtain ⟨q, hq, rfl⟩ := Option.map_eq_some_iff.1 he
    exact (h2 q (List.mem_of_getElem? hq)).2.2.2
end Go.Proofs.YtmgfpcblbbpahaaGreat
