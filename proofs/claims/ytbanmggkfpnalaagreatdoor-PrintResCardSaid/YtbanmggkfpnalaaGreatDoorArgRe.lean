/- An expression as an argument. -/
import Derived.Test.YtbanmggkfpnalaaGreatDoorArgGram
import Derived.Test.YtbanmggkfpnalaaGreatDoorRefSetsG
set_option linter.unusedVariables false
set_option linter.unusedSimpArgs false
namespace Go.Proofs.YtbanmggkfpnalaaGreatDoor
open Go.ChangeShapes Go.WideShapes Go.ChangeAt Go.RowKit Go.Joins Ru
theorem i32_of_wf {n : Int} (h : (Lit.int .i32 n).wf = true) : -2147483648 ≤ n ∧ n ≤ 2147483647 := by
  simpa [Lit.wf, IntKind.min, IntKind.max, IntKind.bits, IntKind.signed] using h
theorem i32s_of_wf {l : List (Int × Int)} (h : ∀ p ∈ l, (Lit.int .i32 p.1).wf = true ∧ (Lit.int .i32 p.2).wf = true) : i32s l := fun p hp => ⟨i32_of_wf (h p hp).1, i32_of_wf (h p hp).2⟩
variable {H : Type} {enc : TypeId × Value → H} {W : World}

set_option maxRecDepth 100000 in
theorem arg_re {r : Reach} {b0 : Nat} {v : Value} {d : DataW H} {ps : List MemPlace} (hval : Value.okWide Tryz.prog W r b0 25 v) (h : DataW.Trod enc Tryz.prog W 0 (fun _ => true) true 25 v d ps) (hlt : ∀ x ∈ ps, x.block < W.heap.size) :
    ∃ (e : RE) (sv lv : Value), v = .agg #[.int .i64 e.kind, sv, lv] ∧ ReIs W e sv lv ∧ e.Raw := by
  have h9 := h
  obtain ⟨v0, v1, v2, y0, y1, y2, n, rfl, -, -, -, -, -⟩ := open_agg3 Tryz.underlying25 (by kernel_rfl) (by kernel_rfl : Tryz.prog.cellsOf 25 = 3) hval h
  obtain ⟨m, hm⟩ := h9
  obtain ⟨p, hp, hr, hw⟩ := read_re m _ _ hm hlt
  have e : [v0, v1, v2] = [.int .i64 p.1.kind, p.2.1, p.2.2] := hp
  simp only [List.cons.injEq, and_true] at e
  obtain ⟨rfl, rfl, rfl⟩ := e
  exact ⟨p.1, p.2.1, p.2.2, rfl, hr, hw⟩
end Go.Proofs.YtbanmggkfpnalaaGreatDoor
