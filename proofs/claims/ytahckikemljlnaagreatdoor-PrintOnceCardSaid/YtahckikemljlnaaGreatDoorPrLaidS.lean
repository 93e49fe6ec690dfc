/- stage 14: the one laid cell that the prints read. -/
import Derived.Test.YtahckikemljlnaaGreatDoorRows
import Derived.Test.YtahckikemljlnaaGreatDoorLetter
import Derived.ProofKit
import Derived.LaidMore
import Derived.OpenShut
set_option linter.unusedVariables false
set_option linter.unusedSimpArgs false
namespace Go.Proofs.YtahckikemljlnaaGreatDoor
open Go.ChangeShapes Go.WideShapes Go.ChangeAt Go.WideMaps Go.WideElems Go.RowKit

theorem g64 : Tryz.prog.globalNamed "math/bits.deBruijn64tab" = some 8 := by kernel_rfl
theorem t64 : (Tryz.prog.globals[8]?).map (·.type) = some 287 := by kernel_rfl
set_option maxRecDepth 100000 in
theorem tz_of_laid {W : World} (h : laidMetH Tryz.prog Rows.printSetsRow.laid W) : TZ W := by
  rw [MakeChecks.laidMetH_plain _ _ _ (by kernel_rfl)] at h
  obtain ⟨ps, ⟨g0, t0, cs0, f0, p0, q0, hg0, ht0, hv0, hd0, ⟨g1, t1, cs1, f1, p1, q1, hg1, ht1, hv1, hd1, _, _⟩, _⟩, _, _⟩ := h
  obtain rfl := Option.some.inj (g64.symm.trans hg1)
  have hc := World.var?_cell hg1 hv1 15
  obtain rfl := Option.some.inj (t64.symm.trans ht1)
  obtain ⟨xs, m1, rfl, hx1, hlen, hn3, hel⟩ := DataW.trod_array Tryz.underlying287 hd1
  have h15 := hel 15 (by decide)
  have hL : Rows.laid_math_bits_deBruijn64tab = .agg (xs.map (·.1)) := (Prod.mk.inj hx1).1
  have hx : (xs.map (·.1))[15]? = some (.lit (.int .u8 4)) := by
    unfold Rows.laid_math_bits_deBruijn64tab at hL
    rw [← DataW.agg.inj hL]
    first | rfl | kernel_rfl | simp
  rw [List.getElem?_map] at hx
  obtain ⟨x, hx2, hx3⟩ := Option.map_eq_some_iff.1 hx
  rw [hx2] at h15
  obtain ⟨k, e1, e2, _⟩ := DataW.trod_int Tryz.underlying5 h15
  have hk : k = 4 := by rw [e2] at hx3; simpa using hx3
  subst hk
  have c1 : Tryz.prog.cellsOf 5 = 1 := by kernel_rfl
  rw [c1] at e1
  have hcs : cs1[15]? = some (.int .u8 4) := by
    have : (cs1.toList.drop (15 * 1)).take 1 = [.int .u8 4] := e1
    have h2 : ((cs1.toList.drop (15 * 1)).take 1)[0]? = some (.int .u8 4) := by rw [this]; rfl
    simpa using h2
  rw [hcs] at hc
  exact ⟨World.block_lt_of_cell? W ⟨8, 15, none⟩ hc, hc⟩
end Go.Proofs.YtahckikemljlnaaGreatDoor
