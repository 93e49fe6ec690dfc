/- An expression as an argument. -/
import Derived.Test.YtahckikemljlnaaGreatDoorArgGram
import Derived.Test.YtahckikemljlnaaGreatDoorRefSetsG
set_option linter.unusedVariables false
set_option linter.unusedSimpArgs false
namespace Go.Proofs.YtahckikemljlnaaGreatDoor
open Go.ChangeShapes Go.WideShapes Go.ChangeAt Go.RowKit Go.Joins Ru
theorem i32_of_wf {n : Int} (h : (Lit.int .i32 n).wf = true) : -2147483648 ≤ n ∧ n ≤ 2147483647 := by
  simpa [Lit.wf, IntKind.min, IntKind.max, IntKind.bits, IntKind.signed] using h
theorem i32s_of_wf {l : List (Int × Int)} (h : ∀ p ∈ l, (Lit.int .i32 p.1).wf = true ∧ (Lit.int .i32 p.2).wf = true) : i32s l := fun p hp => ⟨i32_of_wf (h p hp).1, i32_of_wf (h p hp).2⟩
variable {H : Type} {enc : TypeId × Value → H} {W : World}

end Go.Proofs.YtahckikemljlnaaGreatDoor
