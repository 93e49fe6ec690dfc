/- Arguments of kind rune, and slices of them: their bounds. -/
import Derived.Test.YtjdgfhgpbhjcpaaArgRow
namespace Go.Proofs.Ytjdgfhgpbhjcpaa
theorem i32_of_wf {n : Int} (h : (Lit.int .i32 n).wf = true) : -2147483648 ≤ n ∧ n ≤ 2147483647 := by
  simpa [Lit.wf, IntKind.min, IntKind.max, IntKind.bits, IntKind.signed] using h
theorem i32l_of_wf {l : List Int} (h : ∀ n ∈ l, (Lit.int .i32 n).wf = true) : ∀ n ∈ l, -2147483648 ≤ n ∧ n ≤ 2147483647 := fun n hn => i32_of_wf (h n hn)
end Go.Proofs.Ytjdgfhgpbhjcpaa
