/-
  DERIVED: THE SHELF's CONTRACTS AT THIS DUMP, IN PLAIN WORDS (tools/lay-plain.mjs out of 'YtjdgfhgpbhjcpaaShelfD.lean', which tools/lay-shelf.mjs wrote): THE SAME DECLARATIONS UNDER THE SAME NAMES: 'import', 'namespace', 'open', 'def', 'theorem' AND NOTHING ELSE: no command of the shelf's: FOR A HAND-IN. Each laying: the table of numbers ('.._ren') and one theorem, a field a fact of the dump's own or the kernel's comparison; each contract: ONE APPLICATION.
-/
import Derived.Shelf.Utf8.AppendRunePlain
import Derived.Ground.NamesProg
import Derived.Test.YtjdgfhgpbhjcpaaProg
namespace Go.Proofs.Ytjdgfhgpbhjcpaa
open Go.Shelf
def Try.appR_ren : Go.Shelf.Ren := ⟨fun | 242 => 23 | 278 => 29 | n => n, fun | 37 => 22 | 21 => 21 | 51 => 62 | 4 => 4 | 5 => 5 | 46 => 34 | n => n, fun | n => n⟩
theorem Try.appR : Go.Proofs.Lays.n242 Try.prog Try.appR_ren := {
  mixed := by kernel_rfl
  f242 := Try.func23.trans (congrArg some (by kernel_rfl))
  f278 := Try.func29.trans (congrArg some (by kernel_rfl))
  t4 := Try.underlying4
  a4 := Try.isAgg4
  z4 := Try.sizeOf4
  v4 := Try.zeroValue4
  t5 := Try.underlying5
  a5 := Try.isAgg5
  z5 := Try.sizeOf5
  v5 := Try.zeroValue5
  t21 := Try.underlying21
  a21 := Try.isAgg21
  z21 := Try.sizeOf21
  v21 := Try.zeroValue21
  t37 := Try.underlying22
  a37 := Try.isAgg22
  z37 := Try.sizeOf22
  v37 := Try.zeroValue22
  t46 := Try.underlying34
  a46 := Try.isAgg34
  z46 := Try.sizeOf34
  v46 := Try.zeroValue34
  t51 := Try.underlying62
  a51 := Try.isAgg62
  z51 := Try.sizeOf62
  v51 := Try.zeroValue62 }
end Go.Proofs.Ytjdgfhgpbhjcpaa
