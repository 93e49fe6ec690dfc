/-
  NARROWER THAN 'FOR EVERY INPUT', by the rows' own cells (each row's printed sentence says how): NfaAsks: loops.
  DERIVED. THE GIVEN ROWS OF THIS SEAT. 5 by the template 'for every input the law returns true; each argument reads behind the call as it read before'; 0 by the template 'total and deterministic' (their statements: YtmgfpcblbbpahaaGreatTotals.lean).
  GIVEN WITH THE SEED: the statements are not yours to turn. If you find one false, say at which input.
  Laid BY PROGRAM, IN A SANDBOX (cutbox-rows.mjs): the forced cells as the released guide's own fill.sh prints them over the translation a310b009c043d5e3… (all of the seat's roots in one cut). By AI agents, Wed Nov 11 2026. No macro, syntax, notation, axiom, sorry.
-/
import Derived.Test.YtmgfpcblbbpahaaGreatChecked
import GoSem.Claim
import GoSem.ClaimJoined
import GoSem.ClaimMapViews
import Derived.JoinedTies
import Derived.KernelRfl
namespace Go.Proofs.YtmgfpcblbbpahaaGreat
/- THE CELL 'sum', in the pinned program and in every row, IS THE sha256 OF THE DUMP (.gsa) THAT YtmgfpcblbbpahaaGreatProg.lean LOADS. Nothing in Lean hashes anything: it is a label: what it is worth is what the hold of that sum in a sandbox is worth. -/
noncomputable def Tryz.pinned : Pinned := { name := "ytmgfpcblbbpahaagreat", sum := "a310b009c043d5e3e2d9f6bacda04e9fb651e7edbc52f8e31eb971640a0b8f09", checked := Tryz.checked }
namespace Rows
def none {H : Type} : Left H := { results := [], args := [] }

/-- 'gobolaw7.NfaSets': WHATEVER THE INPUT: true; the input reads as it did. -/
def nfaSetsSpec : ChangeSpec := { name := "nfaSets", fn := fun _ => fun
  | [d1, d2, d3, d4] => { results := [.lit (.bool true)], args := [d1, d2, d3, d4] }
  | _ => none }
def nfaSetsRow : OpenClaim := { program := "ytmgfpcblbbpahaagreat", sum := "a310b009c043d5e3e2d9f6bacda04e9fb651e7edbc52f8e31eb971640a0b8f09", func := "gobo/gobolaw7.NfaSets", spec := "nfaSets", inPlace := ["internal/reflectlite.ValueOf", "internal/reflectlite.Swapper", "(internal/reflectlite.Value).Len"], unfollowed := true, recurses := true, apart := false }
def NfaSetsSaid : Prop := nfaSetsRow.holds Tryz.pinned (OpenSpec.ofChange nfaSetsSpec)

/-- ITS FALSE NEIGHBOUR: 'it returns false'. Refute it at one input. -/
def nfaSetsWrong : ChangeSpec := { name := "nfaSets", fn := fun _ => fun
  | [d1, d2, d3, d4] => { results := [.lit (.bool false)], args := [d1, d2, d3, d4] }
  | _ => none }
def NfaSetsWrongFalsely : Prop := nfaSetsRow.holds Tryz.pinned (OpenSpec.ofChange nfaSetsWrong)

/-- 'gobolaw7.NfaMeans': WHATEVER THE INPUT: true; the input reads as it did. -/
def nfaMeansSpec : ChangeSpec := { name := "nfaMeans", fn := fun _ => fun
  | [d1, d2] => { results := [.lit (.bool true)], args := [d1, d2] }
  | _ => none }
def nfaMeansRow : OpenClaim := { program := "ytmgfpcblbbpahaagreat", sum := "a310b009c043d5e3e2d9f6bacda04e9fb651e7edbc52f8e31eb971640a0b8f09", func := "gobo/gobolaw7.NfaMeans", spec := "nfaMeans", inPlace := ["internal/reflectlite.ValueOf", "internal/reflectlite.Swapper", "(internal/reflectlite.Value).Len"], unfollowed := true, recurses := true, apart := false }
def NfaMeansSaid : Prop := nfaMeansRow.holds Tryz.pinned (OpenSpec.ofChange nfaMeansSpec)

/-- ITS FALSE NEIGHBOUR: 'it returns false'. Refute it at one input. -/
def nfaMeansWrong : ChangeSpec := { name := "nfaMeans", fn := fun _ => fun
  | [d1, d2] => { results := [.lit (.bool false)], args := [d1, d2] }
  | _ => none }
def NfaMeansWrongFalsely : Prop := nfaMeansRow.holds Tryz.pinned (OpenSpec.ofChange nfaMeansWrong)

/-- 'gobolaw7.NfaAsks': WHATEVER THE INPUT: true; the input reads as it did. -/
def nfaAsksSpec : ChangeSpec := { name := "nfaAsks", fn := fun _ => fun
  | [d1, d2, d3] => { results := [.lit (.bool true)], args := [d1, d2, d3] }
  | _ => none }
def nfaAsksRow : OpenClaim := { program := "ytmgfpcblbbpahaagreat", sum := "a310b009c043d5e3e2d9f6bacda04e9fb651e7edbc52f8e31eb971640a0b8f09", func := "gobo/gobolaw7.NfaAsks", spec := "nfaAsks", inPlace := ["internal/reflectlite.ValueOf", "internal/reflectlite.Swapper", "(internal/reflectlite.Value).Len"], unfollowed := true, recurses := true, loops := true, apart := false }
def NfaAsksSaid : Prop := nfaAsksRow.holds Tryz.pinned (OpenSpec.ofChange nfaAsksSpec)

/-- ITS FALSE NEIGHBOUR: 'it returns false'. Refute it at one input. -/
def nfaAsksWrong : ChangeSpec := { name := "nfaAsks", fn := fun _ => fun
  | [d1, d2, d3] => { results := [.lit (.bool false)], args := [d1, d2, d3] }
  | _ => none }
def NfaAsksWrongFalsely : Prop := nfaAsksRow.holds Tryz.pinned (OpenSpec.ofChange nfaAsksWrong)

/-- 'gobolaw7.NfaMakes': WHATEVER THE INPUT: true; the input reads as it did. -/
def nfaMakesSpec : ChangeSpec := { name := "nfaMakes", fn := fun _ => fun
  | [d1, d2] => { results := [.lit (.bool true)], args := [d1, d2] }
  | _ => none }
def nfaMakesRow : OpenClaim := { program := "ytmgfpcblbbpahaagreat", sum := "a310b009c043d5e3e2d9f6bacda04e9fb651e7edbc52f8e31eb971640a0b8f09", func := "gobo/gobolaw7.NfaMakes", spec := "nfaMakes", inPlace := ["internal/reflectlite.ValueOf", "internal/reflectlite.Swapper", "(internal/reflectlite.Value).Len"], unfollowed := true, recurses := true, apart := false }
def NfaMakesSaid : Prop := nfaMakesRow.holds Tryz.pinned (OpenSpec.ofChange nfaMakesSpec)

/-- ITS FALSE NEIGHBOUR: 'it returns false'. Refute it at one input. -/
def nfaMakesWrong : ChangeSpec := { name := "nfaMakes", fn := fun _ => fun
  | [d1, d2] => { results := [.lit (.bool false)], args := [d1, d2] }
  | _ => none }
def NfaMakesWrongFalsely : Prop := nfaMakesRow.holds Tryz.pinned (OpenSpec.ofChange nfaMakesWrong)

/-- 'gobolaw7.NfaCells': WHATEVER THE INPUT: true; the input reads as it did. -/
def nfaCellsSpec : ChangeSpec := { name := "nfaCells", fn := fun _ => fun
  | [d1, d2, d3, d4] => { results := [.lit (.bool true)], args := [d1, d2, d3, d4] }
  | _ => none }
def nfaCellsRow : OpenClaim := { program := "ytmgfpcblbbpahaagreat", sum := "a310b009c043d5e3e2d9f6bacda04e9fb651e7edbc52f8e31eb971640a0b8f09", func := "gobo/gobolaw7.NfaCells", spec := "nfaCells", inPlace := ["internal/reflectlite.ValueOf", "internal/reflectlite.Swapper", "(internal/reflectlite.Value).Len"], unfollowed := true, recurses := true, apart := false }
def NfaCellsSaid : Prop := nfaCellsRow.holds Tryz.pinned (OpenSpec.ofChange nfaCellsSpec)

/-- ITS FALSE NEIGHBOUR: 'it returns false'. Refute it at one input. -/
def nfaCellsWrong : ChangeSpec := { name := "nfaCells", fn := fun _ => fun
  | [d1, d2, d3, d4] => { results := [.lit (.bool false)], args := [d1, d2, d3, d4] }
  | _ => none }
def NfaCellsWrongFalsely : Prop := nfaCellsRow.holds Tryz.pinned (OpenSpec.ofChange nfaCellsWrong)

/- THE SECOND FORM. 'bulk': how many values and letters a reading holds, each counted each time it is reached (what is shared counts as often as it is met; a slice's spare places count too). A statement '..UptoSaid' is the law's where the arguments, and the package variables that the reading takes, are together of bulk at most 1048576: NARROWER than '..Said'. Prove '..Said' where nothing that the law and all that it calls make is longer than what came in: it says more and counts as full. Else prove '..UptoSaid'. A law counts once. -/
mutual
def uptoBulk {H : Type} : DataW H → Nat
  | .lit (.string bytes) => bytes.length + 1
  | .lit _ => 1
  | .nil => 1
  | .ptr d => uptoBulk d + 1
  | .slice elems spare => uptoBulkAll elems + uptoBulkAll spare + 1
  | .agg parts => uptoBulkAll parts + 1
  | .iface _ d => uptoBulk d + 1
  | .map entries => uptoBulkEntries entries + 1
  | .held _ => 1
def uptoBulkAll {H : Type} : List (DataW H) → Nat
  | [] => 0
  | d :: r => uptoBulk d + uptoBulkAll r
def uptoBulkEntries {H : Type} : List (Lit × DataW H) → Nat
  | [] => 0
  | x :: r => uptoBulkEntry x + uptoBulkEntries r
def uptoBulkEntry {H : Type} : Lit × DataW H → Nat
  | (.string bytes, d) => bytes.length + uptoBulk d + 1
  | (_, d) => uptoBulk d + 1
 end
def uptoSmall : (H : Type) → List (DataW H) → Bool := fun _ ds => decide (uptoBulkAll ds ≤ 1048576)
def OpenSpec.upto (s : _root_.Go.ChangeSpec) : _root_.Go.OpenSpec := { _root_.Go.OpenSpec.ofChange s with cond := some uptoSmall }

/-- 'gobolaw7.NfaSets', WHERE WHAT IT READS IS OF BULK AT MOST 1048576: true; the input reads as it did. -/
def nfaSetsUptoRow : OpenClaim := { program := "ytmgfpcblbbpahaagreat", sum := "a310b009c043d5e3e2d9f6bacda04e9fb651e7edbc52f8e31eb971640a0b8f09", func := "gobo/gobolaw7.NfaSets", spec := "nfaSets", inPlace := ["internal/reflectlite.ValueOf", "internal/reflectlite.Swapper", "(internal/reflectlite.Value).Len"], unfollowed := true, recurses := true, apart := false, narrowed := true }
def NfaSetsUptoSaid : Prop := nfaSetsUptoRow.holds Tryz.pinned (OpenSpec.upto nfaSetsSpec)

/-- 'gobolaw7.NfaMeans', WHERE WHAT IT READS IS OF BULK AT MOST 1048576: true; the input reads as it did. -/
def nfaMeansUptoRow : OpenClaim := { program := "ytmgfpcblbbpahaagreat", sum := "a310b009c043d5e3e2d9f6bacda04e9fb651e7edbc52f8e31eb971640a0b8f09", func := "gobo/gobolaw7.NfaMeans", spec := "nfaMeans", inPlace := ["internal/reflectlite.ValueOf", "internal/reflectlite.Swapper", "(internal/reflectlite.Value).Len"], unfollowed := true, recurses := true, apart := false, narrowed := true }
def NfaMeansUptoSaid : Prop := nfaMeansUptoRow.holds Tryz.pinned (OpenSpec.upto nfaMeansSpec)

/-- 'gobolaw7.NfaAsks', WHERE WHAT IT READS IS OF BULK AT MOST 1048576: true; the input reads as it did. -/
def nfaAsksUptoRow : OpenClaim := { program := "ytmgfpcblbbpahaagreat", sum := "a310b009c043d5e3e2d9f6bacda04e9fb651e7edbc52f8e31eb971640a0b8f09", func := "gobo/gobolaw7.NfaAsks", spec := "nfaAsks", inPlace := ["internal/reflectlite.ValueOf", "internal/reflectlite.Swapper", "(internal/reflectlite.Value).Len"], unfollowed := true, recurses := true, loops := true, apart := false, narrowed := true }
def NfaAsksUptoSaid : Prop := nfaAsksUptoRow.holds Tryz.pinned (OpenSpec.upto nfaAsksSpec)

/-- 'gobolaw7.NfaMakes', WHERE WHAT IT READS IS OF BULK AT MOST 1048576: true; the input reads as it did. -/
def nfaMakesUptoRow : OpenClaim := { program := "ytmgfpcblbbpahaagreat", sum := "a310b009c043d5e3e2d9f6bacda04e9fb651e7edbc52f8e31eb971640a0b8f09", func := "gobo/gobolaw7.NfaMakes", spec := "nfaMakes", inPlace := ["internal/reflectlite.ValueOf", "internal/reflectlite.Swapper", "(internal/reflectlite.Value).Len"], unfollowed := true, recurses := true, apart := false, narrowed := true }
def NfaMakesUptoSaid : Prop := nfaMakesUptoRow.holds Tryz.pinned (OpenSpec.upto nfaMakesSpec)

/-- 'gobolaw7.NfaCells', WHERE WHAT IT READS IS OF BULK AT MOST 1048576: true; the input reads as it did. -/
def nfaCellsUptoRow : OpenClaim := { program := "ytmgfpcblbbpahaagreat", sum := "a310b009c043d5e3e2d9f6bacda04e9fb651e7edbc52f8e31eb971640a0b8f09", func := "gobo/gobolaw7.NfaCells", spec := "nfaCells", inPlace := ["internal/reflectlite.ValueOf", "internal/reflectlite.Swapper", "(internal/reflectlite.Value).Len"], unfollowed := true, recurses := true, apart := false, narrowed := true }
def NfaCellsUptoSaid : Prop := nfaCellsUptoRow.holds Tryz.pinned (OpenSpec.upto nfaCellsSpec)

end Rows
end Go.Proofs.YtmgfpcblbbpahaaGreat
