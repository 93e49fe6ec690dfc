/-
  No cell of these rows narrows 'for every input' (looked for: loops, veiled, ifaces, maps, wideKeys, modest, calm, conditions, laid).
  DERIVED. THE GIVEN ROWS OF THIS SEAT. 5 by the template 'for every input the law returns true; each argument reads behind the call as it read before'; 0 by the template 'total and deterministic' (their statements: YtdpnpfgejfhcgaaTotals.lean).
  GIVEN WITH THE SEED: the statements are not yours to turn. If you find one false, say at which input.
  Laid BY PROGRAM, IN A SANDBOX (cutbox-rows.mjs): the forced cells as the released guide's own fill.sh prints them over the translation 6f4fc3a9d9e2303c… (all of the seat's roots in one cut). By AI agents, Wed Nov 11 2026. No macro, syntax, notation, axiom, sorry.
-/
import Derived.Test.YtdpnpfgejfhcgaaChecked
import GoSem.Claim
import GoSem.ClaimJoined
import GoSem.ClaimMapViews
import Derived.JoinedTies
import Derived.KernelRfl
namespace Go.Proofs.Ytdpnpfgejfhcgaa
/- THE CELL 'sum', in the pinned program and in every row, IS THE sha256 OF THE DUMP (.gsa) THAT YtdpnpfgejfhcgaaProg.lean LOADS. Nothing in Lean hashes anything: it is a label: what it is worth is what the hold of that sum in a sandbox is worth. -/
noncomputable def Try.pinned : Pinned := { name := "ytdpnpfgejfhcgaa", sum := "6f4fc3a9d9e2303cb407c3c1831c9ca1e59b1287be6ccfba8568ce3e41a11607", checked := Try.checked }
namespace Rows
def none {H : Type} : Left H := { results := [], args := [] }

/-- 'gobolaw1.TintAsks': WHATEVER THE INPUT: true; the input reads as it did. -/
def tintAsksSpec : ChangeSpec := { name := "tintAsks", fn := fun _ => fun
  | [d1, d2, d3, d4] => { results := [.lit (.bool true)], args := [d1, d2, d3, d4] }
  | _ => none }
def tintAsksRow : OpenClaim := { program := "ytdpnpfgejfhcgaa", sum := "6f4fc3a9d9e2303cb407c3c1831c9ca1e59b1287be6ccfba8568ce3e41a11607", func := "gobo/gobolaw1.TintAsks", spec := "tintAsks", inPlace := ["math.Float64frombits", "math.Float64bits", "math.archFloor", "math.archTrunc"], apart := false }
def TintAsksSaid : Prop := tintAsksRow.holds Try.pinned (OpenSpec.ofChange tintAsksSpec)

/-- ITS FALSE NEIGHBOUR: 'it returns false'. Refute it at one input. -/
def tintAsksWrong : ChangeSpec := { name := "tintAsks", fn := fun _ => fun
  | [d1, d2, d3, d4] => { results := [.lit (.bool false)], args := [d1, d2, d3, d4] }
  | _ => none }
def TintAsksWrongFalsely : Prop := tintAsksRow.holds Try.pinned (OpenSpec.ofChange tintAsksWrong)

/-- 'gobolaw1.TintBytes': WHATEVER THE INPUT: true; the input reads as it did. -/
def tintBytesSpec : ChangeSpec := { name := "tintBytes", fn := fun _ => fun
  | [d1, d2, d3] => { results := [.lit (.bool true)], args := [d1, d2, d3] }
  | _ => none }
def tintBytesRow : OpenClaim := { program := "ytdpnpfgejfhcgaa", sum := "6f4fc3a9d9e2303cb407c3c1831c9ca1e59b1287be6ccfba8568ce3e41a11607", func := "gobo/gobolaw1.TintBytes", spec := "tintBytes", inPlace := ["math.Float64frombits", "math.Float64bits", "math.archFloor", "math.archTrunc"], apart := false }
def TintBytesSaid : Prop := tintBytesRow.holds Try.pinned (OpenSpec.ofChange tintBytesSpec)

/-- ITS FALSE NEIGHBOUR: 'it returns false'. Refute it at one input. -/
def tintBytesWrong : ChangeSpec := { name := "tintBytes", fn := fun _ => fun
  | [d1, d2, d3] => { results := [.lit (.bool false)], args := [d1, d2, d3] }
  | _ => none }
def TintBytesWrongFalsely : Prop := tintBytesRow.holds Try.pinned (OpenSpec.ofChange tintBytesWrong)

/-- 'gobolaw1.TintFits': WHATEVER THE INPUT: true; the input reads as it did. -/
def tintFitsSpec : ChangeSpec := { name := "tintFits", fn := fun _ => fun
  | [d] => { results := [.lit (.bool true)], args := [d] }
  | _ => none }
def tintFitsRow : OpenClaim := { program := "ytdpnpfgejfhcgaa", sum := "6f4fc3a9d9e2303cb407c3c1831c9ca1e59b1287be6ccfba8568ce3e41a11607", func := "gobo/gobolaw1.TintFits", spec := "tintFits", inPlace := ["math.Float64bits", "math.Float64frombits", "math.archFloor", "math.archTrunc"], apart := false }
def TintFitsSaid : Prop := tintFitsRow.holds Try.pinned (OpenSpec.ofChange tintFitsSpec)

/-- ITS FALSE NEIGHBOUR: 'it returns false'. Refute it at one input. -/
def tintFitsWrong : ChangeSpec := { name := "tintFits", fn := fun _ => fun
  | [d] => { results := [.lit (.bool false)], args := [d] }
  | _ => none }
def TintFitsWrongFalsely : Prop := tintFitsRow.holds Try.pinned (OpenSpec.ofChange tintFitsWrong)

/-- 'gobolaw1.TintMixes': WHATEVER THE INPUT: true; the input reads as it did. -/
def tintMixesSpec : ChangeSpec := { name := "tintMixes", fn := fun _ => fun
  | [d1, d2, d3] => { results := [.lit (.bool true)], args := [d1, d2, d3] }
  | _ => none }
def tintMixesRow : OpenClaim := { program := "ytdpnpfgejfhcgaa", sum := "6f4fc3a9d9e2303cb407c3c1831c9ca1e59b1287be6ccfba8568ce3e41a11607", func := "gobo/gobolaw1.TintMixes", spec := "tintMixes", inPlace := ["math.Float64bits", "math.Float64frombits", "math.archFloor", "math.archTrunc"], apart := false }
def TintMixesSaid : Prop := tintMixesRow.holds Try.pinned (OpenSpec.ofChange tintMixesSpec)

/-- ITS FALSE NEIGHBOUR: 'it returns false'. Refute it at one input. -/
def tintMixesWrong : ChangeSpec := { name := "tintMixes", fn := fun _ => fun
  | [d1, d2, d3] => { results := [.lit (.bool false)], args := [d1, d2, d3] }
  | _ => none }
def TintMixesWrongFalsely : Prop := tintMixesRow.holds Try.pinned (OpenSpec.ofChange tintMixesWrong)

/-- 'gobolaw1.TintEdges': WHATEVER THE INPUT: true; the input reads as it did. -/
def tintEdgesSpec : ChangeSpec := { name := "tintEdges", fn := fun _ => fun
  | [d] => { results := [.lit (.bool true)], args := [d] }
  | _ => none }
def tintEdgesRow : OpenClaim := { program := "ytdpnpfgejfhcgaa", sum := "6f4fc3a9d9e2303cb407c3c1831c9ca1e59b1287be6ccfba8568ce3e41a11607", func := "gobo/gobolaw1.TintEdges", spec := "tintEdges", inPlace := ["math.Float64frombits", "math.Float64bits", "math.archFloor", "math.archTrunc"], apart := false }
def TintEdgesSaid : Prop := tintEdgesRow.holds Try.pinned (OpenSpec.ofChange tintEdgesSpec)

/-- ITS FALSE NEIGHBOUR: 'it returns false'. Refute it at one input. -/
def tintEdgesWrong : ChangeSpec := { name := "tintEdges", fn := fun _ => fun
  | [d] => { results := [.lit (.bool false)], args := [d] }
  | _ => none }
def TintEdgesWrongFalsely : Prop := tintEdgesRow.holds Try.pinned (OpenSpec.ofChange tintEdgesWrong)

/- THE SECOND FORM. 'bulk': how many values and letters a reading holds, each counted each time it is reached (what is shared counts as often as it is met; a slice's spare places count too). A statement '..UptoSaid' is the law's where the arguments, and the package variables that the reading takes, are together of bulk at most 1048576: NARROWER than '..Said'. Prove '..Said' where nothing that the law and all that it calls make is longer than what came in: it says more and counts as full. Else prove '..UptoSaid'. A law counts once. -/
mutual
def uptoBulk {H : Type} : DataW H → Nat
  | .lit (.string bytes) => bytes.length + 1
  | .lit _ => 1
  | .nil => 1
  | .ptr d => uptoBulk d + 1
  | .slice elems spare => uptoBulkAll elems + uptoBulkAll spare + 1
  | .agg parts => uptoBulkAll parts + 1
  | .iface _ d => uptoBulk d + 1
  | .map entries => uptoBulkEntries entries + 1
  | .held _ => 1
def uptoBulkAll {H : Type} : List (DataW H) → Nat
  | [] => 0
  | d :: r => uptoBulk d + uptoBulkAll r
def uptoBulkEntries {H : Type} : List (Lit × DataW H) → Nat
  | [] => 0
  | x :: r => uptoBulkEntry x + uptoBulkEntries r
def uptoBulkEntry {H : Type} : Lit × DataW H → Nat
  | (.string bytes, d) => bytes.length + uptoBulk d + 1
  | (_, d) => uptoBulk d + 1
 end
def uptoSmall : (H : Type) → List (DataW H) → Bool := fun _ ds => decide (uptoBulkAll ds ≤ 1048576)
def OpenSpec.upto (s : _root_.Go.ChangeSpec) : _root_.Go.OpenSpec := { _root_.Go.OpenSpec.ofChange s with cond := some uptoSmall }

/-- 'gobolaw1.TintAsks', WHERE WHAT IT READS IS OF BULK AT MOST 1048576: true; the input reads as it did. -/
def tintAsksUptoRow : OpenClaim := { program := "ytdpnpfgejfhcgaa", sum := "6f4fc3a9d9e2303cb407c3c1831c9ca1e59b1287be6ccfba8568ce3e41a11607", func := "gobo/gobolaw1.TintAsks", spec := "tintAsks", inPlace := ["math.Float64frombits", "math.Float64bits", "math.archFloor", "math.archTrunc"], apart := false, narrowed := true }
def TintAsksUptoSaid : Prop := tintAsksUptoRow.holds Try.pinned (OpenSpec.upto tintAsksSpec)

/-- 'gobolaw1.TintBytes', WHERE WHAT IT READS IS OF BULK AT MOST 1048576: true; the input reads as it did. -/
def tintBytesUptoRow : OpenClaim := { program := "ytdpnpfgejfhcgaa", sum := "6f4fc3a9d9e2303cb407c3c1831c9ca1e59b1287be6ccfba8568ce3e41a11607", func := "gobo/gobolaw1.TintBytes", spec := "tintBytes", inPlace := ["math.Float64frombits", "math.Float64bits", "math.archFloor", "math.archTrunc"], apart := false, narrowed := true }
def TintBytesUptoSaid : Prop := tintBytesUptoRow.holds Try.pinned (OpenSpec.upto tintBytesSpec)

/-- 'gobolaw1.TintFits', WHERE WHAT IT READS IS OF BULK AT MOST 1048576: true; the input reads as it did. -/
def tintFitsUptoRow : OpenClaim := { program := "ytdpnpfgejfhcgaa", sum := "6f4fc3a9d9e2303cb407c3c1831c9ca1e59b1287be6ccfba8568ce3e41a11607", func := "gobo/gobolaw1.TintFits", spec := "tintFits", inPlace := ["math.Float64bits", "math.Float64frombits", "math.archFloor", "math.archTrunc"], apart := false, narrowed := true }
def TintFitsUptoSaid : Prop := tintFitsUptoRow.holds Try.pinned (OpenSpec.upto tintFitsSpec)

/-- 'gobolaw1.TintMixes', WHERE WHAT IT READS IS OF BULK AT MOST 1048576: true; the input reads as it did. -/
def tintMixesUptoRow : OpenClaim := { program := "ytdpnpfgejfhcgaa", sum := "6f4fc3a9d9e2303cb407c3c1831c9ca1e59b1287be6ccfba8568ce3e41a11607", func := "gobo/gobolaw1.TintMixes", spec := "tintMixes", inPlace := ["math.Float64bits", "math.Float64frombits", "math.archFloor", "math.archTrunc"], apart := false, narrowed := true }
def TintMixesUptoSaid : Prop := tintMixesUptoRow.holds Try.pinned (OpenSpec.upto tintMixesSpec)

/-- 'gobolaw1.TintEdges', WHERE WHAT IT READS IS OF BULK AT MOST 1048576: true; the input reads as it did. -/
def tintEdgesUptoRow : OpenClaim := { program := "ytdpnpfgejfhcgaa", sum := "6f4fc3a9d9e2303cb407c3c1831c9ca1e59b1287be6ccfba8568ce3e41a11607", func := "gobo/gobolaw1.TintEdges", spec := "tintEdges", inPlace := ["math.Float64frombits", "math.Float64bits", "math.archFloor", "math.archTrunc"], apart := false, narrowed := true }
def TintEdgesUptoSaid : Prop := tintEdgesUptoRow.holds Try.pinned (OpenSpec.upto tintEdgesSpec)

end Rows
end Go.Proofs.Ytdpnpfgejfhcgaa
