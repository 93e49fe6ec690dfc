/-
  DERIVED. GIVEN WITH THE SEED: THE CARDS: each row of YtbanmggkfpnalaaGreatDoorRows.lean that lists a variable, with what it lists TIED to the program's text (the seventh form; the later family's looks); each row that meets fmt, with fmt's text TOLD by the authors' own Lean function (tested against real Go, not proved from fmt's source: count such statements apart). THE CARD IS WHAT COUNTS. Prove the row's statement (the work); the ties are given (YtbanmggkfpnalaaGreatDoorTie.lean); close each card by the builder's one call (the guide's Derived/Test/ToyasCard.lean, 'card_holds'). Laid BY PROGRAM, IN A SANDBOX (cutbox-door.mjs). By AI agents, Wed Nov 11 2026. No macro, syntax, notation, axiom, sorry.
-/
import Derived.Test.YtbanmggkfpnalaaGreatDoorRows
import GoSem.ClaimSeven
namespace Go.Proofs.YtbanmggkfpnalaaGreatDoor
namespace Rows

/-- THE TIED CARD OF 'gobolaw14.PrintRes'. -/
def printResCard : Claim7 := { stood := { row := printResRow, standIns := [], harness := (true, "5d9f2364768585fb79da778edd2024ef11002ed650d23ff29564cf029d59562b"), looks := true }, kinds := [], alts := [], laidByText := true, laidKinds := [.data, .data, .data, .data, .pinned, .pinned], laidTests := true, laidLooks := .later }
def PrintResCardSaid : Prop := Claim7.holds Tryz.pinned (.plain (OpenSpec.ofChange printResSpec)) printResCard

/-- THE TIED CARD OF 'gobolaw14.PrintGrammars'. -/
def printGrammarsCard : Claim7 := { stood := { row := printGrammarsRow, standIns := [], harness := (true, "5d9f2364768585fb79da778edd2024ef11002ed650d23ff29564cf029d59562b"), looks := true }, kinds := [], alts := [], laidByText := true, laidKinds := [.data, .data, .data, .data, .pinned, .pinned], laidTests := true, laidLooks := .later }
def PrintGrammarsCardSaid : Prop := Claim7.holds Tryz.pinned (.plain (OpenSpec.ofChange printGrammarsSpec)) printGrammarsCard

/-- THE TIED CARD OF 'gobolaw14.PrintPats'. -/
def printPatsCard : Claim7 := { stood := { row := printPatsRow, standIns := [], harness := (true, "5d9f2364768585fb79da778edd2024ef11002ed650d23ff29564cf029d59562b"), looks := true }, kinds := [], alts := [], laidByText := true, laidKinds := [.data, .data, .data, .data, .pinned, .pinned], laidTests := true, laidLooks := .later }
def PrintPatsCardSaid : Prop := Claim7.holds Tryz.pinned (.plain (OpenSpec.ofChange printPatsSpec)) printPatsCard

/-- THE SECOND FORM's CARD OF 'gobolaw14.PrintRes'. -/
def printResUptoCard : Claim7 := { stood := { row := printResUptoRow, standIns := [], harness := (true, "5d9f2364768585fb79da778edd2024ef11002ed650d23ff29564cf029d59562b"), looks := true }, kinds := [], alts := [], laidByText := true, laidKinds := [.data, .data, .data, .data, .pinned, .pinned], laidTests := true, laidLooks := .later }
def PrintResUptoCardSaid : Prop := Claim7.holds Tryz.pinned (.plain (OpenSpec.upto printResSpec)) printResUptoCard

/-- THE SECOND FORM's CARD OF 'gobolaw14.PrintGrammars'. -/
def printGrammarsUptoCard : Claim7 := { stood := { row := printGrammarsUptoRow, standIns := [], harness := (true, "5d9f2364768585fb79da778edd2024ef11002ed650d23ff29564cf029d59562b"), looks := true }, kinds := [], alts := [], laidByText := true, laidKinds := [.data, .data, .data, .data, .pinned, .pinned], laidTests := true, laidLooks := .later }
def PrintGrammarsUptoCardSaid : Prop := Claim7.holds Tryz.pinned (.plain (OpenSpec.upto printGrammarsSpec)) printGrammarsUptoCard

/-- THE SECOND FORM's CARD OF 'gobolaw14.PrintPats'. -/
def printPatsUptoCard : Claim7 := { stood := { row := printPatsUptoRow, standIns := [], harness := (true, "5d9f2364768585fb79da778edd2024ef11002ed650d23ff29564cf029d59562b"), looks := true }, kinds := [], alts := [], laidByText := true, laidKinds := [.data, .data, .data, .data, .pinned, .pinned], laidTests := true, laidLooks := .later }
def PrintPatsUptoCardSaid : Prop := Claim7.holds Tryz.pinned (.plain (OpenSpec.upto printPatsSpec)) printPatsUptoCard
end Rows
end Go.Proofs.YtbanmggkfpnalaaGreatDoor
