/-
  DERIVED. GIVEN WITH THE SEED: THE CARDS: each row of YtahckikemljlnaaGreatDoorRows.lean that lists a variable, with what it lists TIED to the program's text (the seventh form; the later family's looks); each row that meets fmt, with fmt's text TOLD by the authors' own Lean function (tested against real Go, not proved from fmt's source: count such statements apart). THE CARD IS WHAT COUNTS. Prove the row's statement (the work); the ties are given (YtahckikemljlnaaGreatDoorTie.lean); close each card by the builder's one call (the guide's Derived/Test/ToyasCard.lean, 'card_holds'). Laid BY PROGRAM, IN A SANDBOX (cutbox-door.mjs). By AI agents, Wed Nov 11 2026. No macro, syntax, notation, axiom, sorry.
-/
import Derived.Test.YtahckikemljlnaaGreatDoorRows
import GoSem.ClaimSeven
namespace Go.Proofs.YtahckikemljlnaaGreatDoor
namespace Rows

/-- THE TIED CARD OF 'gobolaw13.ParseAny'. -/
def parseAnyCard : Claim7 := { stood := { row := parseAnyRow, standIns := [], harness := (true, "d6732ccecb5136f9ccffc1523f355b51742afec1857f9f19d8d6617a85b3260b"), looks := true }, kinds := [], alts := [], laidByText := true, laidKinds := [.data, .data, .data, .sentinel, .sentinel], laidTests := true, laidLooks := .later }
def ParseAnyCardSaid : Prop := Claim7.holds Tryz.pinned (.plain (OpenSpec.ofChange parseAnySpec)) parseAnyCard

/-- THE TIED CARD OF 'gobolaw13.ParseBrackets'. -/
def parseBracketsCard : Claim7 := { stood := { row := parseBracketsRow, standIns := [], harness := (true, "d6732ccecb5136f9ccffc1523f355b51742afec1857f9f19d8d6617a85b3260b"), looks := true }, kinds := [], alts := [], laidByText := true, laidKinds := [.data, .data, .data, .sentinel, .sentinel], laidTests := true, laidLooks := .later }
def ParseBracketsCardSaid : Prop := Claim7.holds Tryz.pinned (.plain (OpenSpec.ofChange parseBracketsSpec)) parseBracketsCard

/-- THE TIED CARD OF 'gobolaw13.ParseRunes'. -/
def parseRunesCard : Claim7 := { stood := { row := parseRunesRow, standIns := [], harness := (true, "d6732ccecb5136f9ccffc1523f355b51742afec1857f9f19d8d6617a85b3260b"), looks := true }, kinds := [], alts := [], laidByText := true, laidKinds := [.data, .data, .data, .sentinel, .sentinel], laidTests := true, laidLooks := .later }
def ParseRunesCardSaid : Prop := Claim7.holds Tryz.pinned (.plain (OpenSpec.ofChange parseRunesSpec)) parseRunesCard

/-- THE TIED CARD OF 'gobolaw13.ParseGrammars'. -/
def parseGrammarsCard : Claim7 := { stood := { row := parseGrammarsRow, standIns := [], harness := (true, "d6732ccecb5136f9ccffc1523f355b51742afec1857f9f19d8d6617a85b3260b"), looks := true }, kinds := [], alts := [], laidByText := true, laidKinds := [.data, .data, .data, .sentinel, .sentinel], laidTests := true, laidLooks := .later }
def ParseGrammarsCardSaid : Prop := Claim7.holds Tryz.pinned (.plain (OpenSpec.ofChange parseGrammarsSpec)) parseGrammarsCard

/-- THE TIED CARD OF 'gobolaw13.ParseOrders'. -/
def parseOrdersCard : Claim7 := { stood := { row := parseOrdersRow, standIns := [], harness := (true, "d6732ccecb5136f9ccffc1523f355b51742afec1857f9f19d8d6617a85b3260b"), looks := true }, kinds := [], alts := [], laidByText := true, laidKinds := [.data, .data, .data, .sentinel, .sentinel], laidTests := true, laidLooks := .later }
def ParseOrdersCardSaid : Prop := Claim7.holds Tryz.pinned (.plain (OpenSpec.ofChange parseOrdersSpec)) parseOrdersCard

/-- THE TIED CARD OF 'gobolaw13.ParseCuts'. -/
def parseCutsCard : Claim7 := { stood := { row := parseCutsRow, standIns := [], harness := (true, "d6732ccecb5136f9ccffc1523f355b51742afec1857f9f19d8d6617a85b3260b"), looks := true }, kinds := [], alts := [], laidByText := true, laidKinds := [.data, .data, .data, .sentinel, .sentinel], laidTests := true, laidLooks := .later }
def ParseCutsCardSaid : Prop := Claim7.holds Tryz.pinned (.plain (OpenSpec.ofChange parseCutsSpec)) parseCutsCard

/-- THE TIED CARD OF 'gobolaw14.PrintBack'. -/
def printBackCard : Claim7 := { stood := { row := printBackRow, standIns := [], harness := (true, "d6732ccecb5136f9ccffc1523f355b51742afec1857f9f19d8d6617a85b3260b"), looks := true }, kinds := [], alts := [], laidByText := true, laidKinds := [.data, .data, .data, .data, .sentinel, .sentinel, .pinned, .pinned], laidTests := true, laidLooks := .later }
def PrintBackCardSaid : Prop := Claim7.holds Tryz.pinned (.plain (OpenSpec.ofChange printBackSpec)) printBackCard

/-- THE TIED CARD OF 'gobolaw14.PrintSets'. -/
def printSetsCard : Claim7 := { stood := { row := printSetsRow, standIns := [], harness := (true, "d6732ccecb5136f9ccffc1523f355b51742afec1857f9f19d8d6617a85b3260b"), looks := true }, kinds := [], alts := [], laidByText := true, laidKinds := [.data, .data, .data, .data, .pinned, .pinned], laidTests := true, laidLooks := .later }
def PrintSetsCardSaid : Prop := Claim7.holds Tryz.pinned (.plain (OpenSpec.ofChange printSetsSpec)) printSetsCard

/-- THE TIED CARD OF 'gobolaw14.PrintOnce'. -/
def printOnceCard : Claim7 := { stood := { row := printOnceRow, standIns := [], harness := (true, "d6732ccecb5136f9ccffc1523f355b51742afec1857f9f19d8d6617a85b3260b"), looks := true }, kinds := [], alts := [], laidByText := true, laidKinds := [.data, .data, .data, .data, .pinned, .pinned], laidTests := true, laidLooks := .later }
def PrintOnceCardSaid : Prop := Claim7.holds Tryz.pinned (.plain (OpenSpec.ofChange printOnceSpec)) printOnceCard

/-- THE SECOND FORM's CARD OF 'gobolaw13.ParseAny'. -/
def parseAnyUptoCard : Claim7 := { stood := { row := parseAnyUptoRow, standIns := [], harness := (true, "d6732ccecb5136f9ccffc1523f355b51742afec1857f9f19d8d6617a85b3260b"), looks := true }, kinds := [], alts := [], laidByText := true, laidKinds := [.data, .data, .data, .sentinel, .sentinel], laidTests := true, laidLooks := .later }
def ParseAnyUptoCardSaid : Prop := Claim7.holds Tryz.pinned (.plain (OpenSpec.upto parseAnySpec)) parseAnyUptoCard

/-- THE SECOND FORM's CARD OF 'gobolaw13.ParseBrackets'. -/
def parseBracketsUptoCard : Claim7 := { stood := { row := parseBracketsUptoRow, standIns := [], harness := (true, "d6732ccecb5136f9ccffc1523f355b51742afec1857f9f19d8d6617a85b3260b"), looks := true }, kinds := [], alts := [], laidByText := true, laidKinds := [.data, .data, .data, .sentinel, .sentinel], laidTests := true, laidLooks := .later }
def ParseBracketsUptoCardSaid : Prop := Claim7.holds Tryz.pinned (.plain (OpenSpec.upto parseBracketsSpec)) parseBracketsUptoCard

/-- THE SECOND FORM's CARD OF 'gobolaw13.ParseRunes'. -/
def parseRunesUptoCard : Claim7 := { stood := { row := parseRunesUptoRow, standIns := [], harness := (true, "d6732ccecb5136f9ccffc1523f355b51742afec1857f9f19d8d6617a85b3260b"), looks := true }, kinds := [], alts := [], laidByText := true, laidKinds := [.data, .data, .data, .sentinel, .sentinel], laidTests := true, laidLooks := .later }
def ParseRunesUptoCardSaid : Prop := Claim7.holds Tryz.pinned (.plain (OpenSpec.upto parseRunesSpec)) parseRunesUptoCard

/-- THE SECOND FORM's CARD OF 'gobolaw13.ParseGrammars'. -/
def parseGrammarsUptoCard : Claim7 := { stood := { row := parseGrammarsUptoRow, standIns := [], harness := (true, "d6732ccecb5136f9ccffc1523f355b51742afec1857f9f19d8d6617a85b3260b"), looks := true }, kinds := [], alts := [], laidByText := true, laidKinds := [.data, .data, .data, .sentinel, .sentinel], laidTests := true, laidLooks := .later }
def ParseGrammarsUptoCardSaid : Prop := Claim7.holds Tryz.pinned (.plain (OpenSpec.upto parseGrammarsSpec)) parseGrammarsUptoCard

/-- THE SECOND FORM's CARD OF 'gobolaw13.ParseOrders'. -/
def parseOrdersUptoCard : Claim7 := { stood := { row := parseOrdersUptoRow, standIns := [], harness := (true, "d6732ccecb5136f9ccffc1523f355b51742afec1857f9f19d8d6617a85b3260b"), looks := true }, kinds := [], alts := [], laidByText := true, laidKinds := [.data, .data, .data, .sentinel, .sentinel], laidTests := true, laidLooks := .later }
def ParseOrdersUptoCardSaid : Prop := Claim7.holds Tryz.pinned (.plain (OpenSpec.upto parseOrdersSpec)) parseOrdersUptoCard

/-- THE SECOND FORM's CARD OF 'gobolaw13.ParseCuts'. -/
def parseCutsUptoCard : Claim7 := { stood := { row := parseCutsUptoRow, standIns := [], harness := (true, "d6732ccecb5136f9ccffc1523f355b51742afec1857f9f19d8d6617a85b3260b"), looks := true }, kinds := [], alts := [], laidByText := true, laidKinds := [.data, .data, .data, .sentinel, .sentinel], laidTests := true, laidLooks := .later }
def ParseCutsUptoCardSaid : Prop := Claim7.holds Tryz.pinned (.plain (OpenSpec.upto parseCutsSpec)) parseCutsUptoCard

/-- THE SECOND FORM's CARD OF 'gobolaw14.PrintBack'. -/
def printBackUptoCard : Claim7 := { stood := { row := printBackUptoRow, standIns := [], harness := (true, "d6732ccecb5136f9ccffc1523f355b51742afec1857f9f19d8d6617a85b3260b"), looks := true }, kinds := [], alts := [], laidByText := true, laidKinds := [.data, .data, .data, .data, .sentinel, .sentinel, .pinned, .pinned], laidTests := true, laidLooks := .later }
def PrintBackUptoCardSaid : Prop := Claim7.holds Tryz.pinned (.plain (OpenSpec.upto printBackSpec)) printBackUptoCard

/-- THE SECOND FORM's CARD OF 'gobolaw14.PrintSets'. -/
def printSetsUptoCard : Claim7 := { stood := { row := printSetsUptoRow, standIns := [], harness := (true, "d6732ccecb5136f9ccffc1523f355b51742afec1857f9f19d8d6617a85b3260b"), looks := true }, kinds := [], alts := [], laidByText := true, laidKinds := [.data, .data, .data, .data, .pinned, .pinned], laidTests := true, laidLooks := .later }
def PrintSetsUptoCardSaid : Prop := Claim7.holds Tryz.pinned (.plain (OpenSpec.upto printSetsSpec)) printSetsUptoCard

/-- THE SECOND FORM's CARD OF 'gobolaw14.PrintOnce'. -/
def printOnceUptoCard : Claim7 := { stood := { row := printOnceUptoRow, standIns := [], harness := (true, "d6732ccecb5136f9ccffc1523f355b51742afec1857f9f19d8d6617a85b3260b"), looks := true }, kinds := [], alts := [], laidByText := true, laidKinds := [.data, .data, .data, .data, .pinned, .pinned], laidTests := true, laidLooks := .later }
def PrintOnceUptoCardSaid : Prop := Claim7.holds Tryz.pinned (.plain (OpenSpec.upto printOnceSpec)) printOnceUptoCard
end Rows
end Go.Proofs.YtahckikemljlnaaGreatDoor
