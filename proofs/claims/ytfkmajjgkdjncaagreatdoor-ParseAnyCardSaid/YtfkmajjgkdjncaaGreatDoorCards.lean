/-
  DERIVED. GIVEN WITH THE SEED: THE CARDS: each row of YtfkmajjgkdjncaaGreatDoorRows.lean that lists a variable, with what it lists TIED to the program's text (the seventh form; the later family's looks); each row that meets fmt, with fmt's text TOLD by the authors' own Lean function (tested against real Go, not proved from fmt's source: count such statements apart). THE CARD IS WHAT COUNTS. Prove the row's statement (the work); the ties are given (YtfkmajjgkdjncaaGreatDoorTie.lean); close each card by the builder's one call (the guide's Derived/Test/ToyasCard.lean, 'card_holds'). Laid BY PROGRAM, IN A SANDBOX (cutbox-door.mjs). By AI agents, Wed Nov 11 2026. No macro, syntax, notation, axiom, sorry.
-/
import Derived.Test.YtfkmajjgkdjncaaGreatDoorRows
import GoSem.ClaimSeven
namespace Go.Proofs.YtfkmajjgkdjncaaGreatDoor
namespace Rows

/-- THE TIED CARD OF 'gobolaw13.ParseAny'. -/
def parseAnyCard : Claim7 := { stood := { row := parseAnyRow, standIns := [], harness := (true, "b58d51366bceefe63c0d07a68a8f42bbd81580105ff6f9beff199fcec8f4214e"), looks := true }, kinds := [], alts := [], laidByText := true, laidKinds := [.data, .data, .data, .sentinel, .sentinel], laidTests := true, laidLooks := .later }
def ParseAnyCardSaid : Prop := Claim7.holds Tryz.pinned (.plain (OpenSpec.ofChange parseAnySpec)) parseAnyCard

/-- THE TIED CARD OF 'gobolaw13.ParseBrackets'. -/
def parseBracketsCard : Claim7 := { stood := { row := parseBracketsRow, standIns := [], harness := (true, "b58d51366bceefe63c0d07a68a8f42bbd81580105ff6f9beff199fcec8f4214e"), looks := true }, kinds := [], alts := [], laidByText := true, laidKinds := [.data, .data, .data, .sentinel, .sentinel], laidTests := true, laidLooks := .later }
def ParseBracketsCardSaid : Prop := Claim7.holds Tryz.pinned (.plain (OpenSpec.ofChange parseBracketsSpec)) parseBracketsCard

/-- THE TIED CARD OF 'gobolaw13.ParseRunes'. -/
def parseRunesCard : Claim7 := { stood := { row := parseRunesRow, standIns := [], harness := (true, "b58d51366bceefe63c0d07a68a8f42bbd81580105ff6f9beff199fcec8f4214e"), looks := true }, kinds := [], alts := [], laidByText := true, laidKinds := [.data, .data, .data, .sentinel, .sentinel], laidTests := true, laidLooks := .later }
def ParseRunesCardSaid : Prop := Claim7.holds Tryz.pinned (.plain (OpenSpec.ofChange parseRunesSpec)) parseRunesCard

/-- THE TIED CARD OF 'gobolaw13.ParseGrammars'. -/
def parseGrammarsCard : Claim7 := { stood := { row := parseGrammarsRow, standIns := [], harness := (true, "b58d51366bceefe63c0d07a68a8f42bbd81580105ff6f9beff199fcec8f4214e"), looks := true }, kinds := [], alts := [], laidByText := true, laidKinds := [.data, .data, .data, .sentinel, .sentinel], laidTests := true, laidLooks := .later }
def ParseGrammarsCardSaid : Prop := Claim7.holds Tryz.pinned (.plain (OpenSpec.ofChange parseGrammarsSpec)) parseGrammarsCard

/-- THE TIED CARD OF 'gobolaw13.ParseOrders'. -/
def parseOrdersCard : Claim7 := { stood := { row := parseOrdersRow, standIns := [], harness := (true, "b58d51366bceefe63c0d07a68a8f42bbd81580105ff6f9beff199fcec8f4214e"), looks := true }, kinds := [], alts := [], laidByText := true, laidKinds := [.data, .data, .data, .sentinel, .sentinel], laidTests := true, laidLooks := .later }
def ParseOrdersCardSaid : Prop := Claim7.holds Tryz.pinned (.plain (OpenSpec.ofChange parseOrdersSpec)) parseOrdersCard

/-- THE TIED CARD OF 'gobolaw13.ParseCuts'. -/
def parseCutsCard : Claim7 := { stood := { row := parseCutsRow, standIns := [], harness := (true, "b58d51366bceefe63c0d07a68a8f42bbd81580105ff6f9beff199fcec8f4214e"), looks := true }, kinds := [], alts := [], laidByText := true, laidKinds := [.data, .data, .data, .sentinel, .sentinel], laidTests := true, laidLooks := .later }
def ParseCutsCardSaid : Prop := Claim7.holds Tryz.pinned (.plain (OpenSpec.ofChange parseCutsSpec)) parseCutsCard

/-- THE SECOND FORM's CARD OF 'gobolaw13.ParseAny'. -/
def parseAnyUptoCard : Claim7 := { stood := { row := parseAnyUptoRow, standIns := [], harness := (true, "b58d51366bceefe63c0d07a68a8f42bbd81580105ff6f9beff199fcec8f4214e"), looks := true }, kinds := [], alts := [], laidByText := true, laidKinds := [.data, .data, .data, .sentinel, .sentinel], laidTests := true, laidLooks := .later }
def ParseAnyUptoCardSaid : Prop := Claim7.holds Tryz.pinned (.plain (OpenSpec.upto parseAnySpec)) parseAnyUptoCard

/-- THE SECOND FORM's CARD OF 'gobolaw13.ParseBrackets'. -/
def parseBracketsUptoCard : Claim7 := { stood := { row := parseBracketsUptoRow, standIns := [], harness := (true, "b58d51366bceefe63c0d07a68a8f42bbd81580105ff6f9beff199fcec8f4214e"), looks := true }, kinds := [], alts := [], laidByText := true, laidKinds := [.data, .data, .data, .sentinel, .sentinel], laidTests := true, laidLooks := .later }
def ParseBracketsUptoCardSaid : Prop := Claim7.holds Tryz.pinned (.plain (OpenSpec.upto parseBracketsSpec)) parseBracketsUptoCard

/-- THE SECOND FORM's CARD OF 'gobolaw13.ParseRunes'. -/
def parseRunesUptoCard : Claim7 := { stood := { row := parseRunesUptoRow, standIns := [], harness := (true, "b58d51366bceefe63c0d07a68a8f42bbd81580105ff6f9beff199fcec8f4214e"), looks := true }, kinds := [], alts := [], laidByText := true, laidKinds := [.data, .data, .data, .sentinel, .sentinel], laidTests := true, laidLooks := .later }
def ParseRunesUptoCardSaid : Prop := Claim7.holds Tryz.pinned (.plain (OpenSpec.upto parseRunesSpec)) parseRunesUptoCard

/-- THE SECOND FORM's CARD OF 'gobolaw13.ParseGrammars'. -/
def parseGrammarsUptoCard : Claim7 := { stood := { row := parseGrammarsUptoRow, standIns := [], harness := (true, "b58d51366bceefe63c0d07a68a8f42bbd81580105ff6f9beff199fcec8f4214e"), looks := true }, kinds := [], alts := [], laidByText := true, laidKinds := [.data, .data, .data, .sentinel, .sentinel], laidTests := true, laidLooks := .later }
def ParseGrammarsUptoCardSaid : Prop := Claim7.holds Tryz.pinned (.plain (OpenSpec.upto parseGrammarsSpec)) parseGrammarsUptoCard

/-- THE SECOND FORM's CARD OF 'gobolaw13.ParseOrders'. -/
def parseOrdersUptoCard : Claim7 := { stood := { row := parseOrdersUptoRow, standIns := [], harness := (true, "b58d51366bceefe63c0d07a68a8f42bbd81580105ff6f9beff199fcec8f4214e"), looks := true }, kinds := [], alts := [], laidByText := true, laidKinds := [.data, .data, .data, .sentinel, .sentinel], laidTests := true, laidLooks := .later }
def ParseOrdersUptoCardSaid : Prop := Claim7.holds Tryz.pinned (.plain (OpenSpec.upto parseOrdersSpec)) parseOrdersUptoCard

/-- THE SECOND FORM's CARD OF 'gobolaw13.ParseCuts'. -/
def parseCutsUptoCard : Claim7 := { stood := { row := parseCutsUptoRow, standIns := [], harness := (true, "b58d51366bceefe63c0d07a68a8f42bbd81580105ff6f9beff199fcec8f4214e"), looks := true }, kinds := [], alts := [], laidByText := true, laidKinds := [.data, .data, .data, .sentinel, .sentinel], laidTests := true, laidLooks := .later }
def ParseCutsUptoCardSaid : Prop := Claim7.holds Tryz.pinned (.plain (OpenSpec.upto parseCutsSpec)) parseCutsUptoCard
end Rows
end Go.Proofs.YtfkmajjgkdjncaaGreatDoor
