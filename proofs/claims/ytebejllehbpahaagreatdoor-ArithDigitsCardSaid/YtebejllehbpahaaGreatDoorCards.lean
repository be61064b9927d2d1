/-
  DERIVED. GIVEN WITH THE SEED: THE CARDS: each row of YtebejllehbpahaaGreatDoorRows.lean that lists a variable, with what it lists TIED to the program's text (the seventh form; the later family's looks); each row that meets fmt, with fmt's text TOLD by the authors' own Lean function (tested against real Go, not proved from fmt's source: count such statements apart). THE CARD IS WHAT COUNTS. Prove the row's statement (the work); the ties are given (YtebejllehbpahaaGreatDoorTie.lean); close each card by the builder's one call (the guide's Derived/Test/ToyasCard.lean, 'card_holds'). Laid BY PROGRAM, IN A SANDBOX (cutbox-door.mjs). By AI agents, Wed Nov 11 2026. No macro, syntax, notation, axiom, sorry.
-/
import Derived.Test.YtebejllehbpahaaGreatDoorRows
import GoSem.ClaimSeven
namespace Go.Proofs.YtebejllehbpahaaGreatDoor
namespace Rows

/-- THE TIED CARD OF 'chiasmuslaw08.ArithSums'. -/
def arithSumsCard : Claim7 := { stood := { row := arithSumsRow, standIns := [], harness := (true, "779dc4eb39ae5f79a4ac5ba718a7bcd12cdc93b4321a12951d2c536a6239d490"), looks := true }, kinds := [], alts := [], laidByText := true, laidKinds := [.data, .data, .data, .sentinel, .sentinel], laidTests := true, laidLooks := .later }
def ArithSumsCardSaid : Prop := Claim7.holds Tryz.pinned (.plain (OpenSpec.ofChange arithSumsSpec)) arithSumsCard

/-- THE TIED CARD OF 'chiasmuslaw08.ArithDigits'. -/
def arithDigitsCard : Claim7 := { stood := { row := arithDigitsRow, standIns := [], harness := (true, "779dc4eb39ae5f79a4ac5ba718a7bcd12cdc93b4321a12951d2c536a6239d490"), looks := true }, kinds := [], alts := [], laidByText := true, laidKinds := [.data, .data, .data, .sentinel, .sentinel], laidTests := true, laidLooks := .later }
def ArithDigitsCardSaid : Prop := Claim7.holds Tryz.pinned (.plain (OpenSpec.ofChange arithDigitsSpec)) arithDigitsCard

/-- THE SECOND FORM's CARD OF 'chiasmuslaw08.ArithSums'. -/
def arithSumsUptoCard : Claim7 := { stood := { row := arithSumsUptoRow, standIns := [], harness := (true, "779dc4eb39ae5f79a4ac5ba718a7bcd12cdc93b4321a12951d2c536a6239d490"), looks := true }, kinds := [], alts := [], laidByText := true, laidKinds := [.data, .data, .data, .sentinel, .sentinel], laidTests := true, laidLooks := .later }
def ArithSumsUptoCardSaid : Prop := Claim7.holds Tryz.pinned (.plain (OpenSpec.upto arithSumsSpec)) arithSumsUptoCard

/-- THE SECOND FORM's CARD OF 'chiasmuslaw08.ArithDigits'. -/
def arithDigitsUptoCard : Claim7 := { stood := { row := arithDigitsUptoRow, standIns := [], harness := (true, "779dc4eb39ae5f79a4ac5ba718a7bcd12cdc93b4321a12951d2c536a6239d490"), looks := true }, kinds := [], alts := [], laidByText := true, laidKinds := [.data, .data, .data, .sentinel, .sentinel], laidTests := true, laidLooks := .later }
def ArithDigitsUptoCardSaid : Prop := Claim7.holds Tryz.pinned (.plain (OpenSpec.upto arithDigitsSpec)) arithDigitsUptoCard
end Rows
end Go.Proofs.YtebejllehbpahaaGreatDoor
