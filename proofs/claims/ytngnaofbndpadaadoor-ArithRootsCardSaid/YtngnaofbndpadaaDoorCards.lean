/-
  DERIVED. GIVEN WITH THE SEED: THE CARDS: each row of YtngnaofbndpadaaDoorRows.lean that lists a variable, with what it lists TIED to the program's text (the seventh form; the later family's looks); each row that meets fmt, with fmt's text TOLD by the authors' own Lean function (tested against real Go, not proved from fmt's source: count such statements apart). THE CARD IS WHAT COUNTS. Prove the row's statement (the work); the ties are given (YtngnaofbndpadaaDoorTie.lean); close each card by the builder's one call (the guide's Derived/Test/ToyasCard.lean, 'card_holds'). Laid BY PROGRAM, IN A SANDBOX (cutbox-door.mjs). By AI agents, Wed Nov 11 2026. No macro, syntax, notation, axiom, sorry.
-/
import Derived.Test.YtngnaofbndpadaaDoorRows
import GoSem.ClaimSeven
namespace Go.Proofs.YtngnaofbndpadaaDoor
namespace Rows

/-- THE TIED CARD OF 'chiasmuslaw08.ArithProducts'. -/
def arithProductsCard : Claim7 := { stood := { row := arithProductsRow, standIns := [], harness := (true, "32587de6a6f8ffee6ed24136c0d6bfcc9f8bbfc008f989f2a5843a74deea0f8d"), looks := true }, kinds := [], alts := [], laidByText := true, laidKinds := [.data, .data, .data, .sentinel, .sentinel], laidTests := true, laidLooks := .later }
def ArithProductsCardSaid : Prop := Claim7.holds Tryd.pinned (.plain (OpenSpec.ofChange arithProductsSpec)) arithProductsCard

/-- THE TIED CARD OF 'chiasmuslaw08.ArithPowers'. -/
def arithPowersCard : Claim7 := { stood := { row := arithPowersRow, standIns := [], harness := (true, "32587de6a6f8ffee6ed24136c0d6bfcc9f8bbfc008f989f2a5843a74deea0f8d"), looks := true }, kinds := [], alts := [], laidByText := true, laidKinds := [.data, .data, .data, .sentinel, .sentinel], laidTests := true, laidLooks := .later }
def ArithPowersCardSaid : Prop := Claim7.holds Tryd.pinned (.plain (OpenSpec.ofChange arithPowersSpec)) arithPowersCard

/-- THE TIED CARD OF 'chiasmuslaw08.ArithRing'. -/
def arithRingCard : Claim7 := { stood := { row := arithRingRow, standIns := [], harness := (true, "32587de6a6f8ffee6ed24136c0d6bfcc9f8bbfc008f989f2a5843a74deea0f8d"), looks := true }, kinds := [], alts := [], laidByText := true, laidKinds := [.data, .data, .data, .sentinel, .sentinel], laidTests := true, laidLooks := .later }
def ArithRingCardSaid : Prop := Claim7.holds Tryd.pinned (.plain (OpenSpec.ofChange arithRingSpec)) arithRingCard

/-- THE TIED CARD OF 'chiasmuslaw08.ArithDivision'. -/
def arithDivisionCard : Claim7 := { stood := { row := arithDivisionRow, standIns := [], harness := (true, "32587de6a6f8ffee6ed24136c0d6bfcc9f8bbfc008f989f2a5843a74deea0f8d"), looks := true }, kinds := [], alts := [], laidByText := true, laidKinds := [.data, .data, .data, .sentinel, .sentinel], laidTests := true, laidLooks := .later }
def ArithDivisionCardSaid : Prop := Claim7.holds Tryd.pinned (.plain (OpenSpec.ofChange arithDivisionSpec)) arithDivisionCard

/-- THE TIED CARD OF 'chiasmuslaw08.ArithRoots'. -/
def arithRootsCard : Claim7 := { stood := { row := arithRootsRow, standIns := [], harness := (true, "32587de6a6f8ffee6ed24136c0d6bfcc9f8bbfc008f989f2a5843a74deea0f8d"), looks := true }, kinds := [], alts := [], laidByText := true, laidKinds := [.data, .data, .data, .sentinel, .sentinel], laidTests := true, laidLooks := .later }
def ArithRootsCardSaid : Prop := Claim7.holds Tryd.pinned (.plain (OpenSpec.ofChange arithRootsSpec)) arithRootsCard

/-- THE SECOND FORM's CARD OF 'chiasmuslaw08.ArithProducts'. -/
def arithProductsUptoCard : Claim7 := { stood := { row := arithProductsUptoRow, standIns := [], harness := (true, "32587de6a6f8ffee6ed24136c0d6bfcc9f8bbfc008f989f2a5843a74deea0f8d"), looks := true }, kinds := [], alts := [], laidByText := true, laidKinds := [.data, .data, .data, .sentinel, .sentinel], laidTests := true, laidLooks := .later }
def ArithProductsUptoCardSaid : Prop := Claim7.holds Tryd.pinned (.plain (OpenSpec.upto arithProductsSpec)) arithProductsUptoCard

/-- THE SECOND FORM's CARD OF 'chiasmuslaw08.ArithPowers'. -/
def arithPowersUptoCard : Claim7 := { stood := { row := arithPowersUptoRow, standIns := [], harness := (true, "32587de6a6f8ffee6ed24136c0d6bfcc9f8bbfc008f989f2a5843a74deea0f8d"), looks := true }, kinds := [], alts := [], laidByText := true, laidKinds := [.data, .data, .data, .sentinel, .sentinel], laidTests := true, laidLooks := .later }
def ArithPowersUptoCardSaid : Prop := Claim7.holds Tryd.pinned (.plain (OpenSpec.upto arithPowersSpec)) arithPowersUptoCard

/-- THE SECOND FORM's CARD OF 'chiasmuslaw08.ArithRing'. -/
def arithRingUptoCard : Claim7 := { stood := { row := arithRingUptoRow, standIns := [], harness := (true, "32587de6a6f8ffee6ed24136c0d6bfcc9f8bbfc008f989f2a5843a74deea0f8d"), looks := true }, kinds := [], alts := [], laidByText := true, laidKinds := [.data, .data, .data, .sentinel, .sentinel], laidTests := true, laidLooks := .later }
def ArithRingUptoCardSaid : Prop := Claim7.holds Tryd.pinned (.plain (OpenSpec.upto arithRingSpec)) arithRingUptoCard

/-- THE SECOND FORM's CARD OF 'chiasmuslaw08.ArithDivision'. -/
def arithDivisionUptoCard : Claim7 := { stood := { row := arithDivisionUptoRow, standIns := [], harness := (true, "32587de6a6f8ffee6ed24136c0d6bfcc9f8bbfc008f989f2a5843a74deea0f8d"), looks := true }, kinds := [], alts := [], laidByText := true, laidKinds := [.data, .data, .data, .sentinel, .sentinel], laidTests := true, laidLooks := .later }
def ArithDivisionUptoCardSaid : Prop := Claim7.holds Tryd.pinned (.plain (OpenSpec.upto arithDivisionSpec)) arithDivisionUptoCard

/-- THE SECOND FORM's CARD OF 'chiasmuslaw08.ArithRoots'. -/
def arithRootsUptoCard : Claim7 := { stood := { row := arithRootsUptoRow, standIns := [], harness := (true, "32587de6a6f8ffee6ed24136c0d6bfcc9f8bbfc008f989f2a5843a74deea0f8d"), looks := true }, kinds := [], alts := [], laidByText := true, laidKinds := [.data, .data, .data, .sentinel, .sentinel], laidTests := true, laidLooks := .later }
def ArithRootsUptoCardSaid : Prop := Claim7.holds Tryd.pinned (.plain (OpenSpec.upto arithRootsSpec)) arithRootsUptoCard
end Rows
end Go.Proofs.YtngnaofbndpadaaDoor
