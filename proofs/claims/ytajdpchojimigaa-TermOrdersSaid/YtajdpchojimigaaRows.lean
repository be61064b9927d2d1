/-
  NARROWER THAN 'FOR EVERY INPUT', by the rows' own cells (each row's printed sentence says how): TermErrors: loops · TermOrders: loops · TermParts: loops · TermPlaces: loops · TermTexts: loops · TermBack: loops · TermOrdered: loops.
  DERIVED. THE GIVEN ROWS OF THIS SEAT. 7 by the template 'for every input the law returns true; each argument reads behind the call as it read before'; 0 by the template 'total and deterministic' (their statements: YtajdpchojimigaaTotals.lean).
  GIVEN WITH THE SEED: the statements are not yours to turn. If you find one false, say at which input.
  Laid BY PROGRAM, IN A SANDBOX (cutbox-rows.mjs): the forced cells as the released guide's own fill.sh prints them over the translation 268408305f56b2ed… (all of the seat's roots in one cut). By AI agents, Wed Nov 11 2026. No macro, syntax, notation, axiom, sorry.
-/
import Derived.Test.YtajdpchojimigaaChecked
import GoSem.Claim
import GoSem.ClaimJoined
import GoSem.ClaimMapViews
import Derived.JoinedTies
import Derived.KernelRfl
namespace Go.Proofs.Ytajdpchojimigaa
/- THE CELL 'sum', in the pinned program and in every row, IS THE sha256 OF THE DUMP (.gsa) THAT YtajdpchojimigaaProg.lean LOADS. Nothing in Lean hashes anything: it is a label: what it is worth is what the hold of that sum in a sandbox is worth. -/
noncomputable def Try.pinned : Pinned := { name := "ytajdpchojimigaa", sum := "268408305f56b2ed74506e864878f8ac4c176aaca3b9432683228b6fc1ed407b", checked := Try.checked }
namespace Rows
def none {H : Type} : Left H := { results := [], args := [] }

/-- 'chiasmuslaw01.TermErrors': WHATEVER THE INPUT: true; the input reads as it did. -/
def termErrorsSpec : ChangeSpec := { name := "termErrors", fn := fun _ => fun
  | [d] => { results := [.lit (.bool true)], args := [d] }
  | _ => none }
def termErrorsRow : OpenClaim := { program := "ytajdpchojimigaa", sum := "268408305f56b2ed74506e864878f8ac4c176aaca3b9432683228b6fc1ed407b", func := "chiasmus/chiasmuslaw01.TermErrors", spec := "termErrors", inPlace := ["internal/abi.NoEscape"], unfollowed := true, recurses := true, loops := true, apart := false }
def TermErrorsSaid : Prop := termErrorsRow.holds Try.pinned (OpenSpec.ofChange termErrorsSpec)

/-- ITS FALSE NEIGHBOUR: 'it returns false'. Refute it at one input. -/
def termErrorsWrong : ChangeSpec := { name := "termErrors", fn := fun _ => fun
  | [d] => { results := [.lit (.bool false)], args := [d] }
  | _ => none }
def TermErrorsWrongFalsely : Prop := termErrorsRow.holds Try.pinned (OpenSpec.ofChange termErrorsWrong)

/-- 'chiasmuslaw01.TermOrders': WHATEVER THE INPUT: true; the input reads as it did. -/
def termOrdersSpec : ChangeSpec := { name := "termOrders", fn := fun _ => fun
  | [d1, d2] => { results := [.lit (.bool true)], args := [d1, d2] }
  | _ => none }
def termOrdersRow : OpenClaim := { program := "ytajdpchojimigaa", sum := "268408305f56b2ed74506e864878f8ac4c176aaca3b9432683228b6fc1ed407b", func := "chiasmus/chiasmuslaw01.TermOrders", spec := "termOrders", inPlace := ["internal/abi.NoEscape"], unfollowed := true, recurses := true, loops := true, apart := false }
def TermOrdersSaid : Prop := termOrdersRow.holds Try.pinned (OpenSpec.ofChange termOrdersSpec)

/-- ITS FALSE NEIGHBOUR: 'it returns false'. Refute it at one input. -/
def termOrdersWrong : ChangeSpec := { name := "termOrders", fn := fun _ => fun
  | [d1, d2] => { results := [.lit (.bool false)], args := [d1, d2] }
  | _ => none }
def TermOrdersWrongFalsely : Prop := termOrdersRow.holds Try.pinned (OpenSpec.ofChange termOrdersWrong)

/-- 'chiasmuslaw01.TermParts': WHATEVER THE INPUT: true; the input reads as it did. -/
def termPartsSpec : ChangeSpec := { name := "termParts", fn := fun _ => fun
  | [d1, d2] => { results := [.lit (.bool true)], args := [d1, d2] }
  | _ => none }
def termPartsRow : OpenClaim := { program := "ytajdpchojimigaa", sum := "268408305f56b2ed74506e864878f8ac4c176aaca3b9432683228b6fc1ed407b", func := "chiasmus/chiasmuslaw01.TermParts", spec := "termParts", inPlace := ["internal/abi.NoEscape"], unfollowed := true, recurses := true, loops := true, apart := false }
def TermPartsSaid : Prop := termPartsRow.holds Try.pinned (OpenSpec.ofChange termPartsSpec)

/-- ITS FALSE NEIGHBOUR: 'it returns false'. Refute it at one input. -/
def termPartsWrong : ChangeSpec := { name := "termParts", fn := fun _ => fun
  | [d1, d2] => { results := [.lit (.bool false)], args := [d1, d2] }
  | _ => none }
def TermPartsWrongFalsely : Prop := termPartsRow.holds Try.pinned (OpenSpec.ofChange termPartsWrong)

/-- 'chiasmuslaw01.TermPlaces': WHATEVER THE INPUT: true; the input reads as it did. -/
def termPlacesSpec : ChangeSpec := { name := "termPlaces", fn := fun _ => fun
  | [d1, d2, d3] => { results := [.lit (.bool true)], args := [d1, d2, d3] }
  | _ => none }
def termPlacesRow : OpenClaim := { program := "ytajdpchojimigaa", sum := "268408305f56b2ed74506e864878f8ac4c176aaca3b9432683228b6fc1ed407b", func := "chiasmus/chiasmuslaw01.TermPlaces", spec := "termPlaces", inPlace := ["internal/abi.NoEscape", "slices.overlaps[chiasmus/api.Term]"], unfollowed := true, recurses := true, loops := true, apart := false }
def TermPlacesSaid : Prop := termPlacesRow.holds Try.pinned (OpenSpec.ofChange termPlacesSpec)

/-- ITS FALSE NEIGHBOUR: 'it returns false'. Refute it at one input. -/
def termPlacesWrong : ChangeSpec := { name := "termPlaces", fn := fun _ => fun
  | [d1, d2, d3] => { results := [.lit (.bool false)], args := [d1, d2, d3] }
  | _ => none }
def TermPlacesWrongFalsely : Prop := termPlacesRow.holds Try.pinned (OpenSpec.ofChange termPlacesWrong)

/-- 'chiasmuslaw01.TermTexts': WHATEVER THE INPUT: true; the input reads as it did. -/
def termTextsSpec : ChangeSpec := { name := "termTexts", fn := fun _ => fun
  | [d1, d2] => { results := [.lit (.bool true)], args := [d1, d2] }
  | _ => none }
def termTextsRow : OpenClaim := { program := "ytajdpchojimigaa", sum := "268408305f56b2ed74506e864878f8ac4c176aaca3b9432683228b6fc1ed407b", func := "chiasmus/chiasmuslaw01.TermTexts", spec := "termTexts", inPlace := ["internal/abi.NoEscape"], unfollowed := true, recurses := true, loops := true, apart := false }
def TermTextsSaid : Prop := termTextsRow.holds Try.pinned (OpenSpec.ofChange termTextsSpec)

/-- ITS FALSE NEIGHBOUR: 'it returns false'. Refute it at one input. -/
def termTextsWrong : ChangeSpec := { name := "termTexts", fn := fun _ => fun
  | [d1, d2] => { results := [.lit (.bool false)], args := [d1, d2] }
  | _ => none }
def TermTextsWrongFalsely : Prop := termTextsRow.holds Try.pinned (OpenSpec.ofChange termTextsWrong)

/-- 'chiasmuslaw01.TermBack': WHATEVER THE INPUT: true; the input reads as it did. -/
def termBackSpec : ChangeSpec := { name := "termBack", fn := fun _ => fun
  | [d1, d2] => { results := [.lit (.bool true)], args := [d1, d2] }
  | _ => none }
def termBackRow : OpenClaim := { program := "ytajdpchojimigaa", sum := "268408305f56b2ed74506e864878f8ac4c176aaca3b9432683228b6fc1ed407b", func := "chiasmus/chiasmuslaw01.TermBack", spec := "termBack", inPlace := ["internal/abi.NoEscape"], unfollowed := true, recurses := true, loops := true, apart := false }
def TermBackSaid : Prop := termBackRow.holds Try.pinned (OpenSpec.ofChange termBackSpec)

/-- ITS FALSE NEIGHBOUR: 'it returns false'. Refute it at one input. -/
def termBackWrong : ChangeSpec := { name := "termBack", fn := fun _ => fun
  | [d1, d2] => { results := [.lit (.bool false)], args := [d1, d2] }
  | _ => none }
def TermBackWrongFalsely : Prop := termBackRow.holds Try.pinned (OpenSpec.ofChange termBackWrong)

/-- 'chiasmuslaw01.TermOrdered': WHATEVER THE INPUT: true; the input reads as it did. -/
def termOrderedSpec : ChangeSpec := { name := "termOrdered", fn := fun _ => fun
  | [d1, d2, d3, d4, d5] => { results := [.lit (.bool true)], args := [d1, d2, d3, d4, d5] }
  | _ => none }
def termOrderedRow : OpenClaim := { program := "ytajdpchojimigaa", sum := "268408305f56b2ed74506e864878f8ac4c176aaca3b9432683228b6fc1ed407b", func := "chiasmus/chiasmuslaw01.TermOrdered", spec := "termOrdered", inPlace := ["internal/abi.NoEscape", "slices.overlaps[chiasmus/api.Term]"], unfollowed := true, recurses := true, loops := true, apart := false }
def TermOrderedSaid : Prop := termOrderedRow.holds Try.pinned (OpenSpec.ofChange termOrderedSpec)

/-- ITS FALSE NEIGHBOUR: 'it returns false'. Refute it at one input. -/
def termOrderedWrong : ChangeSpec := { name := "termOrdered", fn := fun _ => fun
  | [d1, d2, d3, d4, d5] => { results := [.lit (.bool false)], args := [d1, d2, d3, d4, d5] }
  | _ => none }
def TermOrderedWrongFalsely : Prop := termOrderedRow.holds Try.pinned (OpenSpec.ofChange termOrderedWrong)

/- THE SECOND FORM. 'bulk': how many values and letters a reading holds, each counted each time it is reached (what is shared counts as often as it is met; a slice's spare places count too). A statement '..UptoSaid' is the law's where the arguments, and the package variables that the reading takes, are together of bulk at most 1048576: NARROWER than '..Said'. Prove '..Said' where nothing that the law and all that it calls make is longer than what came in: it says more and counts as full. Else prove '..UptoSaid'. A law counts once. -/
mutual
def uptoBulk {H : Type} : DataW H → Nat
  | .lit (.string bytes) => bytes.length + 1
  | .lit _ => 1
  | .nil => 1
  | .ptr d => uptoBulk d + 1
  | .slice elems spare => uptoBulkAll elems + uptoBulkAll spare + 1
  | .agg parts => uptoBulkAll parts + 1
  | .iface _ d => uptoBulk d + 1
  | .map entries => uptoBulkEntries entries + 1
  | .held _ => 1
def uptoBulkAll {H : Type} : List (DataW H) → Nat
  | [] => 0
  | d :: r => uptoBulk d + uptoBulkAll r
def uptoBulkEntries {H : Type} : List (Lit × DataW H) → Nat
  | [] => 0
  | x :: r => uptoBulkEntry x + uptoBulkEntries r
def uptoBulkEntry {H : Type} : Lit × DataW H → Nat
  | (.string bytes, d) => bytes.length + uptoBulk d + 1
  | (_, d) => uptoBulk d + 1
 end
def uptoSmall : (H : Type) → List (DataW H) → Bool := fun _ ds => decide (uptoBulkAll ds ≤ 1048576)
def OpenSpec.upto (s : _root_.Go.ChangeSpec) : _root_.Go.OpenSpec := { _root_.Go.OpenSpec.ofChange s with cond := some uptoSmall }

/-- 'chiasmuslaw01.TermErrors', WHERE WHAT IT READS IS OF BULK AT MOST 1048576: true; the input reads as it did. -/
def termErrorsUptoRow : OpenClaim := { program := "ytajdpchojimigaa", sum := "268408305f56b2ed74506e864878f8ac4c176aaca3b9432683228b6fc1ed407b", func := "chiasmus/chiasmuslaw01.TermErrors", spec := "termErrors", inPlace := ["internal/abi.NoEscape"], unfollowed := true, recurses := true, loops := true, apart := false, narrowed := true }
def TermErrorsUptoSaid : Prop := termErrorsUptoRow.holds Try.pinned (OpenSpec.upto termErrorsSpec)

/-- 'chiasmuslaw01.TermOrders', WHERE WHAT IT READS IS OF BULK AT MOST 1048576: true; the input reads as it did. -/
def termOrdersUptoRow : OpenClaim := { program := "ytajdpchojimigaa", sum := "268408305f56b2ed74506e864878f8ac4c176aaca3b9432683228b6fc1ed407b", func := "chiasmus/chiasmuslaw01.TermOrders", spec := "termOrders", inPlace := ["internal/abi.NoEscape"], unfollowed := true, recurses := true, loops := true, apart := false, narrowed := true }
def TermOrdersUptoSaid : Prop := termOrdersUptoRow.holds Try.pinned (OpenSpec.upto termOrdersSpec)

/-- 'chiasmuslaw01.TermParts', WHERE WHAT IT READS IS OF BULK AT MOST 1048576: true; the input reads as it did. -/
def termPartsUptoRow : OpenClaim := { program := "ytajdpchojimigaa", sum := "268408305f56b2ed74506e864878f8ac4c176aaca3b9432683228b6fc1ed407b", func := "chiasmus/chiasmuslaw01.TermParts", spec := "termParts", inPlace := ["internal/abi.NoEscape"], unfollowed := true, recurses := true, loops := true, apart := false, narrowed := true }
def TermPartsUptoSaid : Prop := termPartsUptoRow.holds Try.pinned (OpenSpec.upto termPartsSpec)

/-- 'chiasmuslaw01.TermPlaces', WHERE WHAT IT READS IS OF BULK AT MOST 1048576: true; the input reads as it did. -/
def termPlacesUptoRow : OpenClaim := { program := "ytajdpchojimigaa", sum := "268408305f56b2ed74506e864878f8ac4c176aaca3b9432683228b6fc1ed407b", func := "chiasmus/chiasmuslaw01.TermPlaces", spec := "termPlaces", inPlace := ["internal/abi.NoEscape", "slices.overlaps[chiasmus/api.Term]"], unfollowed := true, recurses := true, loops := true, apart := false, narrowed := true }
def TermPlacesUptoSaid : Prop := termPlacesUptoRow.holds Try.pinned (OpenSpec.upto termPlacesSpec)

/-- 'chiasmuslaw01.TermTexts', WHERE WHAT IT READS IS OF BULK AT MOST 1048576: true; the input reads as it did. -/
def termTextsUptoRow : OpenClaim := { program := "ytajdpchojimigaa", sum := "268408305f56b2ed74506e864878f8ac4c176aaca3b9432683228b6fc1ed407b", func := "chiasmus/chiasmuslaw01.TermTexts", spec := "termTexts", inPlace := ["internal/abi.NoEscape"], unfollowed := true, recurses := true, loops := true, apart := false, narrowed := true }
def TermTextsUptoSaid : Prop := termTextsUptoRow.holds Try.pinned (OpenSpec.upto termTextsSpec)

/-- 'chiasmuslaw01.TermBack', WHERE WHAT IT READS IS OF BULK AT MOST 1048576: true; the input reads as it did. -/
def termBackUptoRow : OpenClaim := { program := "ytajdpchojimigaa", sum := "268408305f56b2ed74506e864878f8ac4c176aaca3b9432683228b6fc1ed407b", func := "chiasmus/chiasmuslaw01.TermBack", spec := "termBack", inPlace := ["internal/abi.NoEscape"], unfollowed := true, recurses := true, loops := true, apart := false, narrowed := true }
def TermBackUptoSaid : Prop := termBackUptoRow.holds Try.pinned (OpenSpec.upto termBackSpec)

/-- 'chiasmuslaw01.TermOrdered', WHERE WHAT IT READS IS OF BULK AT MOST 1048576: true; the input reads as it did. -/
def termOrderedUptoRow : OpenClaim := { program := "ytajdpchojimigaa", sum := "268408305f56b2ed74506e864878f8ac4c176aaca3b9432683228b6fc1ed407b", func := "chiasmus/chiasmuslaw01.TermOrdered", spec := "termOrdered", inPlace := ["internal/abi.NoEscape", "slices.overlaps[chiasmus/api.Term]"], unfollowed := true, recurses := true, loops := true, apart := false, narrowed := true }
def TermOrderedUptoSaid : Prop := termOrderedUptoRow.holds Try.pinned (OpenSpec.upto termOrderedSpec)

end Rows
end Go.Proofs.Ytajdpchojimigaa
