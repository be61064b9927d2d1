/- A list as an argument: a nil one has no room. -/
import Derived.Test.YtamcobncfbjdmaaRTJ
import Derived.Test.YtamcobncfbjdmaaRLA
namespace Go.Proofs.Ytamcobncfbjdmaa
open Go.ChangeShapes Go.WideShapes Go.ChangeAt Go.RowKit

theorem sqLz_of {H : Type} {enc : TypeId × Value → H} {W : World} {a : Option Addr} {len cap : Nat} {d : DataW H} {ps : List MemPlace} (h : DataW.Trod enc Try.prog W 0 (fun _ => true) true 22 (.slice a len cap) d ps) :
    ∃ l : List Int, l.length = len ∧ l.length ≤ cap ∧ SqL W a l ∧ (a = none → cap = 0) := by
  obtain ⟨l, h1, h2, h3⟩ := sqL_of h
  refine ⟨l, h1, h2, h3, fun e => ?_⟩
  obtain ⟨fuel, hf⟩ := h
  rcases open_ints Try.underlying22 Try.underlying3 Try.cellsInt hf with ⟨hcs, _⟩ | ⟨a', len', cap', zs, hcs, _⟩
  · simp [Value.cells] at hcs
    exact hcs.2.2
  · simp [Value.cells] at hcs
    rw [e] at hcs
    cases hcs.1
end Go.Proofs.Ytamcobncfbjdmaa
