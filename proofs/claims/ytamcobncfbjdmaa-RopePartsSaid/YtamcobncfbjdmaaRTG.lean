/- The program's parts are the reference's. -/
import Derived.Test.YtamcobncfbjdmaaRTF
namespace Go.Proofs.Ytamcobncfbjdmaa

theorem take_of_min {l : List Int} {a b : Nat} (h : min a l.length = min b l.length) : l.take a = l.take b := by
  apply List.ext_getElem?
  intro j
  rw [List.getElem?_take, List.getElem?_take]
  by_cases hj : j < l.length
  · have : j < a ↔ j < b := by omega
    simp only [this]
  · rw [List.getElem?_eq_none (by omega)]
    simp

theorem drop_of_min {l : List Int} {a b : Nat} (h : min a l.length = min b l.length) : l.drop a = l.drop b := by
  apply List.ext_getElem?
  intro j
  rw [List.getElem?_drop, List.getElem?_drop]
  by_cases hj : a < l.length
  · have : a = b := by omega
    rw [this]
  · rw [List.getElem?_eq_none (by omega), List.getElem?_eq_none (by omega)]

theorem parts_eq {l : List Int} {f t F' T' : Int} {F T0 T : Nat} (h1 : max f 0 = F') (h2 : max F' t = T') (hF : min (max f 0) (l.length : Int) = F) (hT0 : min (max t 0) (l.length : Int) = T0) (hT : max T0 F = T) :
    (l.take T'.toNat).take F'.toNat = l.take F ∧ (l.take T'.toNat).drop F'.toNat = (l.take T).drop F ∧ l.drop T'.toNat = l.drop T := by
  have e1 : min F'.toNat l.length = min F l.length := by omega
  have e2 : min T'.toNat l.length = min T l.length := by omega
  have e3 : F'.toNat ≤ T'.toNat := by omega
  refine ⟨?_, ?_, drop_of_min e2⟩
  · rw [List.take_take]
    exact take_of_min (by omega)
  · rw [take_of_min e2]
    refine drop_of_min ?_
    rw [List.length_take]
    omega
end Go.Proofs.Ytamcobncfbjdmaa
