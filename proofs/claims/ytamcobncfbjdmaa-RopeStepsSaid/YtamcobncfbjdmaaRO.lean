/- Lists as arguments and ropes: Of, slices.Equal; boxes that stay. -/
import Derived.Test.YtamcobncfbjdmaaRTD
import Derived.Test.YtamcobncfbjdmaaRLA
import Derived.Test.YtamcobncfbjdmaaRI4
namespace Go.Proofs.Ytamcobncfbjdmaa
open Go.RowKit Go.Shelf Go.BigFrame
attribute [local go_sem] Oper.semAt_some

/-- slices.Equal of a list in a block and the same list as an argument. -/
theorem eqSq_any (g c1 : Nat) (p : Option Addr) (c : Nat) (l : List Int) (w : World) (h1 : ∀ j x, l[j]? = some x → w.cell? ⟨g, j, none⟩ = some (encI x)) (hq : SqL w p l) (hm : l.length ≤ 1000000) :
    Calls Try.prog 32 #[.slice (some ⟨g, 0, none⟩) l.length c1, .slice p l.length c] w (fun e w' => e = .returned (.bool true) ∧ Hid (Below w.heap.size w w')) := by
  cases hl : l with
  | nil => exact (Try.slices_Equal_int_empty _ _ c1 0 c w (by decide)).mono (by rintro e w' ⟨rfl, rfl⟩; exact ⟨rfl, Lib.hid (Below.refl _ _)⟩)
  | cons x xs =>
    rw [← hl]
    obtain ⟨b, o, rfl, _, _⟩ := hq 0 x (by rw [hl]; rfl)
    refine (Try.slices_Equal_int g 0 l.length c1 b o l.length c l l w (Nat.le_refl _) (Nat.le_refl _) (by omega) (by omega) (fun j hj => ?_) (fun j hj => ?_)).mono ?_
    · rw [Nat.zero_add]
      exact h1 j _ (by rw [List.getD_eq_getElem?_getD, List.getElem?_eq_getElem hj]; rfl)
    · obtain ⟨b', o', he, _, h3⟩ := hq j (l.getD j 0) (by rw [List.getD_eq_getElem?_getD, List.getElem?_eq_getElem hj]; rfl)
      cases he
      exact h3
    · rintro e w' ⟨rfl, q, rfl⟩
      exact ⟨by simp, Lib.hid (below_drewN (Below.refl _ _) q)⟩

/-- what stays within the long region: three boxes. -/
theorem keep3 {W4 : World} {b1 b2 b3 : Nat} {v1 v2 v3 : Value} {w1 w2 : World} (hb : Below w1.heap.size w1 w2) (h : w1.cell? ⟨b1, 0, none⟩ = some v1 ∧ w1.cell? ⟨b2, 0, none⟩ = some v2 ∧ w1.cell? ⟨b3, 0, none⟩ = some v3 ∧ Hid ((b1 < W4.heap.size ∧ b2 < W4.heap.size ∧ b3 < W4.heap.size) ∧ Below W4.heap.size W4 w1)) :
    w2.cell? ⟨b1, 0, none⟩ = some v1 ∧ w2.cell? ⟨b2, 0, none⟩ = some v2 ∧ w2.cell? ⟨b3, 0, none⟩ = some v3 ∧ Hid ((b1 < W4.heap.size ∧ b2 < W4.heap.size ∧ b3 < W4.heap.size) ∧ Below W4.heap.size W4 w2) := by
  obtain ⟨h1, h2, h3, h4⟩ := h
  obtain ⟨⟨l1, l2, l3⟩, h5⟩ := h4.out
  have hs := h5.size
  exact ⟨(hb.cell (p := ⟨b1, 0, none⟩) (by show b1 < w1.heap.size; omega)).trans h1, (hb.cell (p := ⟨b2, 0, none⟩) (by show b2 < w1.heap.size; omega)).trans h2, (hb.cell (p := ⟨b3, 0, none⟩) (by show b3 < w1.heap.size; omega)).trans h3, Lib.hid ⟨⟨l1, l2, l3⟩, h5.trans (hb.mono hs)⟩⟩
theorem below3 {W4 : World} {b1 b2 b3 : Nat} {v1 v2 v3 : Value} {w1 : World} (h : w1.cell? ⟨b1, 0, none⟩ = some v1 ∧ w1.cell? ⟨b2, 0, none⟩ = some v2 ∧ w1.cell? ⟨b3, 0, none⟩ = some v3 ∧ Hid ((b1 < W4.heap.size ∧ b2 < W4.heap.size ∧ b3 < W4.heap.size) ∧ Below W4.heap.size W4 w1)) : Below W4.heap.size W4 w1 := h.2.2.2.out.2
/-- Of of a list that is an argument. -/
theorem ofArg_any (p : Option Addr) (n c : Nat) (l : List Int) (w : World) (hn : n = l.length) (hq : SqL w p l) (hc : n ≤ c) (hl : n ≤ 1000000) :
    Calls Try.prog 12 #[.slice p n c] w (fun r w' => ∃ a, r = .returned (.agg #[.pointer a]) ∧ Hid (Holds w' a l) ∧ Hid (Below w.heap.size w w')) := by
  subst hn
  refine (pOfI_any _ l w (hq.sq hc) hl).mono ?_
  rintro r w' ⟨a, rfl, h1, h2⟩
  refine ⟨a, rfl, Lib.hid ⟨ofO l, h1.out, fun t e => ?_, ofO_list l⟩, h2⟩
  unfold ofO at e
  split at e
  · cases e
  · next h => cases e; exact bld_lv _ _ (Nat.le_refl _) (by cases l with | nil => exact absurd rfl h | cons => simp)

end Go.Proofs.Ytamcobncfbjdmaa
namespace Go.Proofs.Ytamcobncfbjdmaa
open Go.ChangeShapes Go.WideShapes Go.ChangeAt Go.RowKit

theorem sqLz_of {H : Type} {enc : TypeId × Value → H} {W : World} {a : Option Addr} {len cap : Nat} {d : DataW H} {ps : List MemPlace} (h : DataW.Trod enc Try.prog W 0 (fun _ => true) true 22 (.slice a len cap) d ps) :
    ∃ l : List Int, l.length = len ∧ l.length ≤ cap ∧ SqL W a l ∧ (a = none → cap = 0) := by
  obtain ⟨l, h1, h2, h3⟩ := sqL_of h
  refine ⟨l, h1, h2, h3, fun e => ?_⟩
  obtain ⟨fuel, hf⟩ := h
  rcases open_ints Try.underlying22 Try.underlying3 Try.cellsInt hf with ⟨hcs, _⟩ | ⟨a', len', cap', zs, hcs, _⟩
  · simp [Value.cells] at hcs
    exact hcs.2.2
  · simp [Value.cells] at hcs
    rw [e] at hcs
    cases hcs.1
end Go.Proofs.Ytamcobncfbjdmaa
