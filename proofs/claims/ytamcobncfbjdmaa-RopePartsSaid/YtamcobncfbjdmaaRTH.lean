/- The law's alike: lists compared, and what lies in its boxes. -/
import Derived.Test.YtamcobncfbjdmaaRTG
namespace Go.Proofs.Ytamcobncfbjdmaa
open Go.RowKit Go.Shelf Go.BigFrame
attribute [local go_sem] Oper.semAt_some

/-- slices.Equal of a list in a block and the same list as an argument. -/
theorem eqSq_any (g c1 : Nat) (p : Option Addr) (c : Nat) (l : List Int) (w : World) (h1 : ∀ j x, l[j]? = some x → w.cell? ⟨g, j, none⟩ = some (encI x)) (hq : SqL w p l) (hm : l.length ≤ 1000000) :
    Calls Try.prog 32 #[.slice (some ⟨g, 0, none⟩) l.length c1, .slice p l.length c] w (fun e w' => e = .returned (.bool true) ∧ Hid (Below w.heap.size w w')) := by
  cases hl : l with
  | nil => exact (Try.slices_Equal_int_empty _ _ c1 0 c w (by decide)).mono (by rintro e w' ⟨rfl, rfl⟩; exact ⟨rfl, Lib.hid (Below.refl _ _)⟩)
  | cons x xs =>
    rw [← hl]
    obtain ⟨b, o, rfl, _, _⟩ := hq 0 x (by rw [hl]; rfl)
    refine (Try.slices_Equal_int g 0 l.length c1 b o l.length c l l w (Nat.le_refl _) (Nat.le_refl _) (by omega) (by omega) (fun j hj => ?_) (fun j hj => ?_)).mono ?_
    · rw [Nat.zero_add]
      exact h1 j _ (by rw [List.getD_eq_getElem?_getD, List.getElem?_eq_getElem hj]; rfl)
    · obtain ⟨b', o', he, _, h3⟩ := hq j (l.getD j 0) (by rw [List.getD_eq_getElem?_getD, List.getElem?_eq_getElem hj]; rfl)
      cases he
      exact h3
    · rintro e w' ⟨rfl, q, rfl⟩
      exact ⟨by simp, Lib.hid (below_drewN (Below.refl _ _) q)⟩

/-- what lies in the boxes of alike in its first walk: the rope, the list, the result, a count. -/
def Ga (w w1 : World) (p : Option Addr) (n c : Nat) (a : Option Addr) (N : Nat) (X : World) : Prop :=
  Boxed X w.heap.size 28 (.pointer a) ∧ Boxed X (w.heap.size + 1) 22 (.slice p n c) ∧ Boxed X (w.heap.size + 1 + 1) 4 (.bool false) ∧ Boxed X w1.heap.size 3 (.int .i64 N) ∧
    Below w.heap.size w X ∧ KpC w1.heap.size (w1.heap.size + 1) w1 X ∧ w1.heap.size + 1 ≤ X.heap.size
theorem Ga.grown {w w1 : World} {p a : Option Addr} {n c N : Nat} {X Y : World} {row : Option Nat} (h : Ga w w1 p n c a N X) (hw : w.heap.size + 3 ≤ w1.heap.size) (hg : X.grownBy Y row) (hr : ∀ r, row = some r → w1.heap.size + 1 ≤ r) : Ga w w1 p n c a N Y := by
  obtain ⟨h1, h2, h3, h4, h6, h7, h8⟩ := h
  exact ⟨h1.kept hg (fun e => by have := hr _ e.symm; omega), h2.kept hg (fun e => by have := hr _ e.symm; omega), h3.kept hg (fun e => by have := hr _ e.symm; omega), h4.kept hg (fun e => by have := hr _ e.symm; omega),
    h6.grown hg h6.size (fun k e => by have := hr _ e; omega), h7.frm hg (fun k e => by have := hr _ e; omega), Nat.le_trans h8 hg.size⟩
theorem Ga.below {w w1 : World} {p a : Option Addr} {n c N : Nat} {X Y : World} (h : Ga w w1 p n c a N X) (hw : w.heap.size + 3 ≤ w1.heap.size) (hb : Below X.heap.size X Y) : Ga w w1 p n c a N Y :=
  h.grown hw (row := none) ⟨hb.os, hb.tape, hb.output, hb.size, fun k hk _ => hb.block k hk⟩ (fun r e => by cases e)
theorem Ga.setN {w w1 : World} {p a : Option Addr} {n c N : Nat} {X : World} (N' : Nat) (h : Ga w w1 p n c a N X) (hw : w.heap.size + 3 ≤ w1.heap.size) : Ga w w1 p n c a N' (X.setCell ⟨w1.heap.size, 0, none⟩ (.int .i64 N')) := by
  obtain ⟨h1, h2, h3, h4, h6, h7, h8⟩ := h
  have hg := grownBy_setCell' X w1.heap.size (.int .i64 N')
  exact ⟨h1.other (by omega) _, h2.other (by omega) _, h3.other (by omega) _, h4.set _, h6.grown hg h6.size (fun k e => by cases e; omega), h7.trans (KpC.setOwn X _ (by omega) (by omega)), Nat.le_trans h8 hg.size⟩
/-- the same within the second walk, with its own count, which goes down. -/
def Gb (w w1 X0 : World) (p : Option Addr) (n c : Nat) (a : Option Addr) (D N : Nat) (X : World) : Prop :=
  Ga w w1 p n c a n X ∧ Boxed X X0.heap.size 3 (.int .i64 N) ∧ X.heap[D]? = some (.deferred (some [])) ∧ KpC X0.heap.size (X0.heap.size + 1) X0 X ∧ X0.heap.size + 1 ≤ X.heap.size
theorem Gb.grown {w w1 X0 : World} {p a : Option Addr} {n c D N : Nat} {X Y : World} {row : Option Nat} (h : Gb w w1 X0 p n c a D N X) (hw : w.heap.size + 3 ≤ w1.heap.size) (hx : w1.heap.size + 1 ≤ X0.heap.size) (hD : D < X0.heap.size) (hg : X.grownBy Y row) (hr : ∀ r, row = some r → X0.heap.size + 1 ≤ r) : Gb w w1 X0 p n c a D N Y := by
  obtain ⟨h1, h2, h3, h4, h5⟩ := h
  exact ⟨h1.grown hw hg (fun r e => by have := hr r e; omega), h2.kept hg (fun e => by have := hr _ e.symm; omega), (hg.block D (Array.getElem?_eq_some_iff.1 h3).1 (fun e => by have := hr _ e.symm; omega)).trans h3, h4.frm hg (fun k e => by have := hr _ e; omega), Nat.le_trans h5 hg.size⟩
theorem Gb.below {w w1 X0 : World} {p a : Option Addr} {n c D N : Nat} {X Y : World} (h : Gb w w1 X0 p n c a D N X) (hw : w.heap.size + 3 ≤ w1.heap.size) (hx : w1.heap.size + 1 ≤ X0.heap.size) (hD : D < X0.heap.size) (hb : Below X.heap.size X Y) : Gb w w1 X0 p n c a D N Y :=
  h.grown hw hx hD (row := none) ⟨hb.os, hb.tape, hb.output, hb.size, fun k hk _ => hb.block k hk⟩ (fun r e => by cases e)
theorem Gb.setN {w w1 X0 : World} {p a : Option Addr} {n c D N : Nat} {X : World} (N' : Nat) (h : Gb w w1 X0 p n c a D N X) (hw : w.heap.size + 3 ≤ w1.heap.size) (hx : w1.heap.size + 1 ≤ X0.heap.size) (hD : D < X0.heap.size) : Gb w w1 X0 p n c a D N' (X.setCell ⟨X0.heap.size, 0, none⟩ (.int .i64 N')) := by
  obtain ⟨h1, h2, h3, h4, h5⟩ := h
  have hg := grownBy_setCell' X X0.heap.size (.int .i64 N')
  exact ⟨h1.grown hw hg (fun r e => by cases e; omega), h2.set _, (hg.block D (Array.getElem?_eq_some_iff.1 h3).1 (fun e => by cases e; omega)).trans h3, h4.trans (KpC.setOwn X _ (by omega) (by omega)), Nat.le_trans h5 hg.size⟩
end Go.Proofs.Ytamcobncfbjdmaa
