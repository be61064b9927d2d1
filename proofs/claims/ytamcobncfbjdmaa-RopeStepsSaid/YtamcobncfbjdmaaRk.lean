/- Worlds in which all cells are kept but those of the caller's own blocks. -/
import Derived.Test.YtamcobncfbjdmaaRn
import Derived.RangeFuncNested
import Derived.RangeFuncBound
import Derived.RangeFuncCalls
import Derived.RangeFuncLeaves
import Derived.RangeFuncFrom
import Derived.Shelf.Abstract
import Derived.Shelf.RegionOpen
import Derived.OwnWalkIn
import Derived.TacticsInMore
import Derived.LoopNIn
import Derived.LoopIn
namespace Go.Proofs.Ytamcobncfbjdmaa
open Go.RowKit Go.Shelf
attribute [local go_sem] Oper.semAt_some

theorem room_of_none {F : Fence} (hd : F.depth = none) (k : Nat) : F.room k := fun d h => by rw [hd] at h; cases h
theorem RoundIn.anyDepth {F : Fence} (hd : F.depth = none) {m m' : Nat} {P : Program} {l : Nat} {f : FuncId} {tmps : Array Value} {assign body : Code} {w : World} {R : Ending → World → Prop}
    (h : RoundIn F m P l f tmps assign body w R) : RoundIn F m' P l f tmps assign body w R := ⟨h.1, fun c cs _ => h.2 c cs (room_of_none hd _)⟩
theorem YieldAt.anyDepth {F : Fence} (hd : F.depth = none) {m : Nat} (m' : Nat) {P : Program} {l : Nat} {args : Array Value} {W : World} {R : Ending → World → Prop} (h : YieldAt F m P l args W R) : YieldAt F m' P l args W R := by
  obtain ⟨fn, tmps, assign, body, hy, hR⟩ := h
  exact ⟨fn, tmps, assign, body, hy, RoundIn.anyDepth hd hR⟩

/-- all cells lie as they lay, but those of the blocks from n0 to n1, which are the caller's own. -/
def KpC (n0 n1 : Nat) (W W' : World) : Prop := W.heap.size ≤ W'.heap.size ∧ ∀ i o, (i < n0 ∨ n1 ≤ i) → W.heap[i]? = some o → o.isCells = true → W'.heap[i]? = some o
theorem KpC.refl (n0 n1 : Nat) (W : World) : KpC n0 n1 W W := ⟨Nat.le_refl _, fun _ _ _ h _ => h⟩
theorem KpC.trans {n0 n1 : Nat} {A B C : World} (h : KpC n0 n1 A B) (k : KpC n0 n1 B C) : KpC n0 n1 A C := ⟨Nat.le_trans h.1 k.1, fun i o hi ho hc => k.2 i o hi (h.2 i o hi ho hc) hc⟩
theorem KpC.of_below {n0 n1 : Nat} {A B : World} (h : Below A.heap.size A B) : KpC n0 n1 A B := ⟨h.size, fun _ _ _ ho _ => (h.block _ (Array.getElem?_eq_some_iff.1 ho).1).trans ho⟩
theorem KpC.alloc {n0 n1 : Nat} (W : World) (o : Obj) : KpC n0 n1 W (W.alloc o) := KpC.of_below ((Below.refl _ _).alloc (Nat.le_refl _) _)
theorem KpC.putObj {n0 n1 : Nat} (W : World) (l : Nat) (o o' : Obj) (h : W.heap[l]? = some o) (hc : o.isCells = false) : KpC n0 n1 W (W.putObj l o') := by
  have hl := (Array.getElem?_eq_some_iff.1 h).1
  refine ⟨(grownBy_putObj' W l o').size, fun i x _ hx hxc => ?_⟩
  by_cases e : i = l
  · subst e
    rw [h] at hx
    cases hx
    rw [hc] at hxc
    cases hxc
  · exact (World.putObj_heap_other e).trans hx
theorem KpC.cell {n0 n1 : Nat} {W W' : World} (h : KpC n0 n1 W W') {p : Addr} {v : Value} (hi : p.block < n0 ∨ n1 ≤ p.block) (hv : W.cell? p = some v) : W'.cell? p = some v := by
  cases hb : W.heap[p.block]? with
  | none => simp [World.cell?, hb] at hv
  | some o =>
    have hc : o.isCells = true := by
      cases o <;> simp_all [World.cell?, Obj.isCells]
    exact (World.cell?_of_block ((h.2 _ o hi hb hc).trans hb.symm)).trans hv
theorem Nd.kp {α : Type} {enc : α → Value} {n0 n1 : Nat} {w w' : World} (hk : KpC n0 n1 w w') (hn : w.heap.size ≤ n0) : ∀ {a : Option Addr} {t : Rp α}, Nd enc w a t → Nd enc w' a t
  | _, .leaf _, ⟨b, e, ha, h1, h2, c0, c1, c2, c3, c4, hl⟩ => ⟨b, e, ha, Nat.lt_of_lt_of_le h1 hk.1, Nat.lt_of_lt_of_le h2 hk.1, hk.cell (.inl (Nat.lt_of_lt_of_le h1 hn)) c0, hk.cell (.inl (Nat.lt_of_lt_of_le h1 hn)) c1, hk.cell (.inl (Nat.lt_of_lt_of_le h1 hn)) c2, hk.cell (.inl (Nat.lt_of_lt_of_le h1 hn)) c3, hk.cell (.inl (Nat.lt_of_lt_of_le h1 hn)) c4, fun j x hx => hk.cell (.inl (Nat.lt_of_lt_of_le h2 hn)) (hl j x hx)⟩
  | _, .fork _ _, ⟨b, a1, a2, ha, h1, c0, c1, c2, c3, c4, hp, hq⟩ => ⟨b, a1, a2, ha, Nat.lt_of_lt_of_le h1 hk.1, hk.cell (.inl (Nat.lt_of_lt_of_le h1 hn)) c0, hk.cell (.inl (Nat.lt_of_lt_of_le h1 hn)) c1, hk.cell (.inl (Nat.lt_of_lt_of_le h1 hn)) c2, hk.cell (.inl (Nat.lt_of_lt_of_le h1 hn)) c3, hk.cell (.inl (Nat.lt_of_lt_of_le h1 hn)) c4, Nd.kp hk hn hp, Nd.kp hk hn hq⟩

/-- what a walk over the elements of a tree may do. -/
def WalkOut {β : Type} (n0 n1 : Nat) (J Jx : List β → World → Prop) (xs : List β) (pre : List β) (W : World) (e : Ending) (W' : World) : Prop :=
  (e = .returned (.bool true) ∧ KpC n0 n1 W W' ∧ Hid (J (pre ++ xs) W')) ∨ (e = .returned (.bool false) ∧ KpC 0 n1 W W' ∧ Hid (∃ q, q <+: xs ∧ Jx (pre ++ q) W'))
theorem WalkOut.b {β : Type} {n0 n1 : Nat} {J Jx : List β → World → Prop} {xs pre : List β} {W W' : World} {e : Ending} (h : WalkOut n0 n1 J Jx xs pre W e W') :
    ∃ r : Bool, e = .returned (.bool r) ∧ Hid ((r = true ∧ KpC n0 n1 W W' ∧ Hid (J (pre ++ xs) W')) ∨ (r = false ∧ KpC 0 n1 W W' ∧ Hid (∃ q, q <+: xs ∧ Jx (pre ++ q) W'))) := by
  rcases h with ⟨rfl, h⟩ | ⟨rfl, h⟩
  · exact ⟨true, rfl, Lib.hid (.inl ⟨rfl, h⟩)⟩
  · exact ⟨false, rfl, Lib.hid (.inr ⟨rfl, h⟩)⟩
/-- what a call of yield may do. -/
def YieldOut {β : Type} (n0 n1 nb : Nat) (J Jx : List β → World → Prop) (pre : List β) (x : β) (W : World) (e : Ending) (W' : World) : Prop :=
  (e = .returned (.bool true) ∧ J (pre ++ [x]) W' ∧ KpC n0 n1 W W' ∧ KeepsFrom nb W W') ∨ (e = .returned (.bool false) ∧ Jx (pre ++ [x]) W' ∧ KpC 0 n1 W W' ∧ KeepsFrom nb W W')
theorem KpC.own {n0 n1 : Nat} {A B C : World} (h : KpC n0 n1 A B) {row : Option Nat} (hg : B.grownBy C row) (hr : ∀ r, row = some r → ∃ o : Obj, B.heap[r]? = some o ∧ o.isCells = false) : KpC n0 n1 A C := by
  refine ⟨Nat.le_trans h.1 hg.size, fun i o hi ho hc => ?_⟩
  have hb := h.2 i o hi ho hc
  refine (hg.block i (Array.getElem?_eq_some_iff.1 hb).1 (fun e => ?_)).trans hb
  obtain ⟨o', ho', hc'⟩ := hr i e.symm
  rw [hb] at ho'
  cases ho'
  rw [hc] at hc'
  cases hc'
theorem KpC.mono1 {n0 n1 n2 : Nat} {A B : World} (h : KpC n0 n1 A B) (hn : n1 ≤ n2) : KpC n0 n2 A B := ⟨h.1, fun i o hi ho hc => h.2 i o (hi.imp id (Nat.le_trans hn)) ho hc⟩
theorem KpC.setOwn {n0 n1 b : Nat} (W : World) (v : Value) (h0 : n0 ≤ b) (h1 : b < n1) : KpC n0 n1 W (W.setCell ⟨b, 0, none⟩ v) := by
  have hg := grownBy_setCell' W b v
  exact ⟨hg.size, fun i o hi ho _ => (hg.block i (Array.getElem?_eq_some_iff.1 ho).1 (fun e => by cases e; omega)).trans ho⟩
theorem KpC.zero {n0 n1 : Nat} {A B : World} (h : KpC n0 n1 A B) : KpC 0 n1 A B := ⟨h.1, fun i o hi ho hc => h.2 i o (.inr (hi.resolve_left (Nat.not_lt_zero i))) ho hc⟩
theorem KpC.grownOwn {n0 n1 : Nat} {A B : World} {row : Option Nat} (hg : A.grownBy B row) (hr : ∀ r, row = some r → n0 ≤ r ∧ r < n1) : KpC n0 n1 A B :=
  ⟨hg.size, fun i o hi ho _ => (hg.block i (Array.getElem?_eq_some_iff.1 ho).1 (fun e => by have := hr i e.symm; omega)).trans ho⟩
/-- blocks that the world W does not have yet may turn. -/
theorem KpC.frm {n0 n1 : Nat} {A B C : World} (h : KpC n0 n1 A B) {row : Option Nat} (hg : B.grownBy C row) (hr : ∀ r, row = some r → A.heap.size ≤ r) : KpC n0 n1 A C := by
  refine ⟨Nat.le_trans h.1 hg.size, fun i o hi ho hc => ?_⟩
  have hb := h.2 i o hi ho hc
  have hi := (Array.getElem?_eq_some_iff.1 ho).1
  exact (hg.block i (Array.getElem?_eq_some_iff.1 hb).1 (fun e => by have := hr i e.symm; omega)).trans hb
end Go.Proofs.Ytamcobncfbjdmaa
