/- RopeEnds: the law, its beginning. -/
import Derived.Test.YtamcobncfbjdmaaRSF
import Derived.Test.YtamcobncfbjdmaaRB2
namespace Go.Proofs.Ytamcobncfbjdmaa
open Go.RowKit Go.Shelf Go.BigFrame
attribute [local go_sem] Oper.semAt_some

/-- a list of ints as the law has it: the slice, and its cells. -/
def SqL (w : World) (p : Option Addr) (l : List Int) : Prop := ∀ j x, l[j]? = some x → ∃ b o, p = some ⟨b, o, none⟩ ∧ b < w.heap.size ∧ w.cell? ⟨b, o + j, none⟩ = some (.int .i64 x)
theorem SqL.later {w w' : World} {p : Option Addr} {l : List Int} (h : SqL w p l) (hb : Below w.heap.size w w') : SqL w' p l := fun j x hx => by
  obtain ⟨b, o, h1, h2, h3⟩ := h j x hx
  exact ⟨b, o, h1, Nat.lt_of_lt_of_le h2 hb.size, (hb.cell (p := ⟨b, o + j, none⟩) h2).trans h3⟩
theorem SqL.sq {w : World} {p : Option Addr} {l : List Int} {c : Nat} (h : SqL w p l) (hc : l.length ≤ c) : Sq encI w (.slice p l.length c) l := by
  cases hl : l with
  | nil => exact .inl ⟨rfl, p, c, rfl⟩
  | cons x xs =>
    rw [← hl]
    obtain ⟨b, o, rfl, h2, _⟩ := h 0 x (by rw [hl]; rfl)
    refine .inr ⟨b, o, c, rfl, h2, hc, by rw [hl]; simp, fun j y hy => ?_⟩
    obtain ⟨b', o', he, _, h3⟩ := h j y hy
    cases he
    exact h3
theorem eqlF (f : Fn) (x y : Array Value) (w : World) : (binOp .eql 44 (.func f x y) .nilFunc).run Try.prog w = .ok (.bool false) w := run_eql_func_nil _ f x y w Try.underlying44
attribute [local go_sem] eqlF
theorem pover_any (f : Fn) (x y : Array Value) (w : World) : Calls Try.prog 21 #[.func f x y] w (fun r w' => r = .returned (.func f x y) ∧ w' = w) := by
  go_enter Try.func21, Try.ntmps21
  go_wp2
  go_ret
  exact ⟨rfl, rfl⟩

theorem boxed_cell {X Y : World} {B : Nat} {t : TypeId} {v : Value} (h : Boxed X B t v) (hb : Below X.heap.size X Y) : Y.cell? ⟨B, 0, none⟩ = some v := (hb.cell (p := ⟨B, 0, none⟩) h.lt).trans h.cell
/-- what lies in the law's own boxes: the list, the number, the result, the rope, a count. -/
def Fa (w w1 : World) (p : Option Addr) (n c s : Nat) (a : Option Addr) (N : Nat) (X : World) : Prop :=
  Boxed X w.heap.size 22 (.slice p n c) ∧ Boxed X (w.heap.size + 1) 5 (.int .u8 s) ∧ Boxed X (w.heap.size + 1 + 1) 4 (.bool false) ∧ Boxed X w1.heap.size 28 (.pointer a) ∧ Boxed X (w1.heap.size + 1) 3 (.int .i64 N) ∧
    Below w.heap.size w X ∧ KpC w1.heap.size (w1.heap.size + 2) w1 X ∧ w1.heap.size + 2 ≤ X.heap.size
theorem Fa.grown {w w1 : World} {p a : Option Addr} {n c s N : Nat} {X Y : World} {row : Option Nat} (h : Fa w w1 p n c s a N X) (hw : w.heap.size + 3 ≤ w1.heap.size) (hg : X.grownBy Y row) (hr : ∀ r, row = some r → w1.heap.size + 2 ≤ r) : Fa w w1 p n c s a N Y := by
  obtain ⟨h1, h2, h3, h4, h5, h6, h7, h8⟩ := h
  exact ⟨h1.kept hg (fun e => by have := hr _ e.symm; omega), h2.kept hg (fun e => by have := hr _ e.symm; omega), h3.kept hg (fun e => by have := hr _ e.symm; omega), h4.kept hg (fun e => by have := hr _ e.symm; omega), h5.kept hg (fun e => by have := hr _ e.symm; omega),
    h6.grown hg h6.size (fun k e => by have := hr _ e; omega), h7.frm hg (fun k e => by have := hr _ e; omega), Nat.le_trans h8 hg.size⟩
theorem Fa.below {w w1 : World} {p a : Option Addr} {n c s N : Nat} {X Y : World} (h : Fa w w1 p n c s a N X) (hw : w.heap.size + 3 ≤ w1.heap.size) (hb : Below X.heap.size X Y) : Fa w w1 p n c s a N Y :=
  h.grown hw (row := none) ⟨hb.os, hb.tape, hb.output, hb.size, fun k hk _ => hb.block k hk⟩ (fun r e => by cases e)
theorem Fa.setN {w w1 : World} {p a : Option Addr} {n c s N : Nat} {X : World} (N' : Nat) (h : Fa w w1 p n c s a N X) (hw : w.heap.size + 3 ≤ w1.heap.size) : Fa w w1 p n c s a N' (X.setCell ⟨w1.heap.size + 1, 0, none⟩ (.int .i64 N')) := by
  obtain ⟨h1, h2, h3, h4, h5, h6, h7, h8⟩ := h
  have hg := grownBy_setCell' X (w1.heap.size + 1) (.int .i64 N')
  exact ⟨h1.other (by omega) _, h2.other (by omega) _, h3.other (by omega) _, h4.other (by omega) _, h5.set _, h6.grown hg h6.size (fun k e => by cases e; omega), h7.trans (KpC.setOwn X _ (by omega) (by omega)), Nat.le_trans h8 hg.size⟩
/-- how many elements are told. -/
def told (n s : Nat) : Nat := if s = 0 then n else min n s
/-- the same within the second walk, with its own count. -/
def Fb (w w1 X0 : World) (p : Option Addr) (n c s : Nat) (a : Option Addr) (D N : Nat) (X : World) : Prop :=
  Fa w w1 p n c s a (told n s) X ∧ Boxed X X0.heap.size 3 (.int .i64 N) ∧ X.heap[D]? = some (.deferred (some [])) ∧ KpC X0.heap.size (X0.heap.size + 1) X0 X ∧ X0.heap.size + 1 ≤ X.heap.size
theorem Fb.grown {w w1 X0 : World} {p a : Option Addr} {n c s D N : Nat} {X Y : World} {row : Option Nat} (h : Fb w w1 X0 p n c s a D N X) (hw : w.heap.size + 3 ≤ w1.heap.size) (hx : w1.heap.size + 2 ≤ X0.heap.size) (hD : D < X0.heap.size) (hg : X.grownBy Y row) (hr : ∀ r, row = some r → X0.heap.size + 1 ≤ r) : Fb w w1 X0 p n c s a D N Y := by
  obtain ⟨h1, h2, h3, h4, h5⟩ := h
  exact ⟨h1.grown hw hg (fun r e => by have := hr r e; omega), h2.kept hg (fun e => by have := hr _ e.symm; omega), (hg.block D (Array.getElem?_eq_some_iff.1 h3).1 (fun e => by have := hr _ e.symm; omega)).trans h3, h4.frm hg (fun k e => by have := hr _ e; omega), Nat.le_trans h5 hg.size⟩
theorem Fb.below {w w1 X0 : World} {p a : Option Addr} {n c s D N : Nat} {X Y : World} (h : Fb w w1 X0 p n c s a D N X) (hw : w.heap.size + 3 ≤ w1.heap.size) (hx : w1.heap.size + 2 ≤ X0.heap.size) (hD : D < X0.heap.size) (hb : Below X.heap.size X Y) : Fb w w1 X0 p n c s a D N Y :=
  h.grown hw hx hD (row := none) ⟨hb.os, hb.tape, hb.output, hb.size, fun k hk _ => hb.block k hk⟩ (fun r e => by cases e)
theorem Fb.setN {w w1 X0 : World} {p a : Option Addr} {n c s D N : Nat} {X : World} (N' : Nat) (h : Fb w w1 X0 p n c s a D N X) (hw : w.heap.size + 3 ≤ w1.heap.size) (hx : w1.heap.size + 2 ≤ X0.heap.size) (hD : D < X0.heap.size) : Fb w w1 X0 p n c s a D N' (X.setCell ⟨X0.heap.size, 0, none⟩ (.int .i64 N')) := by
  obtain ⟨h1, h2, h3, h4, h5⟩ := h
  have hg := grownBy_setCell' X X0.heap.size (.int .i64 N')
  exact ⟨h1.grown hw hg (fun r e => by cases e; omega), h2.set _, (hg.block D (Array.getElem?_eq_some_iff.1 h3).1 (fun e => by cases e; omega)).trans h3, h4.trans (KpC.setOwn X _ (by omega) (by omega)), Nat.le_trans h5 hg.size⟩
theorem On.kp {α : Type} {enc : α → Value} {n0 n1 : Nat} {w w' : World} (hk : KpC n0 n1 w w') (hn : w.heap.size ≤ n0) {a : Option Addr} {o : Option (Rp α)} (h : On enc w a o) : On enc w' a o := by
  cases o with
  | none => exact h
  | some t => exact Nd.kp hk hn h

set_option maxRecDepth 100000 in
set_option maxHeartbeats 6400000 in
theorem lawLong_any (p : Option Addr) (n c s : Nat) (w : World) (hn : 300 < n) : Calls Try.prog 5 #[.slice p n c, .int .u8 s] w (fun r w' => r = .returned (.bool true) ∧ Below w.heap.size w w') := by
  have hni : (300 : Int) < (n : Int) := by omega
  have hb : Below w.heap.size w (((w.alloc (.cells #[.slice p n c] 22)).alloc (.cells #[.int .u8 s] 5)).alloc (.cells #[.bool false] 4)) := (((Below.refl _ _).alloc (Nat.le_refl _) _).alloc (by simp) _).alloc (by simp; omega) _
  have H3 := (box3 w (.cells #[.slice p n c] 22) (.cells #[.int .u8 s] 5) (.cells #[.bool false] 4)).2.2
  have C := awake_any (((w.alloc (.cells #[.slice p n c] 22)).alloc (.cells #[.int .u8 s] 5)).alloc (.cells #[.bool false] 4))
  replace C := Lib.hid C
  have HB := Lib.hid hb
  have HH := Lib.hid H3
  clear hb H3 hn
  go_enter Try.func5, Try.ntmps5
  go_wp2_with (first
    | (go_at_call 11; refine C.out.mono ?_; rintro r w1 ⟨rfl, HB1⟩; have b4 : Boxed w1 (w.heap.size + 1 + 1) 4 (.bool false) := (HB1.out.block _ (by simp)).trans HH.out; have x4 := b4.cell; have y4 := b4.frozen)
    | fail)
  have z4 := (b4.set (.bool true)).cell
  refine bodyPost_ret (v := .bool true) (by simp [results, Try.f5, go_sem, z4]) rfl ?_
  exact ⟨rfl, (HB.out.trans (HB1.out.mono HB.out.size)).setCell (p := ⟨w.heap.size + 1 + 1, 0, none⟩) (by show w.heap.size ≤ w.heap.size + 1 + 1; omega) _⟩
end Go.Proofs.Ytamcobncfbjdmaa
