/- Ropes as data, and in memory. -/
import Derived.Test.YtamcobncfbjdmaaChecked
import Derived.WalkKit
import Derived.WalkSpells
import Derived.Lib.Hide
import Derived.BigQuiet
import Derived.KernelRfl
import Derived.Deep.RegionHeld3
namespace Go.Proofs.Ytamcobncfbjdmaa
open Go.RowKit

inductive Rp (α : Type) where
  | leaf (l : List α)
  | fork (a b : Rp α)
namespace Rp
variable {α : Type}
def list : Rp α → List α
  | leaf l => l
  | fork a b => a.list ++ b.list
def depth : Rp α → Nat
  | leaf _ => 1
  | fork a b => max a.depth b.depth + 1
/-- leaves have 1 to 16 elements; depths differ by at most 1. -/
def Ok : Rp α → Prop
  | leaf l => 1 ≤ l.length ∧ l.length ≤ 16
  | fork a b => a.Ok ∧ b.Ok ∧ a.depth ≤ b.depth + 1 ∧ b.depth ≤ a.depth + 1
theorem len_pos : ∀ {t : Rp α}, t.Ok → 1 ≤ t.list.length
  | leaf _, h => h.1
  | fork a b, h => by have := len_pos h.1; simp [list]; omega
theorem depth_pos (t : Rp α) : 1 ≤ t.depth := by cases t <;> simp [depth]
end Rp

/-- the node at an address is a tree; enc: how an element lies in its one cell. -/
def Nd {α : Type} (enc : α → Value) (w : World) : Option Addr → Rp α → Prop
  | a, .leaf l => ∃ b e, a = some ⟨b, 0, none⟩ ∧ b < w.heap.size ∧ e < w.heap.size ∧ w.cell? ⟨b, 0, none⟩ = some (.int .i64 l.length) ∧ w.cell? ⟨b, 1, none⟩ = some (.int .i64 1) ∧ w.cell? ⟨b, 2, none⟩ = some (.pointer (some ⟨e, 0, none⟩)) ∧
      w.cell? ⟨b, 3, none⟩ = some (.pointer none) ∧ w.cell? ⟨b, 4, none⟩ = some (.pointer none) ∧ ∀ j x, l[j]? = some x → w.cell? ⟨e, j, none⟩ = some (enc x)
  | a, .fork p q => ∃ b a1 a2, a = some ⟨b, 0, none⟩ ∧ b < w.heap.size ∧ w.cell? ⟨b, 0, none⟩ = some (.int .i64 ((p.list.length + q.list.length : Nat) : Int)) ∧ w.cell? ⟨b, 1, none⟩ = some (.int .i64 ((max p.depth q.depth + 1 : Nat) : Int)) ∧ w.cell? ⟨b, 2, none⟩ = some (.pointer none) ∧
      w.cell? ⟨b, 3, none⟩ = some (.pointer a1) ∧ w.cell? ⟨b, 4, none⟩ = some (.pointer a2) ∧ Nd enc w a1 p ∧ Nd enc w a2 q

theorem Nd.later {α : Type} {enc : α → Value} {w w' : World} (hb : Below w.heap.size w w') : ∀ {a : Option Addr} {t : Rp α}, Nd enc w a t → Nd enc w' a t
  | _, .leaf _, ⟨b, e, ha, h1, h2, c0, c1, c2, c3, c4, hl⟩ => ⟨b, e, ha, Nat.lt_of_lt_of_le h1 hb.size, Nat.lt_of_lt_of_le h2 hb.size, (hb.cell (p := ⟨b, 0, none⟩) h1).trans c0, (hb.cell (p := ⟨b, 1, none⟩) h1).trans c1, (hb.cell (p := ⟨b, 2, none⟩) h1).trans c2, (hb.cell (p := ⟨b, 3, none⟩) h1).trans c3, (hb.cell (p := ⟨b, 4, none⟩) h1).trans c4, fun j x hx => (hb.cell (p := ⟨e, j, none⟩) h2).trans (hl j x hx)⟩
  | _, .fork _ _, ⟨b, a1, a2, ha, h1, c0, c1, c2, c3, c4, hp, hq⟩ => ⟨b, a1, a2, ha, Nat.lt_of_lt_of_le h1 hb.size, (hb.cell (p := ⟨b, 0, none⟩) h1).trans c0, (hb.cell (p := ⟨b, 1, none⟩) h1).trans c1, (hb.cell (p := ⟨b, 2, none⟩) h1).trans c2, (hb.cell (p := ⟨b, 3, none⟩) h1).trans c3, (hb.cell (p := ⟨b, 4, none⟩) h1).trans c4, hp.later hb, hq.later hb⟩

/-- what every node has. -/
theorem Nd.head {α : Type} {enc : α → Value} {w : World} {a : Option Addr} : ∀ {t : Rp α}, Nd enc w a t → ∃ b, a = some ⟨b, 0, none⟩ ∧ b < w.heap.size ∧ w.cell? ⟨b, 0, none⟩ = some (.int .i64 t.list.length) ∧ w.cell? ⟨b, 1, none⟩ = some (.int .i64 t.depth)
  | .leaf _, ⟨b, _, ha, h1, _, c0, c1, _⟩ => ⟨b, ha, h1, c0, c1⟩
  | .fork p q, ⟨b, _, _, ha, h1, c0, c1, _⟩ => ⟨b, ha, h1, by rw [Rp.list, List.length_append]; exact c0, c1⟩
theorem Nd.leaf2 {α : Type} {enc : α → Value} {w : World} {a : Option Addr} {l : List α} (h : Nd enc w a (.leaf l)) : ∃ b e, a = some ⟨b, 0, none⟩ ∧ w.cell? ⟨b, 0, none⟩ = some (.int .i64 l.length) ∧ w.cell? ⟨b, 2, none⟩ = some (.pointer (some ⟨e, 0, none⟩)) ∧ e < w.heap.size ∧ Hid (∀ j x, l[j]? = some x → w.cell? ⟨e, j, none⟩ = some (enc x)) := by
  obtain ⟨b, e, ha, _, h2, c0, _, c2, _, _, hl⟩ := h
  exact ⟨b, e, ha, c0, c2, h2, Lib.hid hl⟩
theorem Nd.fork2 {α : Type} {enc : α → Value} {w : World} {a : Option Addr} {p q : Rp α} (h : Nd enc w a (.fork p q)) : ∃ b a1 a2, a = some ⟨b, 0, none⟩ ∧ w.cell? ⟨b, 2, none⟩ = some (.pointer none) ∧ w.cell? ⟨b, 3, none⟩ = some (.pointer a1) ∧ w.cell? ⟨b, 4, none⟩ = some (.pointer a2) ∧ Nd enc w a1 p ∧ Nd enc w a2 q := by
  obtain ⟨b, a1, a2, ha, _, _, _, c2, c3, c4, hp, hq⟩ := h
  exact ⟨b, a1, a2, ha, c2, c3, c4, hp, hq⟩
/-- a tree, or none. -/
def On {α : Type} (enc : α → Value) (w : World) (a : Option Addr) (o : Option (Rp α)) : Prop := match o with
  | none => a = none
  | some t => Nd enc w a t
def listO {α : Type} : Option (Rp α) → List α
  | none => []
  | some t => t.list
theorem On.later {α : Type} {enc : α → Value} {w w' : World} {a : Option Addr} {o : Option (Rp α)} (h : On enc w a o) (hb : Below w.heap.size w w') : On enc w' a o := by
  cases o with
  | none => exact h
  | some t => exact Nd.later hb h
theorem below_drewN {n : Nat} {w w' : World} (h : Below n w w') (k : Nat) : Below n w (w'.drewN k) := by
  induction k with
  | zero => exact h
  | succ k ih => exact ih.drew
def OutV (w : World) (v : Value) (e : Ending) (w' : World) : Prop := e = .returned v ∧ Below w.heap.size w w'
end Go.Proofs.Ytamcobncfbjdmaa
