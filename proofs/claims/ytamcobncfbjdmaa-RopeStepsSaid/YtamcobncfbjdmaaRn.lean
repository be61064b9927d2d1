/- A leaf as its function makes it; lists in memory. -/
import Derived.Test.YtamcobncfbjdmaaRm
import Derived.Laws.CopyOwn
namespace Go.Proofs.Ytamcobncfbjdmaa
open Go.RowKit

theorem leaf_nd {α : Type} (enc : α → Value) (w : World) (l : List α) (n : Nat) (hn : n = l.length) (Z : Array Value) (t u : TypeId) (rest : List Value) (W : World)
    (hW : W = ((w.alloc (.cells Z t)).alloc (.cells #[.int .i64 n, .int .i64 1, .pointer (some ⟨w.heap.size, 0, none⟩), .pointer none, .pointer none] u)).setRow w.heap.size (l.map enc ++ rest).toArray) :
    Nd enc W (some ⟨w.heap.size + 1, 0, none⟩) (.leaf l) ∧ Below w.heap.size w W := by
  obtain ⟨V, hV⟩ : ∃ V, V = (w.alloc (.cells Z t)).alloc (.cells #[.int .i64 n, .int .i64 1, .pointer (some ⟨w.heap.size, 0, none⟩), .pointer none, .pointer none] u) := ⟨_, rfl⟩
  rw [← hV] at hW
  have hs : V.heap.size = w.heap.size + 2 := by rw [hV]; simp
  have hg : V.heap[w.heap.size]? = some (.cells Z t) := by rw [hV]; exact (heap_alloc_old _ _ (by simp)).trans (heap_alloc_new _ _)
  have hb : Below w.heap.size w V := by rw [hV]; exact ((Below.refl _ _).alloc (Nat.le_refl _) _).alloc (by simp) _
  have hB : Below w.heap.size w W := by rw [hW]; exact below_setRow hb (Nat.le_refl _) _
  have hS : W.heap.size = w.heap.size + 2 := by rw [hW, ← hs]; simp [World.setRow]
  have hc : ∀ j, W.cell? ⟨w.heap.size + 1, j, none⟩ = (#[Value.int .i64 n, .int .i64 1, .pointer (some ⟨w.heap.size, 0, none⟩), .pointer none, .pointer none] : Array Value)[j]? := fun j => by
    rw [hW, World.cell?_of_block (w := V) (setRow_other V w.heap.size (w.heap.size + 1) _ (by omega)), hV]
    exact World.cell?_alloc_at _ _ _ _ (by simp)
  refine ⟨⟨w.heap.size + 1, w.heap.size, rfl, by omega, by omega, ?_, ?_, ?_, ?_, ?_, ?_⟩, hB⟩
  · rw [hc 0, ← hn]; rfl
  · rw [hc 1]; rfl
  · rw [hc 2]; rfl
  · rw [hc 3]; rfl
  · rw [hc 4]; rfl
  · intro j x hx
    rw [hW, cell_setRow_same V w.heap.size j _ _ t _ hg]
    have hj : j < (l.map enc).length := by rw [List.length_map]; exact (List.getElem?_eq_some_iff.1 hx).1
    rw [List.getElem?_toArray, List.getElem?_append_left hj, List.getElem?_map, hx]
    rfl
/-- a value that is a list in memory: nil or empty, or some elements. -/
def Sq {α : Type} (enc : α → Value) (w : World) (v : Value) (l : List α) : Prop := (l = [] ∧ ∃ p c, v = .slice p 0 c) ∨ ∃ b o c, v = .slice (some ⟨b, o, none⟩) l.length c ∧ b < w.heap.size ∧ l.length ≤ c ∧ 1 ≤ l.length ∧ ∀ j x, l[j]? = some x → w.cell? ⟨b, o + j, none⟩ = some (enc x)
theorem Sq.later {α : Type} {enc : α → Value} {w w' : World} {v : Value} {l : List α} (hb : Below w.heap.size w w') : Sq enc w v l → Sq enc w' v l
  | .inl h => .inl h
  | .inr ⟨b, o, c, hv, h1, h2, h3, hl⟩ => .inr ⟨b, o, c, hv, Nat.lt_of_lt_of_le h1 hb.size, h2, h3, fun j x hx => (hb.cell (p := ⟨b, o + j, none⟩) h1).trans (hl j x hx)⟩
/-- the tree that build makes. -/
def bld {α : Type} : Nat → List α → Rp α
  | 0, l => .leaf l
  | g + 1, l => if l.length ≤ 16 then .leaf l else .fork (bld g (l.take ((l.length + 15) / 16 / 2 * 16))) (bld g (l.drop ((l.length + 15) / 16 / 2 * 16)))
theorem bld_list {α : Type} : ∀ (g : Nat) (l : List α), (bld g l).list = l
  | 0, _ => rfl
  | g + 1, l => by
    rw [bld]
    split
    · rfl
    · rw [Rp.list, bld_list g, bld_list g, List.take_append_drop]
theorem bld_depth {α : Type} : ∀ (g : Nat) (l : List α), l.length ≤ g → 1 ≤ l.length → (bld g l).depth ≤ l.length
  | 0, l, h, h1 => by omega
  | g + 1, l, h, h1 => by
    rw [bld]
    split
    · exact h1
    · have a := bld_depth g (l.take ((l.length + 15) / 16 / 2 * 16)) (by rw [List.length_take]; omega) (by rw [List.length_take]; omega)
      have b := bld_depth g (l.drop ((l.length + 15) / 16 / 2 * 16)) (by rw [List.length_drop]; omega) (by rw [List.length_drop]; omega)
      rw [List.length_take] at a
      rw [List.length_drop] at b
      rw [Rp.depth]
      omega
/-- leaves have 1 to 16 elements. -/
def Rp.Lv {α : Type} : Rp α → Prop
  | .leaf l => 1 ≤ l.length ∧ l.length ≤ 16
  | .fork a b => a.Lv ∧ b.Lv
theorem bld_lv {α : Type} : ∀ (g : Nat) (l : List α), l.length ≤ g → 1 ≤ l.length → (bld g l).Lv
  | 0, l, h, h1 => by omega
  | g + 1, l, h, h1 => by
    rw [bld]
    split
    · next h2 => exact ⟨h1, h2⟩
    · exact ⟨bld_lv g _ (by rw [List.length_take]; omega) (by rw [List.length_take]; omega), bld_lv g _ (by rw [List.length_drop]; omega) (by rw [List.length_drop]; omega)⟩
/-- the tree of Of. -/
def ofO {α : Type} [DecidableEq α] (l : List α) : Option (Rp α) := if l = [] then none else some (bld l.length l)
theorem ofO_list {α : Type} [DecidableEq α] (l : List α) : listO (ofO l) = l := by
  unfold ofO
  split
  · next h => rw [h]; rfl
  · exact bld_list _ _
/-- a store into a box of one pointer touches no tree. -/
theorem Nd.box {α : Type} {enc : α → Value} {w : World} {g : Nat} {p : Option Addr} {ty : TypeId} (v : Value) (hg : w.heap[g]? = some (.cells #[.pointer p] ty)) (he : ∀ x q, enc x ≠ .pointer q) : ∀ {a : Option Addr} {t : Rp α}, Nd enc w a t → Nd enc (w.setCell ⟨g, 0, none⟩ v) a t := by
  have hz : (w.setCell ⟨g, 0, none⟩ v).heap.size = w.heap.size := by simp [World.setCell]
  have h1 : w.cell? ⟨g, 1, none⟩ = none := by simp [World.cell?, hg]
  have hj : ∀ j, 1 ≤ j → w.cell? ⟨g, j, none⟩ = none := fun j hj => by simp [World.cell?, hg]; omega
  have h0 : w.cell? ⟨g, 0, none⟩ = some (.pointer p) := by simp [World.cell?, hg]
  have far : ∀ b, b ≠ g → ∀ j, (w.setCell ⟨g, 0, none⟩ v).cell? ⟨b, j, none⟩ = w.cell? ⟨b, j, none⟩ := fun b hb j => World.cell?_setCell_far w _ _ v (fun c => hb c.symm)
  intro a t
  induction t generalizing a with
  | leaf l =>
    rintro ⟨b, e, ha, hb, hE, c0, c1, c2, c3, c4, hl⟩
    have hbg : b ≠ g := fun c => by rw [c, h1] at c1; cases c1
    refine ⟨b, e, ha, by rw [hz]; exact hb, by rw [hz]; exact hE, by rw [far b hbg]; exact c0, by rw [far b hbg]; exact c1, by rw [far b hbg]; exact c2, by rw [far b hbg]; exact c3, by rw [far b hbg]; exact c4, fun j x hx => ?_⟩
    by_cases heg : e = g
    · exfalso
      have := hl j x hx
      rw [heg] at this
      by_cases j0 : j = 0
      · rw [j0, h0] at this
        exact he x p (Option.some.inj this).symm
      · rw [hj j (by omega)] at this
        cases this
    · rw [far e heg]
      exact hl j x hx
  | fork t1 t2 ih1 ih2 =>
    rintro ⟨b, a1, a2, ha, hb, c0, c1, c2, c3, c4, hp, hq⟩
    have hbg : b ≠ g := fun c => by rw [c, h1] at c1; cases c1
    exact ⟨b, a1, a2, ha, by rw [hz]; exact hb, by rw [far b hbg]; exact c0, by rw [far b hbg]; exact c1, by rw [far b hbg]; exact c2, by rw [far b hbg]; exact c3, by rw [far b hbg]; exact c4, ih1 hp, ih2 hq⟩
theorem On.box {α : Type} {enc : α → Value} {w : World} {g : Nat} {p : Option Addr} {ty : TypeId} (v : Value) (hg : w.heap[g]? = some (.cells #[.pointer p] ty)) (he : ∀ x q, enc x ≠ .pointer q) {a : Option Addr} {o : Option (Rp α)} (h : On enc w a o) : On enc (w.setCell ⟨g, 0, none⟩ v) a o := by
  cases o with
  | none => exact h
  | some t => exact Nd.box v hg he h
end Go.Proofs.Ytamcobncfbjdmaa
