/- split and Split of string. -/
import Derived.Test.YtamcobncfbjdmaaRS8
import Derived.Test.YtamcobncfbjdmaaRk
namespace Go.Proofs.Ytamcobncfbjdmaa
open Go.RowKit

theorem box2 (w : World) (X Y : Obj) : ((w.alloc X).alloc Y).heap[w.heap.size]? = some X ∧ ((w.alloc X).alloc Y).heap[w.heap.size + 1]? = some Y := by
  refine ⟨(Below.heap_alloc _ _ _ (by simp)).trans (heap_alloc_new w X), ?_⟩
  have := heap_alloc_new (w.alloc X) Y
  rwa [World.size_alloc] at this
theorem box3 (w : World) (X Y Z : Obj) : (((w.alloc X).alloc Y).alloc Z).heap[w.heap.size]? = some X ∧ (((w.alloc X).alloc Y).alloc Z).heap[w.heap.size + 1]? = some Y ∧ (((w.alloc X).alloc Y).alloc Z).heap[w.heap.size + 1 + 1]? = some Z := by
  obtain ⟨h1, h2⟩ := box2 w X Y
  refine ⟨(Below.heap_alloc _ _ _ (by simp; omega)).trans h1, (Below.heap_alloc _ _ _ (by simp)).trans h2, ?_⟩
  have := heap_alloc_new ((w.alloc X).alloc Y) Z
  rwa [World.size_alloc, World.size_alloc] at this
theorem box4 (w : World) (X Y Z U : Obj) : ((((w.alloc X).alloc Y).alloc Z).alloc U).heap[w.heap.size]? = some X ∧ ((((w.alloc X).alloc Y).alloc Z).alloc U).heap[w.heap.size + 1]? = some Y ∧ ((((w.alloc X).alloc Y).alloc Z).alloc U).heap[w.heap.size + 1 + 1]? = some Z ∧ ((((w.alloc X).alloc Y).alloc Z).alloc U).heap[w.heap.size + 1 + 1 + 1]? = some U := by
  obtain ⟨h1, h2, h3⟩ := box3 w X Y Z
  refine ⟨(Below.heap_alloc _ _ _ (by simp; omega)).trans h1, (Below.heap_alloc _ _ _ (by simp; try omega)).trans h2, (Below.heap_alloc _ _ _ (by simp)).trans h3, ?_⟩
  have := heap_alloc_new (((w.alloc X).alloc Y).alloc Z) U
  rwa [World.size_alloc, World.size_alloc, World.size_alloc] at this
theorem cell_of {w : World} {b : Nat} {v : Value} {t : TypeId} (h : w.heap[b]? = some (.cells #[v] t (0, 0))) : w.cell? ⟨b, 0, none⟩ = some v := by simp [World.cell?, h]
theorem frozen_of {w : World} {b : Nat} {v : Value} {t : TypeId} (h : w.heap[b]? = some (.cells #[v] t (0, 0))) : w.frozen? ⟨b, 0, none⟩ = false := by simp [World.frozen?, h]

theorem psplit2_any (a : Option Addr) (l : List ByteArray) (h : Nat) (w : World) (hN : Nd encS w a (.leaf l)) (h0 : 0 < h) (hh : l.length ≤ h) :
    Calls Try.prog 72 #[.pointer a, .int .i64 h] w (fun r w' => r = .returned (.tuple #[.pointer a, .pointer none]) ∧ w' = w) := by
  have C3 := plenS_any a (some (.leaf l)) w hN
  obtain ⟨b, e, rfl, c0, c2, he, hc⟩ := hN.leaf2
  have C3' : Hid (Calls Try.prog 74 #[.pointer (some ⟨b, 0, none⟩)] w (fun e w' => e = .returned (.int .i64 l.length) ∧ w' = w)) := Lib.hid C3
  obtain ⟨n, hn⟩ : ∃ n, n = l.length := ⟨_, rfl⟩
  rw [← hn] at C3' hh
  clear C3 hn hN c0 c2 hc
  have hi0 : ¬ (h : Int) ≤ 0 := by omega
  have hin : (n : Int) ≤ (h : Int) := by omega
  go_enter Try.func72, Try.ntmps72
  go_wp2_with (first
    | (go_at_call 74; refine C3'.out.mono ?_; rintro r w9 ⟨rfl, hw9⟩; obtain rfl := hw9.symm)
    | fail)
  refine bodyPost_ret (v := .tuple #[.pointer (some ⟨b, 0, none⟩), .pointer none]) (by simp [results, Try.results72, go_sem]) rfl ?_
  exact ⟨rfl, rfl⟩
/-- what is behind the first h elements of a leaf. -/
def oD (l : List ByteArray) (h : Nat) : Option (Rp ByteArray) := if h < l.length then some (.leaf (l.drop h)) else none
theorem psplitS_any (a : Option Addr) (l : List ByteArray) (h : Nat) (w : World) (hN : Nd encS w a (.leaf l)) (hl : l.length ≤ 16) (h0 : 0 < h) :
    Calls Try.prog 72 #[.pointer a, .int .i64 h] w (fun r w' => ∃ a1 a2, r = .returned (.tuple #[.pointer a1, .pointer a2]) ∧ Hid (Nd encS w' a1 (.leaf (l.take h))) ∧ Hid (On encS w' a2 (oD l h)) ∧ Hid (Below w.heap.size w w')) := by
  by_cases hh : h < l.length
  · refine (psplit1_any a l h w hN hl h0 hh).mono ?_
    rintro r w' ⟨a1, a2, rfl, h1, h2, h3⟩
    exact ⟨a1, a2, rfl, h1, by rw [oD, if_pos hh]; exact h2, h3⟩
  · refine (psplit2_any a l h w hN h0 (by omega)).mono ?_
    rintro r w' ⟨rfl, rfl⟩
    exact ⟨a, none, rfl, Lib.hid (by rw [List.take_of_length_le (by omega)]; exact hN), Lib.hid (by rw [oD, if_neg hh]; exact rfl), Lib.hid (Below.refl _ _)⟩

set_option maxHeartbeats 3200000 in
theorem pSplitS_any (a : Option Addr) (l : List ByteArray) (h : Nat) (w : World) (hN : Nd encS w a (.leaf l)) (hl : l.length ≤ 16) (h0 : 0 < h) :
    Calls Try.prog 43 #[.agg #[.pointer a], .int .i64 h] w (fun r w' => ∃ a1 a2, r = .returned (.tuple #[.agg #[.pointer a1], .agg #[.pointer a2]]) ∧ Hid (Nd encS w' a1 (.leaf (l.take h))) ∧ Hid (On encS w' a2 (oD l h)) ∧ Hid (Below w.heap.size w w')) := by
  have HB : Hid (Below w.heap.size w (((w.alloc (.cells #[.pointer a] 74)).alloc (.cells #[.pointer none] 74)).alloc (.cells #[.pointer none] 74))) := Lib.hid ((((Below.refl _ _).alloc (Nat.le_refl _) _).alloc (by simp) _).alloc (by simp; omega) _)
  have HC := Lib.hid (psplitS_any a l h _ (hN.later HB.out) hl h0)
  have H3 := Lib.hid (box3 w (.cells #[.pointer a] 74) (.cells #[.pointer none] 74) (.cells #[.pointer none] 74))
  clear hN
  go_enter Try.func43, Try.ntmps43
  go_wp2_with (first | (go_at_call 72; refine HC.out.mono ?_; rintro e w1 ⟨a1, a2, rfl, HN1, HN2, HB1⟩; have b4 := (HB1.out.block (w.heap.size + 1) (by simp)).trans H3.out.2.1; have b5 := (HB1.out.block (w.heap.size + 1 + 1) (by simp)).trans H3.out.2.2; have c4 := cell_of b4; have c5 := cell_of b5; have f4 := frozen_of b4; have f5 := frozen_of b5) | fail)
  have B4 : Boxed w1 (w.heap.size + 1) 74 (.pointer none) := b4
  have B5 : Boxed w1 (w.heap.size + 1 + 1) 74 (.pointer none) := b5
  have S4 := (B4.set (.pointer a1)).other (by omega) (B' := w.heap.size + 1 + 1) (.pointer a2)
  have S5 := (B5.other (by omega) (B' := w.heap.size + 1) (.pointer a1)).set (.pointer a2)
  have z4 := S4.cell
  have z5 := S5.cell
  refine bodyPost_ret (v := .tuple #[.agg #[.pointer a1], .agg #[.pointer a2]]) (by simp [results, Try.results43, go_sem, z4, z5]) rfl ?_
  have hE : ∀ (x : ByteArray) q, encS x ≠ .pointer q := fun _ _ => by simp [encS]
  have B5' : (w1.setCell ⟨w.heap.size + 1, 0, none⟩ (.pointer a1)).heap[w.heap.size + 1 + 1]? = some (.cells #[.pointer none] 74 (0, 0)) := B5.other (by omega) _
  exact ⟨a1, a2, rfl, Lib.hid ((HN1.out.box _ b4 hE).box _ B5' hE), Lib.hid ((HN2.out.box _ b4 hE).box _ B5' hE), Lib.hid (((HB.out.trans (HB1.out.mono HB.out.size)).setCell (p := ⟨w.heap.size + 1, 0, none⟩) (by simp) _).setCell (p := ⟨w.heap.size + 1 + 1, 0, none⟩) (by simp; omega) _)⟩
end Go.Proofs.Ytamcobncfbjdmaa
