/- Split, Join of ropes of ints. -/
import Derived.Test.YtamcobncfbjdmaaRT6
import Derived.Test.YtamcobncfbjdmaaRSE
namespace Go.Proofs.Ytamcobncfbjdmaa
open Go.RowKit

theorem Holds.box {w : World} {g : Nat} {p : Option Addr} {ty : TypeId} (v : Value) (hg : w.heap[g]? = some (.cells #[.pointer p] ty)) {a : Option Addr} {l : List Int} (h : Holds w a l) : Holds (w.setCell ⟨g, 0, none⟩ v) a l := by
  obtain ⟨o, h1, h2, h3⟩ := h
  exact ⟨o, On.box v hg (fun _ _ => by simp [encI]) h1, h2, h3⟩
theorem psplitH_any (a : Option Addr) (l : List Int) (i : Int) (w : World) (h : Holds w a l) (hm : l.length ≤ 1000000) : Calls Try.prog 51 #[.pointer a, .int .i64 i] w (SplitOut l i w) := by
  rcases h.cases with ⟨rfl, rfl⟩ | ⟨t, ht, hL, rfl, _⟩
  · by_cases h0 : i ≤ 0
    · exact psplitLo_any none [] i w h h0
    · exact psplitHi_any none [] i w h (by omega) (by simp; omega)
  · exact psplit_any t a i w ht hL hm
set_option maxHeartbeats 3200000 in
theorem pSplitI_any (a : Option Addr) (l : List Int) (h : Int) (w : World) (hN : Holds w a l) (hl : l.length ≤ 1000000) :
    Calls Try.prog 16 #[.agg #[.pointer a], .int .i64 h] w (fun r w' => ∃ a1 a2, r = .returned (.tuple #[.agg #[.pointer a1], .agg #[.pointer a2]]) ∧ Hid (Holds w' a1 (l.take h.toNat)) ∧ Hid (Holds w' a2 (l.drop h.toNat)) ∧ Hid (Below w.heap.size w w')) := by
  have HB : Hid (Below w.heap.size w (((w.alloc (.cells #[.pointer a] 28)).alloc (.cells #[.pointer none] 28)).alloc (.cells #[.pointer none] 28))) := Lib.hid ((((Below.refl _ _).alloc (Nat.le_refl _) _).alloc (by simp) _).alloc (by simp; omega) _)
  have HC := Lib.hid (psplitH_any a l h _ (hN.later HB.out) hl)
  have H3 := Lib.hid (box3 w (.cells #[.pointer a] 28) (.cells #[.pointer none] 28) (.cells #[.pointer none] 28))
  clear hN
  go_enter Try.func16, Try.ntmps16
  go_wp2_with (first | (go_at_call 51; refine HC.out.mono ?_; rintro e w1 ⟨a1, a2, rfl, HN1, HN2, HB1⟩; have b4 := (HB1.out.block (w.heap.size + 1) (by simp)).trans H3.out.2.1; have b5 := (HB1.out.block (w.heap.size + 1 + 1) (by simp)).trans H3.out.2.2; have c4 := cell_of b4; have c5 := cell_of b5; have f4 := frozen_of b4; have f5 := frozen_of b5) | fail)
  have B4 : Boxed w1 (w.heap.size + 1) 28 (.pointer none) := b4
  have B5 : Boxed w1 (w.heap.size + 1 + 1) 28 (.pointer none) := b5
  have S4 := (B4.set (.pointer a1)).other (by omega) (B' := w.heap.size + 1 + 1) (.pointer a2)
  have S5 := (B5.other (by omega) (B' := w.heap.size + 1) (.pointer a1)).set (.pointer a2)
  have z4 := S4.cell
  have z5 := S5.cell
  refine bodyPost_ret (v := .tuple #[.agg #[.pointer a1], .agg #[.pointer a2]]) (by simp [results, Try.results16, go_sem, z4, z5]) rfl ?_
  have B5' : (w1.setCell ⟨w.heap.size + 1, 0, none⟩ (.pointer a1)).heap[w.heap.size + 1 + 1]? = some (.cells #[.pointer none] 28 (0, 0)) := B5.other (by omega) _
  exact ⟨a1, a2, rfl, Lib.hid ((HN1.out.box _ b4).box _ B5'), Lib.hid ((HN2.out.box _ b4).box _ B5'), Lib.hid (((HB.out.trans (HB1.out.mono HB.out.size)).setCell (p := ⟨w.heap.size + 1, 0, none⟩) (by simp) _).setCell (p := ⟨w.heap.size + 1 + 1, 0, none⟩) (by simp; omega) _)⟩
set_option maxHeartbeats 3200000 in
theorem pJoinI_any (a1 a2 : Option Addr) (l1 l2 : List Int) (w : World) (h1 : Holds w a1 l1) (h2 : Holds w a2 l2) (hs : l1.length + l2.length ≤ 1000000) :
    Calls Try.prog 29 #[.agg #[.pointer a1], .agg #[.pointer a2]] w (fun r w' => ∃ c, r = .returned (.agg #[.pointer c]) ∧ Hid (Holds w' c (l1 ++ l2)) ∧ Hid (Below w.heap.size w w')) := by
  have HB : Hid (Below w.heap.size w (((w.alloc (.cells #[.pointer a1] 28)).alloc (.cells #[.pointer a2] 28)).alloc (.cells #[.pointer none] 28))) := Lib.hid ((((Below.refl _ _).alloc (Nat.le_refl _) _).alloc (by simp) _).alloc (by simp; omega) _)
  have HC := Lib.hid (pjoinO_any a1 a2 l1 l2 _ (h1.later HB.out) (h2.later HB.out) hs)
  have H3 := Lib.hid (box3 w (.cells #[.pointer a1] 28) (.cells #[.pointer a2] 28) (.cells #[.pointer none] 28))
  clear h1 h2
  go_enter Try.func29, Try.ntmps29
  go_wp2_with (first | (go_at_call 62; refine HC.out.mono ?_; rintro e w1 ⟨c, rfl, HN1, HB1⟩; have b4 := (HB1.out.block (w.heap.size + 1 + 1) (by simp)).trans H3.out.2.2; have c4 := cell_of b4; have f4 := frozen_of b4) | fail)
  have B4 : Boxed w1 (w.heap.size + 1 + 1) 28 (.pointer none) := b4
  have z4 := (B4.set (.pointer c)).cell
  refine bodyPost_ret (v := .agg #[.pointer c]) (by simp [results, Try.results29, go_sem, z4]) rfl ?_
  exact ⟨c, rfl, Lib.hid (HN1.out.box _ b4), Lib.hid ((HB.out.trans (HB1.out.mono HB.out.size)).setCell (p := ⟨w.heap.size + 1 + 1, 0, none⟩) (by simp; omega) _)⟩
end Go.Proofs.Ytamcobncfbjdmaa
