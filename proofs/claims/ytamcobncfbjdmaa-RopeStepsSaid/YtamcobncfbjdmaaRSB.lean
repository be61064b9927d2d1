/- Join of string. -/
import Derived.Test.YtamcobncfbjdmaaRSA
namespace Go.Proofs.Ytamcobncfbjdmaa
open Go.RowKit

theorem hE (x : ByteArray) (q : Option Addr) : encS x ≠ .pointer q := by simp [encS]
set_option maxHeartbeats 3200000 in
theorem pJoinS_any (a1 a2 : Option Addr) (l1 l2 : List ByteArray) (w : World) (h1 : Nd encS w a1 (.leaf l1)) (h2 : Nd encS w a2 (.leaf l2)) (p1 : 0 < l1.length) (p2 : 0 < l2.length) (hs : l1.length + l2.length ≤ 16) :
    Calls Try.prog 71 #[.agg #[.pointer a1], .agg #[.pointer a2]] w (fun r w' => ∃ c, r = .returned (.agg #[.pointer c]) ∧ Hid (Nd encS w' c (.leaf (l1 ++ l2))) ∧ Hid (Below w.heap.size w w')) := by
  have HB : Hid (Below w.heap.size w (((w.alloc (.cells #[.pointer a1] 74)).alloc (.cells #[.pointer a2] 74)).alloc (.cells #[.pointer none] 74))) := Lib.hid ((((Below.refl _ _).alloc (Nat.le_refl _) _).alloc (by simp) _).alloc (by simp; omega) _)
  have HC := Lib.hid (pjoinS_any a1 a2 l1 l2 _ (h1.later HB.out) (h2.later HB.out) p1 p2 hs)
  have H3 := Lib.hid (box3 w (.cells #[.pointer a1] 74) (.cells #[.pointer a2] 74) (.cells #[.pointer none] 74))
  clear h1 h2
  go_enter Try.func71, Try.ntmps71
  go_wp2_with (first | (go_at_call 90; refine HC.out.mono ?_; rintro e w1 ⟨c, rfl, HN1, HB1⟩; have b4 := (HB1.out.block (w.heap.size + 1 + 1) (by simp)).trans H3.out.2.2; have c4 := cell_of b4; have f4 := frozen_of b4) | fail)
  have B4 : Boxed w1 (w.heap.size + 1 + 1) 74 (.pointer none) := b4
  have z4 := (B4.set (.pointer c)).cell
  refine bodyPost_ret (v := .agg #[.pointer c]) (by simp [results, Try.results71, go_sem, z4]) rfl ?_
  exact ⟨c, rfl, Lib.hid (HN1.out.box _ b4 hE), Lib.hid ((HB.out.trans (HB1.out.mono HB.out.size)).setCell (p := ⟨w.heap.size + 1 + 1, 0, none⟩) (by simp; omega) _)⟩
end Go.Proofs.Ytamcobncfbjdmaa
