/- Of, Len of ropes of string. -/
import Derived.Test.YtamcobncfbjdmaaRS2
namespace Go.Proofs.Ytamcobncfbjdmaa
open Go.RowKit

theorem pbuild0S_any (p : Option Addr) (c : Nat) (w : World) : Calls Try.prog 69 #[.slice p 0 c] w (fun r w' => r = .returned (.pointer none) ∧ w' = w) := by
  have HL := Lib.hid (pleaf0S_any p c w)
  go_enter Try.func69, Try.ntmps69
  go_wp2_with (first | (go_at_call 88; refine HL.out.mono ?_; rintro e w1 ⟨rfl, rfl⟩) | fail)
  go_ret
  exact ⟨rfl, rfl⟩
theorem pbuildqS_any (v : Value) (l : List ByteArray) (w : World) (h : Sq encS w v l) (hm : l.length ≤ 1000000) : Calls Try.prog 69 #[v] w (fun r w' => ∃ a, r = .returned (.pointer a) ∧ Hid (On encS w' a (ofO l)) ∧ Hid (Below w.heap.size w w')) := by
  rcases h with ⟨rfl, p, c, rfl⟩ | ⟨b, o, c, rfl, h1, h2, h3, h4⟩
  · refine (pbuild0S_any p c w).mono ?_
    rintro r w' ⟨rfl, rfl⟩
    exact ⟨none, rfl, Lib.hid (by show On _ _ _ _; rw [ofO, if_pos rfl]; exact rfl), Lib.hid (Below.refl _ _)⟩
  · refine (pbuildS_any l.length b o c l w (Nat.le_refl _) hm h1 h3 h2 (Lib.hid h4)).mono ?_
    rintro r w' ⟨a, rfl, hN, hB⟩
    exact ⟨a, rfl, Lib.hid (by rw [ofO, if_neg (by rintro rfl; simp at h3)]; exact hN.out), hB⟩

set_option maxHeartbeats 1600000 in
theorem pOfS_any (v : Value) (l : List ByteArray) (w : World) (h : Sq encS w v l) (hm : l.length ≤ 1000000) : Calls Try.prog 41 #[v] w (fun r w' => ∃ a, r = .returned (.agg #[.pointer a]) ∧ Hid (On encS w' a (ofO l)) ∧ Hid (Below w.heap.size w w')) := by
  have HB : Hid (Below w.heap.size w (w.alloc (.cells #[.pointer none] 74))) := Lib.hid ((Below.refl _ _).alloc (Nat.le_refl _) _)
  have HC := Lib.hid (pbuildqS_any v l _ (h.later HB.out) hm)
  clear h
  go_enter Try.func41, Try.ntmps41
  go_wp2_with (first | (go_at_call 69; refine HC.out.mono ?_; rintro e w1 ⟨a, rfl, HN, HB1⟩; have bp := (HB1.out.block w.heap.size (by simp)).trans (heap_alloc_new _ _); have BP := Lib.hid bp; have c0 : w1.cell? ⟨w.heap.size, 0, none⟩ = some (.pointer none) := (by simp [World.cell?, bp]); have f0 : w1.frozen? ⟨w.heap.size, 0, none⟩ = false := (by simp [World.frozen?, bp]); clear bp) | fail)
  have z0 : (w1.setCell ⟨w.heap.size, 0, none⟩ (.pointer a)).cell? ⟨w.heap.size, 0, none⟩ = some (.pointer a) := World.cell?_setCell_same' _ _ _ (by rw [c0]; rfl)
  have hb2 : Below w.heap.size w (w1.setCell ⟨w.heap.size, 0, none⟩ (.pointer a)) := (HB.out.trans (HB1.out.mono HB.out.size)).setCell (Nat.le_refl _) _
  refine bodyPost_ret (v := .agg #[.pointer a]) (by simp [results, Try.results41, go_sem, z0]) rfl ?_
  exact ⟨a, rfl, Lib.hid (HN.out.box _ BP.out (fun _ _ => by simp)), Lib.hid hb2⟩
theorem pLenS_any (a : Option Addr) (o : Option (Rp ByteArray)) (w : World) (h : On encS w a o) : Calls Try.prog 46 #[.agg #[.pointer a]] w (fun e w' => e = .returned (.int .i64 (listO o).length) ∧ Hid (Below w.heap.size w w')) := by
  have HB : Hid (Below w.heap.size w (w.alloc (.cells #[.pointer a] 74))) := Lib.hid ((Below.refl _ _).alloc (Nat.le_refl _) _)
  have HC := Lib.hid (plenS_any a o _ (h.later HB.out))
  clear h
  go_enter Try.func46, Try.ntmps46
  go_wp2_with (first | (go_at_call 74; refine HC.out.mono ?_; rintro e w1 ⟨rfl, rfl⟩) | fail)
  go_ret
  exact ⟨rfl, HB⟩

end Go.Proofs.Ytamcobncfbjdmaa
