/- Of, Len, At of ropes of int. -/
import Derived.Test.YtamcobncfbjdmaaRI3
namespace Go.Proofs.Ytamcobncfbjdmaa
open Go.RowKit

theorem pbuild0I_any (p : Option Addr) (c : Nat) (w : World) : Calls Try.prog 47 #[.slice p 0 c] w (fun r w' => r = .returned (.pointer none) ∧ w' = w) := by
  have HL := Lib.hid (pleaf0I_any p c w)
  go_enter Try.func47, Try.ntmps47
  go_wp2_with (first | (go_at_call 75; refine HL.out.mono ?_; rintro e w1 ⟨rfl, rfl⟩) | fail)
  go_ret
  exact ⟨rfl, rfl⟩
theorem pbuildqI_any (v : Value) (l : List Int) (w : World) (h : Sq encI w v l) (hm : l.length ≤ 1000000) : Calls Try.prog 47 #[v] w (fun r w' => ∃ a, r = .returned (.pointer a) ∧ Hid (On encI w' a (ofO l)) ∧ Hid (Below w.heap.size w w')) := by
  rcases h with ⟨rfl, p, c, rfl⟩ | ⟨b, o, c, rfl, h1, h2, h3, h4⟩
  · refine (pbuild0I_any p c w).mono ?_
    rintro r w' ⟨rfl, rfl⟩
    exact ⟨none, rfl, Lib.hid (by show On _ _ _ _; rw [ofO, if_pos rfl]; exact rfl), Lib.hid (Below.refl _ _)⟩
  · refine (pbuildI_any l.length b o c l w (Nat.le_refl _) hm h1 h3 h2 (Lib.hid h4)).mono ?_
    rintro r w' ⟨a, rfl, hN, hB⟩
    exact ⟨a, rfl, Lib.hid (by rw [ofO, if_neg (by rintro rfl; simp at h3)]; exact hN.out), hB⟩

set_option maxHeartbeats 1600000 in
theorem pOfI_any (v : Value) (l : List Int) (w : World) (h : Sq encI w v l) (hm : l.length ≤ 1000000) : Calls Try.prog 12 #[v] w (fun r w' => ∃ a, r = .returned (.agg #[.pointer a]) ∧ Hid (On encI w' a (ofO l)) ∧ Hid (Below w.heap.size w w')) := by
  have HB : Hid (Below w.heap.size w (w.alloc (.cells #[.pointer none] 28))) := Lib.hid ((Below.refl _ _).alloc (Nat.le_refl _) _)
  have HC := Lib.hid (pbuildqI_any v l _ (h.later HB.out) hm)
  clear h
  go_enter Try.func12, Try.ntmps12
  go_wp2_with (first | (go_at_call 47; refine HC.out.mono ?_; rintro e w1 ⟨a, rfl, HN, HB1⟩; have bp := (HB1.out.block w.heap.size (by simp)).trans (heap_alloc_new _ _); have BP := Lib.hid bp; have c0 : w1.cell? ⟨w.heap.size, 0, none⟩ = some (.pointer none) := (by simp [World.cell?, bp]); have f0 : w1.frozen? ⟨w.heap.size, 0, none⟩ = false := (by simp [World.frozen?, bp]); clear bp) | fail)
  have z0 : (w1.setCell ⟨w.heap.size, 0, none⟩ (.pointer a)).cell? ⟨w.heap.size, 0, none⟩ = some (.pointer a) := World.cell?_setCell_same' _ _ _ (by rw [c0]; rfl)
  have hb2 : Below w.heap.size w (w1.setCell ⟨w.heap.size, 0, none⟩ (.pointer a)) := (HB.out.trans (HB1.out.mono HB.out.size)).setCell (Nat.le_refl _) _
  refine bodyPost_ret (v := .agg #[.pointer a]) (by simp [results, Try.results12, go_sem, z0]) rfl ?_
  exact ⟨a, rfl, Lib.hid (HN.out.box _ BP.out (fun _ _ => by simp)), Lib.hid hb2⟩
theorem pLenI_any (a : Option Addr) (o : Option (Rp Int)) (w : World) (h : On encI w a o) : Calls Try.prog 28 #[.agg #[.pointer a]] w (fun e w' => e = .returned (.int .i64 (listO o).length) ∧ Hid (Below w.heap.size w w')) := by
  have HB : Hid (Below w.heap.size w (w.alloc (.cells #[.pointer a] 28))) := Lib.hid ((Below.refl _ _).alloc (Nat.le_refl _) _)
  have HC := Lib.hid (plenI_any a o _ (h.later HB.out))
  clear h
  go_enter Try.func28, Try.ntmps28
  go_wp2_with (first | (go_at_call 61; refine HC.out.mono ?_; rintro e w1 ⟨rfl, rfl⟩) | fail)
  go_ret
  exact ⟨rfl, HB⟩

set_option maxHeartbeats 3200000 in
theorem pAtI_any (a : Option Addr) (t : Rp Int) (i : Nat) (x : Int) (w : World) (h : Nd encI w a t) (hL : t.Lv) (hm : t.list.length ≤ 1000000) (hx : t.list[i]? = some x) :
    Calls Try.prog 24 #[.agg #[.pointer a], .int .i64 i] w (fun e w' => e = .returned (.tuple #[encI x, .bool true]) ∧ Hid (Below w.heap.size w w')) := by
  have hi : i < t.list.length := (List.getElem?_eq_some_iff.1 hx).1
  have HB : Hid (Below w.heap.size w (w.alloc (.cells #[.pointer a] 28))) := Lib.hid ((Below.refl _ _).alloc (Nat.le_refl _) _)
  have HC := Lib.hid (pLenI_any a (some t) _ (On.later (o := some t) h HB.out))
  have HF : Hid (∀ w', Below w.heap.size w w' → Calls Try.prog 59 #[.pointer a, .int .i64 i] w' (fun r w'' => ∃ e k m c, r = .returned (.slice (some ⟨e, k, none⟩) m c) ∧ 1 ≤ m ∧ w''.cell? ⟨e, k, none⟩ = some (encI x) ∧ Hid (Below w.heap.size w w''))) := Lib.hid fun w' hw => by
    refine (pfromI_any t i a w' (h.later hw) hL hi hm).mono ?_
    rintro r w'' ⟨e, k, m, c, rfl, h1, h2, h3, h4, h5⟩
    exact ⟨e, k, m, c, rfl, h1, (h5.out.cell (p := ⟨e, k, none⟩) h3).trans (h4.out 0 x h1 (by rw [Nat.add_zero]; exact hx)), Lib.hid (hw.trans (h5.out.mono hw.size))⟩
  obtain ⟨n, hn⟩ : ∃ n, n = t.list.length := ⟨_, rfl⟩
  have HN : Hid ((listO (some t)).length = n) := Lib.hid hn.symm
  rw [HN.out] at HC
  rw [← hn] at hi
  have hi0 : ¬ (i : Int) < 0 := by omega
  have hin : ¬ (n : Int) ≤ (i : Int) := by omega
  clear h hn hm hx hL
  go_enter Try.func24, Try.ntmps24
  go_wp2_with (first
    | (go_at_call 59; have hmark := HB1.out; refine (HF.out _ HB2.out).mono ?_; rintro e w2 ⟨e2, k, m, c, rfl, hm1, cx, HB3⟩; have hmi : (0 : Int) < (m : Int) := (by omega))
    | (go_at_call 28; refine HC.out.mono ?_; rintro e w1 ⟨rfl, HB1⟩; have HB2 := Lib.hid (HB.out.trans (HB1.out.mono HB.out.size)); have c0 := (HB1.out.cell (p := ⟨w.heap.size, 0, none⟩) (by simp)).trans (World.cell?_alloc_at _ _ _ _ rfl))
    | fail)
  refine bodyPost_ret (v := .tuple #[encI x, .bool true]) (by simp [results, Try.results24, go_sem]) rfl ?_
  exact ⟨rfl, HB3⟩
end Go.Proofs.Ytamcobncfbjdmaa
