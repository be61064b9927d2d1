/- Part of ropes of ints. -/
import Derived.Test.YtamcobncfbjdmaaRT8
namespace Go.Proofs.Ytamcobncfbjdmaa
open Go.RowKit Go.Shelf Go.BigFrame
attribute [local go_sem] Oper.semAt_some

set_option maxRecDepth 100000 in
set_option maxHeartbeats 3200000 in
theorem pPartI_any (a : Option Addr) (l : List Int) (f t F T : Int) (w : World) (hN : Holds w a l) (hl : l.length ≤ 1000000) (hF : max f 0 = F) (hT : max F t = T) :
    Calls Try.prog 17 #[.agg #[.pointer a], .int .i64 f, .int .i64 t] w (fun r w' => ∃ c, r = .returned (.agg #[.pointer c]) ∧ Hid (Holds w' c ((l.take T.toNat).drop F.toNat)) ∧ Hid (Below w.heap.size w w')) := by
  obtain ⟨W, hW⟩ : ∃ W, W = (w.alloc (.cells #[.pointer a] 28)).alloc (.cells #[.pointer none] 28) := ⟨_, rfl⟩
  have hb : Below w.heap.size w W := by rw [hW]; exact ((Below.refl _ _).alloc (Nat.le_refl _) _).alloc (by simp) _
  have hsz : W.heap.size = w.heap.size + 2 := by rw [hW]; simp
  have hr : Boxed W (w.heap.size + 1) 28 (.pointer none) := by rw [hW]; have := Boxed.new (w.alloc (.cells #[.pointer a] 28)) 28 (.pointer none); rwa [World.size_alloc] at this
  have C1 := ppartsI_any a l f t F T W (hN.later hb) (by omega) hF hT
  rw [hW] at C1
  replace C1 := Lib.hid C1
  have HW := Lib.hid hW
  have HHr := Lib.hid hr
  have HBW := Lib.hid hb
  clear hW hN hF hT hl hr hb
  refine (callsIn_wide (n := 5)).1 ?_
  refine callsIn_of_wp Try.func17 rfl trivial ?_ rfl
  simp only [Try.ntmps17, List.size_toArray, List.length_cons, List.length_nil, Nat.reduceAdd, Nat.reduceSub, Array.replicate_succ, Array.replicate_zero, List.push_toArray, List.append_toArray, List.nil_append, List.cons_append]
  gi_wp2_with (first
    | (refine ⟨trivial, ?_⟩; gi_at_call 52; refine (callsIn_wide.2 C1.out).mono ?_; rintro e' w1 ⟨a1, a2, a3, rfl, HN1, HN2, HN3, HB1⟩; rw [← HW.out] at HB1; have hs1 := HB1.out.size; have b6 : Boxed w1 (w.heap.size + 1) 28 (.pointer none) := (HB1.out.block _ (by omega)).trans HHr.out; have b9 := ((b6.alloc (.cells #[.pointer a1] 28)).alloc (.cells #[.pointer a2] 28)).alloc (.cells #[.pointer a3] 28); have c9 := b9.cell; have f9 := b9.frozen; have d9 := (b9.set (.pointer a2)).cell; have HB9 := Lib.hid b9; clear b6 b9)
    | fail)
  refine bodyPost_ret (v := .agg #[.pointer a2]) (by simp [results, Try.f17, go_sem, d9]) rfl ?_
  refine ⟨a2, rfl, Lib.hid ?_, Lib.hid ?_⟩
  · have hv : Below w1.heap.size w1 (((w1.alloc (.cells #[.pointer a1] 28)).alloc (.cells #[.pointer a2] 28)).alloc (.cells #[.pointer a3] 28)) := (((Below.refl _ _).alloc (Nat.le_refl _) _).alloc (by simp) _).alloc (by simp; omega) _
    exact (HN2.out.later hv).box _ HB9.out
  · exact ((((HBW.out.trans (HB1.out.mono HBW.out.size)).alloc (by omega) _).alloc (by simp; omega) _).alloc (by simp; omega) _).setCell (p := ⟨w.heap.size + 1, 0, none⟩) (by show w.heap.size ≤ w.heap.size + 1; omega) _
end Go.Proofs.Ytamcobncfbjdmaa
