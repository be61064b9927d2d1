/- parts of string. -/
import Derived.Test.YtamcobncfbjdmaaRSB
import Derived.Test.YtamcobncfbjdmaaRg
import Derived.Test.YtamcobncfbjdmaaRr
namespace Go.Proofs.Ytamcobncfbjdmaa
open Go.RowKit Go.Shelf Go.BigFrame
attribute [local go_sem] Oper.semAt_some

set_option maxRecDepth 100000 in
set_option maxHeartbeats 3200000 in
theorem ppartsS_any (a : Option Addr) (l : List ByteArray) (f t : Nat) (w : World) (hN : Nd encS w a (.leaf l)) (hl : l.length ≤ 16) (hf : 0 < f) (hft : f ≤ t) (ht : t ≤ 1000) :
    Calls Try.prog 70 #[.agg #[.pointer a], .int .i64 f, .int .i64 t] w (fun r w' => ∃ a1 a2 a3, r = .returned (.tuple #[.agg #[.pointer a1], .agg #[.pointer a2], .agg #[.pointer a3]]) ∧ Hid (Nd encS w' a1 (.leaf ((l.take t).take f))) ∧ Hid (On encS w' a2 (oD (l.take t) f)) ∧ Hid (On encS w' a3 (oD l t)) ∧ Hid (Below w.heap.size w w')) := by
  obtain ⟨W, hW⟩ : ∃ W, W = (((w.alloc (.cells #[.pointer a] 74)).alloc (.cells #[.pointer none] 74)).alloc (.cells #[.pointer none] 74)).alloc (.cells #[.pointer none] 74) := ⟨_, rfl⟩
  have hb : Below w.heap.size w W := by rw [hW]; exact ((((Below.refl _ _).alloc (Nat.le_refl _) _).alloc (by simp) _).alloc (by simp; omega) _).alloc (by simp; omega) _
  have hsz : W.heap.size = w.heap.size + 4 := by rw [hW]; simp
  have H4 := box4 w (.cells #[.pointer a] 74) (.cells #[.pointer none] 74) (.cells #[.pointer none] 74) (.cells #[.pointer none] 74)
  rw [← hW] at H4
  obtain ⟨h0, h1, h2, h3⟩ := H4
  have C1 := pSplitS_any a l t W (hN.later hb) hl (by omega)
  have C2 : Hid (∀ a' w', Nd encS w' a' (.leaf (l.take t)) → Calls Try.prog 43 #[.agg #[.pointer a'], .int .i64 f] w' (fun r w'' => ∃ a1 a2, r = .returned (.tuple #[.agg #[.pointer a1], .agg #[.pointer a2]]) ∧ Hid (Nd encS w'' a1 (.leaf ((l.take t).take f))) ∧ Hid (On encS w'' a2 (oD (l.take t) f)) ∧ Hid (Below w'.heap.size w' w''))) := Lib.hid fun a' w' h => pSplitS_any a' (l.take t) f w' h (by rw [List.length_take]; omega) hf
  rw [hW] at C1
  replace C1 := Lib.hid C1
  have HW := Lib.hid hW
  have m1 : max (f : Int) 0 = (f : Int) := by omega
  have m2 : max (f : Int) (t : Int) = (t : Int) := by omega
  have m3 : ¬ (f : Int) < 0 := by omega
  have m4 : (0 : Int) < (f : Int) := by omega
  have m5 : ¬ (t : Int) < (f : Int) := by omega
  have m6 : (f : Int) ≤ (t : Int) := by omega
  have hmx : Try.prog.follows .mixedOrders = true := by kernel_rfl
  clear hW hN hf
  refine (callsIn_wide (n := 5)).1 ?_
  refine callsIn_of_wp Try.func70 rfl trivial ?_ rfl
  simp only [Try.ntmps70, List.size_toArray, List.length_cons, List.length_nil, Nat.reduceAdd, Nat.reduceSub, Array.replicate_succ, Array.replicate_zero, List.push_toArray, List.append_toArray, List.nil_append, List.cons_append]
  have HH1 := Lib.hid h1
  have HH2 := Lib.hid h2
  have HH3 := Lib.hid h3
  clear h0 h1 h2 h3
  gi_wp2_with (first
    | (refine ⟨trivial, ?_⟩; gi_at_call 43; have hmark := HBW.out; refine (callsIn_wide.2 (C2.out _ _ HN1'.out)).mono ?_; rintro e' w2 ⟨a3, a4, rfl, HN3, HN4, HB2⟩; have q6 := (HB2.out.block (w.heap.size + 1) (by have := HS2.out; omega)).trans HQ6.out; have q7 := (HB2.out.block (w.heap.size + 1 + 1) (by have := HS2.out; omega)).trans HQ7.out; have q8 := (HB2.out.block (w.heap.size + 1 + 1 + 1) (by have := HS2.out; omega)).trans HQ8.out; have u6 := cell_of q6; have u7 := cell_of q7; have v6 := frozen_of q6; have v7 := frozen_of q7)
    | (refine ⟨trivial, ?_⟩; gi_at_call 43; refine (callsIn_wide.2 C1.out).mono ?_; rintro e' w1 ⟨a1, a2, rfl, HN1, HN2, HB1⟩; rw [← HW.out] at HB1; have hs1 := HB1.out.size; have b6 : Boxed w1 (w.heap.size + 1) 74 (.pointer none) := (HB1.out.block _ (by omega)).trans HH1.out; have b7 : Boxed w1 (w.heap.size + 1 + 1) 74 (.pointer none) := (HB1.out.block _ (by omega)).trans HH2.out; have b8 : Boxed w1 (w.heap.size + 1 + 1 + 1) 74 (.pointer none) := (HB1.out.block _ (by omega)).trans HH3.out; have c8 := (b8.alloc (.cells #[.pointer a1] 74)).cell; have f8 := (b8.alloc (.cells #[.pointer a1] 74)).frozen; have b10 := Boxed.new w1 74 (.pointer a1); have z10 := (b10.other (by omega) (B' := w.heap.size + 1 + 1 + 1) (.pointer a2)).cell; obtain ⟨X, hX⟩ : ∃ X, X = ((w1.alloc (.cells #[.pointer a1] 74)).setCell ⟨w.heap.size + 1 + 1 + 1, 0, none⟩ (.pointer a2)) := ⟨_, rfl⟩; have HQ6 : Hid (Boxed X (w.heap.size + 1) 74 (.pointer none)) := Lib.hid (by rw [hX]; exact (b6.alloc _).other (by omega) _); have HQ7 : Hid (Boxed X (w.heap.size + 1 + 1) 74 (.pointer none)) := Lib.hid (by rw [hX]; exact (b7.alloc _).other (by omega) _); have HQ8 : Hid (Boxed X (w.heap.size + 1 + 1 + 1) 74 (.pointer a2)) := Lib.hid (by rw [hX]; exact (b8.alloc _).set _); have HS2 : Hid (X.heap.size = w1.heap.size + 1 ∧ w.heap.size + 4 ≤ w1.heap.size) := Lib.hid ⟨by rw [hX]; simp, by omega⟩; have HN1' : Hid (Nd encS X a1 (.leaf (l.take t))) := Lib.hid (by rw [hX]; exact (HN1.out.later ((Below.refl _ w1).alloc (Nat.le_refl _) _)).box _ (b8.alloc _) hE); have HN2' : Hid (On encS X a2 (oD l t)) := Lib.hid (by rw [hX]; exact (HN2.out.later ((Below.refl _ w1).alloc (Nat.le_refl _) _)).box _ (b8.alloc _) hE); have HBW : Hid (Below w.heap.size w X) := Lib.hid (by rw [hX]; exact ((hb.trans (HB1.out.mono hb.size)).alloc (by omega) _).setCell (p := ⟨w.heap.size + 1 + 1 + 1, 0, none⟩) (by show w.heap.size ≤ w.heap.size + 1 + 1 + 1; omega) _); rw [hX] at HQ6 HQ7 HQ8 HN1' HN2' HBW HS2; clear hX b6 b7 b8 b10 HN1 HN2)
    | fail)
  have R6 : Boxed ((w2.setCell ⟨w.heap.size + 1, 0, none⟩ (.pointer a3)).setCell ⟨w.heap.size + 1 + 1, 0, none⟩ (.pointer a4)) (w.heap.size + 1) 74 (.pointer a3) := (Boxed.set (.pointer a3) q6).other (by omega) _
  have R7 : Boxed ((w2.setCell ⟨w.heap.size + 1, 0, none⟩ (.pointer a3)).setCell ⟨w.heap.size + 1 + 1, 0, none⟩ (.pointer a4)) (w.heap.size + 1 + 1) 74 (.pointer a4) := Boxed.set (.pointer a4) (Boxed.other q7 (by omega) _)
  have R8 : Boxed ((w2.setCell ⟨w.heap.size + 1, 0, none⟩ (.pointer a3)).setCell ⟨w.heap.size + 1 + 1, 0, none⟩ (.pointer a4)) (w.heap.size + 1 + 1 + 1) 74 (.pointer a2) := Boxed.other (Boxed.other q8 (by omega) _) (by omega) _
  have q7' : (w2.setCell ⟨w.heap.size + 1, 0, none⟩ (.pointer a3)).heap[w.heap.size + 1 + 1]? = some (.cells #[.pointer none] 74 (0, 0)) := Boxed.other q7 (by omega) _
  have HM3 := Lib.hid ((HN3.out.box (.pointer a3) q6 hE).box (.pointer a4) q7' hE)
  have HM4 := Lib.hid ((HN4.out.box (.pointer a3) q6 hE).box (.pointer a4) q7' hE)
  have HM2 := Lib.hid (((HN2'.out.later HB2.out).box (.pointer a3) q6 hE).box (.pointer a4) q7' hE)
  have HBZ := Lib.hid (((HBW.out.trans (HB2.out.mono HBW.out.size)).setCell (p := ⟨w.heap.size + 1, 0, none⟩) (by show w.heap.size ≤ w.heap.size + 1; omega) (.pointer a3)).setCell (p := ⟨w.heap.size + 1 + 1, 0, none⟩) (by show w.heap.size ≤ w.heap.size + 1 + 1; omega) (.pointer a4))
  obtain ⟨V, hV⟩ : ∃ V, V = ((w2.setCell ⟨w.heap.size + 1, 0, none⟩ (.pointer a3)).setCell ⟨w.heap.size + 1 + 1, 0, none⟩ (.pointer a4)) := ⟨_, rfl⟩
  rw [← hV] at R6 R7 R8 HM3 HM4 HM2 HBZ ⊢
  clear hV q6 q7 q8 q7' u6 u7 v6 v7 HN1' HN2' HBW HN3 HN4 HB2 HQ6 HQ7 HQ8 HS2 c8 f8 z10 HB1 hs1
  have z6 := R6.cell
  have z7 := R7.cell
  have z8 := R8.cell
  have y6 := R6.frozen
  have y7 := R7.frozen
  have y8 := R8.frozen
  gi_region_o
  have t6 := (((R6.set (.pointer a3)).other (by omega) (B' := w.heap.size + 1 + 1) (.pointer a4)).other (by omega) (B' := w.heap.size + 1 + 1 + 1) (.pointer a2)).cell
  have t7 := (((R7.other (by omega) (B' := w.heap.size + 1) (.pointer a3)).set (.pointer a4)).other (by omega) (B' := w.heap.size + 1 + 1 + 1) (.pointer a2)).cell
  have t8 := (((R8.other (by omega) (B' := w.heap.size + 1) (.pointer a3)).other (by omega) (B' := w.heap.size + 1 + 1) (.pointer a4)).set (.pointer a2)).cell
  have k7 : (V.setCell ⟨w.heap.size + 1, 0, none⟩ (.pointer a3)).heap[w.heap.size + 1 + 1]? = some (.cells #[.pointer a4] 74 (0, 0)) := R7.other (by omega) _
  have k8 : ((V.setCell ⟨w.heap.size + 1, 0, none⟩ (.pointer a3)).setCell ⟨w.heap.size + 1 + 1, 0, none⟩ (.pointer a4)).heap[w.heap.size + 1 + 1 + 1]? = some (.cells #[.pointer a2] 74 (0, 0)) := (R8.other (by omega) _).other (by omega) _
  have HF := Lib.hid ((((HBZ.out.setCell (p := ⟨w.heap.size + 1, 0, none⟩) (by show w.heap.size ≤ w.heap.size + 1; omega) (.pointer a3)).setCell (p := ⟨w.heap.size + 1 + 1, 0, none⟩) (by show w.heap.size ≤ w.heap.size + 1 + 1; omega) (.pointer a4)).setCell (p := ⟨w.heap.size + 1 + 1 + 1, 0, none⟩) (by show w.heap.size ≤ w.heap.size + 1 + 1 + 1; omega) (.pointer a2)).drew)
  have HG3 := Lib.hid (((HM3.out.box (.pointer a3) R6 hE).box (.pointer a4) k7 hE).box (.pointer a2) k8 hE)
  have HG4 := Lib.hid (((HM4.out.box (.pointer a3) R6 hE).box (.pointer a4) k7 hE).box (.pointer a2) k8 hE)
  have HG2 := Lib.hid (((HM2.out.box (.pointer a3) R6 hE).box (.pointer a4) k7 hE).box (.pointer a2) k8 hE)
  clear z6 z7 z8 y6 y7 y8 R6 R7 R8 k7 k8
  gi_wp2
  refine bodyPost_ret (v := .tuple #[.agg #[.pointer a3], .agg #[.pointer a4], .agg #[.pointer a2]]) (by simp [results, Try.f70, go_sem, t6, t7, t8]) rfl ?_
  exact ⟨a3, a4, a2, rfl, Lib.hid (HG3.out.later (Below.refl _ _).drew), Lib.hid (HG4.out.later (Below.refl _ _).drew), Lib.hid (HG2.out.later (Below.refl _ _).drew), HF⟩
end Go.Proofs.Ytamcobncfbjdmaa
