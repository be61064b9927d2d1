/- The law's alike: lists compared, and what lies in its boxes. -/
import Derived.Test.YtamcobncfbjdmaaRTe
import Derived.Test.YtamcobncfbjdmaaRO
import Derived.Stop.RegionWithIn
namespace Go.Proofs.Ytamcobncfbjdmaa
open Go.RowKit Go.Shelf Go.BigFrame
attribute [local go_sem] Oper.semAt_some

/-- what lies in the boxes of alike in its first walk: the rope, the list, the result, a count. -/
def Ga (w w1 : World) (p : Option Addr) (n c : Nat) (a : Option Addr) (N : Nat) (X : World) : Prop :=
  Boxed X w.heap.size 28 (.pointer a) ∧ Boxed X (w.heap.size + 1) 22 (.slice p n c) ∧ Boxed X (w.heap.size + 1 + 1) 4 (.bool false) ∧ Boxed X w1.heap.size 3 (.int .i64 N) ∧
    Below w.heap.size w X ∧ KpC w1.heap.size (w1.heap.size + 1) w1 X ∧ w1.heap.size + 1 ≤ X.heap.size
theorem Ga.grown {w w1 : World} {p a : Option Addr} {n c N : Nat} {X Y : World} {row : Option Nat} (h : Ga w w1 p n c a N X) (hw : w.heap.size + 3 ≤ w1.heap.size) (hg : X.grownBy Y row) (hr : ∀ r, row = some r → w1.heap.size + 1 ≤ r) : Ga w w1 p n c a N Y := by
  obtain ⟨h1, h2, h3, h4, h6, h7, h8⟩ := h
  exact ⟨h1.kept hg (fun e => by have := hr _ e.symm; omega), h2.kept hg (fun e => by have := hr _ e.symm; omega), h3.kept hg (fun e => by have := hr _ e.symm; omega), h4.kept hg (fun e => by have := hr _ e.symm; omega),
    h6.grown hg h6.size (fun k e => by have := hr _ e; omega), h7.frm hg (fun k e => by have := hr _ e; omega), Nat.le_trans h8 hg.size⟩
theorem Ga.below {w w1 : World} {p a : Option Addr} {n c N : Nat} {X Y : World} (h : Ga w w1 p n c a N X) (hw : w.heap.size + 3 ≤ w1.heap.size) (hb : Below X.heap.size X Y) : Ga w w1 p n c a N Y :=
  h.grown hw (row := none) ⟨hb.os, hb.tape, hb.output, hb.size, fun k hk _ => hb.block k hk⟩ (fun r e => by cases e)
theorem Ga.setN {w w1 : World} {p a : Option Addr} {n c N : Nat} {X : World} (N' : Nat) (h : Ga w w1 p n c a N X) (hw : w.heap.size + 3 ≤ w1.heap.size) : Ga w w1 p n c a N' (X.setCell ⟨w1.heap.size, 0, none⟩ (.int .i64 N')) := by
  obtain ⟨h1, h2, h3, h4, h6, h7, h8⟩ := h
  have hg := grownBy_setCell' X w1.heap.size (.int .i64 N')
  exact ⟨h1.other (by omega) _, h2.other (by omega) _, h3.other (by omega) _, h4.set _, h6.grown hg h6.size (fun k e => by cases e; omega), h7.trans (KpC.setOwn X _ (by omega) (by omega)), Nat.le_trans h8 hg.size⟩
/-- the same within the second walk, with its own count, which goes down. -/
def Gb (w w1 X0 : World) (p : Option Addr) (n c : Nat) (a : Option Addr) (D N : Nat) (X : World) : Prop :=
  Ga w w1 p n c a n X ∧ Boxed X X0.heap.size 3 (.int .i64 N) ∧ X.heap[D]? = some (.deferred (some [])) ∧ KpC X0.heap.size (X0.heap.size + 1) X0 X ∧ X0.heap.size + 1 ≤ X.heap.size
theorem Gb.grown {w w1 X0 : World} {p a : Option Addr} {n c D N : Nat} {X Y : World} {row : Option Nat} (h : Gb w w1 X0 p n c a D N X) (hw : w.heap.size + 3 ≤ w1.heap.size) (hx : w1.heap.size + 1 ≤ X0.heap.size) (hD : D < X0.heap.size) (hg : X.grownBy Y row) (hr : ∀ r, row = some r → X0.heap.size + 1 ≤ r) : Gb w w1 X0 p n c a D N Y := by
  obtain ⟨h1, h2, h3, h4, h5⟩ := h
  exact ⟨h1.grown hw hg (fun r e => by have := hr r e; omega), h2.kept hg (fun e => by have := hr _ e.symm; omega), (hg.block D (Array.getElem?_eq_some_iff.1 h3).1 (fun e => by have := hr _ e.symm; omega)).trans h3, h4.frm hg (fun k e => by have := hr _ e; omega), Nat.le_trans h5 hg.size⟩
theorem Gb.below {w w1 X0 : World} {p a : Option Addr} {n c D N : Nat} {X Y : World} (h : Gb w w1 X0 p n c a D N X) (hw : w.heap.size + 3 ≤ w1.heap.size) (hx : w1.heap.size + 1 ≤ X0.heap.size) (hD : D < X0.heap.size) (hb : Below X.heap.size X Y) : Gb w w1 X0 p n c a D N Y :=
  h.grown hw hx hD (row := none) ⟨hb.os, hb.tape, hb.output, hb.size, fun k hk _ => hb.block k hk⟩ (fun r e => by cases e)
theorem Gb.setN {w w1 X0 : World} {p a : Option Addr} {n c D N : Nat} {X : World} (N' : Nat) (h : Gb w w1 X0 p n c a D N X) (hw : w.heap.size + 3 ≤ w1.heap.size) (hx : w1.heap.size + 1 ≤ X0.heap.size) (hD : D < X0.heap.size) : Gb w w1 X0 p n c a D N' (X.setCell ⟨X0.heap.size, 0, none⟩ (.int .i64 N')) := by
  obtain ⟨h1, h2, h3, h4, h5⟩ := h
  have hg := grownBy_setCell' X X0.heap.size (.int .i64 N')
  exact ⟨h1.grown hw hg (fun r e => by cases e; omega), h2.set _, (hg.block D (Array.getElem?_eq_some_iff.1 h3).1 (fun e => by cases e; omega)).trans h3, h4.trans (KpC.setOwn X _ (by omega) (by omega)), Nat.le_trans h5 hg.size⟩
end Go.Proofs.Ytamcobncfbjdmaa

namespace Go.Proofs.Ytamcobncfbjdmaa
open Go.RowKit Go.Shelf Go.BigFrame
attribute [local go_sem] Oper.semAt_some

set_option maxRecDepth 100000 in
set_option maxHeartbeats 12800000 in
theorem alike_any (p : Option Addr) (c : Nat) (a : Option Addr) (l : List Int) (w : World) (hH : Holds w a l) (hl : l.length ≤ 100000) (hq : SqL w p l) : Calls Try.prog 15 #[.agg #[.pointer a], .slice p l.length c] w (fun r w' => r = .returned (.bool true) ∧ Hid (Below w.heap.size w w')) := by
  obtain ⟨o, hN, hL, hol⟩ := hH
  obtain ⟨n, hn⟩ : ∃ n, n = l.length := ⟨_, rfl⟩
  obtain ⟨W, hW⟩ : ∃ W, W = ((w.alloc (.cells #[.pointer a] 28)).alloc (.cells #[.slice p n c] 22)).alloc (.cells #[.bool false] 4) := ⟨_, rfl⟩
  have hb : Below w.heap.size w W := by rw [hW]; exact (((Below.refl _ _).alloc (Nat.le_refl _) _).alloc (by simp) _).alloc (by simp; omega) _
  have hsz : W.heap.size = w.heap.size + 3 := by rw [hW]; simp
  have H3 := box3 w (.cells #[.pointer a] 28) (.cells #[.slice p n c] 22) (.cells #[.bool false] 4)
  rw [← hW] at H3
  have HOn : Hid (∀ w', Below w.heap.size w w' → On encI w' a o) := Lib.hid fun w' h => hN.later h
  have CL : Hid (∀ w', Below w.heap.size w w' → Calls Try.prog 28 #[.agg #[.pointer a]] w' (fun e w'' => e = .returned (.int .i64 n) ∧ Hid (Below w'.heap.size w' w''))) := Lib.hid fun w' h => by
    have := pLenI_any a o w' (hN.later h)
    rwa [hol, ← hn] at this
  have CI : Hid (∀ w', Below w.heap.size w w' → Calls Try.prog 33 #[.agg #[.pointer a]] w' (fun r w'' => ∃ g c1, r = .returned (.slice (some ⟨g, 0, none⟩) n c1) ∧ Hid (∀ j x, l[j]? = some x → w''.cell? ⟨g, j, none⟩ = some (encI x)) ∧ g < w''.heap.size ∧ Hid (Below w'.heap.size w' w''))) := Lib.hid fun w' h => by
    have := pListI_any a l w' ⟨o, hN.later h, hL, hol⟩ (by omega)
    rwa [← hn] at this
  have CE : Hid (∀ g c1 w', Below w.heap.size w w' → (∀ j x, l[j]? = some x → w'.cell? ⟨g, j, none⟩ = some (encI x)) → Calls Try.prog 32 #[.slice (some ⟨g, 0, none⟩) n c1, .slice p n c] w' (fun e w'' => e = .returned (.bool true) ∧ Hid (Below w'.heap.size w' w''))) := Lib.hid fun g c1 w' h h1 => by
    have := eqSq_any g c1 p c l w' h1 (hq.later h) (by omega)
    rwa [← hn] at this
  have HRB : Hid (Boxed W w.heap.size 28 (.pointer a)) := Lib.hid H3.1
  have HLB : Hid (Boxed W (w.heap.size + 1) 22 (.slice p n c)) := Lib.hid H3.2.1
  have HTB : Hid (Boxed W (w.heap.size + 1 + 1) 4 (.bool false)) := Lib.hid H3.2.2
  have HN := Lib.hid hn
  have HQ := Lib.hid hq
  have HBW := Lib.hid hb
  have HSZ := Lib.hid hsz
  have HWW := Lib.hid hW
  have HOL := Lib.hid hol
  have HHL := Lib.hid hL
  have hnn : (0 : Int) ≤ (n : Int) := by omega
  rw [← hn] at hl ⊢
  clear hW H3 hq hn hb hsz hN hol hL
  have hmx : Try.prog.follows .mixedOrders = true := by kernel_rfl
  refine (callsIn_wide (n := 5)).1 ?_
  refine callsIn_of_wp_marks Try.func15 rfl trivial ?_ rfl
  simp only [Try.ntmps15, List.size_toArray, List.length_cons, List.length_nil, Nat.reduceAdd, Nat.reduceSub, Array.replicate_succ, Array.replicate_zero, List.push_toArray, List.append_toArray, List.nil_append, List.cons_append]
  gi_wp2
  rw [← HWW.out]
  rename_i K1 hK1 K2 hK2
  have x0 := cell_of HRB.out
  have y0 := cell_of HLB.out
  refine wpIn_mono (Q := fun e a' w' => match e with | .normal => ∃ g c1, a' = { tmps := #[.agg #[.pointer a], .slice p n c, .pointer (some ⟨w.heap.size, 0, none⟩), .pointer (some ⟨w.heap.size + 1, 0, none⟩), .pointer (some ⟨w.heap.size + 1 + 1, 0, none⟩), undef, undef, undef, undef, undef, undef, undef, undef, undef, undef, undef, .agg #[.pointer a], .int .i64 n, .slice p n c, .int .i64 n, .bool false, .bool false, .agg #[.pointer a], .slice (some ⟨g, 0, none⟩) n c1, .slice p n c, .bool true, .bool false, .bool false, undef, undef, undef, undef, undef, undef, undef, undef, undef, undef, undef, undef, undef, undef, undef, undef, undef, undef, undef, undef, undef, undef, undef, undef, undef, undef, undef, undef, undef, undef, undef, undef, undef, undef, undef, undef, undef, undef, undef, undef, undef, undef, undef, undef, undef, undef, undef, undef, undef, undef, undef, undef, undef, undef, undef, undef, undef, undef, undef, undef, undef, undef, undef, undef, undef, undef, undef, undef, undef, undef, undef, undef, undef, undef, undef, undef, undef, undef, undef, undef, undef, undef, undef, undef, undef, undef, undef, undef, undef, undef, undef, undef, undef, undef, undef, undef, undef, undef, undef, undef, undef, undef, undef, undef, undef, undef, undef], defers := [] } ∧ Hid (Below W.heap.size W w') | _ => False) ?_ ?_
  · clear hK1 hK2 HOn HN HQ
    gi_region_with (first
      | (refine ⟨trivial, ?_⟩; gi_at_call 32; refine (callsIn_wide.2 (CE.out _ _ _ (by first | exact HBE.out.drew | exact HBE.out) HX2.out)).mono ?_; rintro e' w3 ⟨rfl, HB3⟩; have HBX := Lib.hid (HB2.out.trans (HB3.out.mono HB2.out.size)))
      | (refine ⟨trivial, ?_⟩; gi_at_call 33; refine (callsIn_wide.2 (CI.out _ HBL.out)).mono ?_; rintro e' w2 ⟨g, c1, rfl, HX2, hg2, HB2⟩; have HBE := Lib.hid (HBL.out.trans (HB2.out.mono HBL.out.size)); have x2 := boxed_cell HR1.out HB2.out; have y2 := boxed_cell HL1.out HB2.out)
      | (refine ⟨trivial, ?_⟩; gi_at_call 28; refine (callsIn_wide.2 (CL.out _ (by first | exact HBW.out.drew | exact HBW.out))).mono ?_; rintro e' w1 ⟨rfl, HB1'⟩; have HB1 : Hid (Below W.heap.size W w1) := Lib.hid (by first | exact HB1'.out | exact ((Below.refl _ W).drew).trans HB1'.out); clear HB1'; have HBL := Lib.hid (HBW.out.trans (HB1.out.mono HBW.out.size)); have HR1 : Hid (Boxed w1 w.heap.size 28 (.pointer a)) := Lib.hid ((HB1.out.block _ HRB.out.lt).trans HRB.out); have HL1 : Hid (Boxed w1 (w.heap.size + 1) 22 (.slice p n c)) := Lib.hid ((HB1.out.block _ HLB.out.lt).trans HLB.out); have x1 := HR1.out.cell; have y1 := HL1.out.cell)
      | fail)
    all_goals exact ⟨_, _, rfl, Lib.hid (HB1.out.trans (HBX.out.mono HB1.out.size))⟩
  intro e a' w3 h
  cases e with
  | normal => ?_
  | _ => exact h.elim
  obtain ⟨g, c1, rfl, HB3⟩ := h
  refine hK2 _ _ ?_
  clear hK2 x0 y0 hmx CL CI CE

  have HB3w := Lib.hid (HBW.out.trans (HB3.out.mono HBW.out.size))
  have R3 : Hid (Boxed w3 w.heap.size 28 (.pointer a)) := Lib.hid ((HB3.out.block _ HRB.out.lt).trans HRB.out)
  have L3 : Hid (Boxed w3 (w.heap.size + 1) 22 (.slice p n c)) := Lib.hid ((HB3.out.block _ HLB.out.lt).trans HLB.out)
  have T3 : Hid (Boxed w3 (w.heap.size + 1 + 1) 4 (.bool false)) := Lib.hid ((HB3.out.block _ HTB.out.lt).trans HTB.out)
  have x5 := (R3.out.alloc (.cells #[.int .i64 0] 3)).cell
  gi_wp2_with (first
    | (refine ⟨trivial, ?_⟩; gi_at_call 21; refine (callsIn_wide.2 (pover_any _ _ _ _)).mono ?_; rintro e' w5 ⟨rfl, hw5⟩; obtain rfl := hw5.symm)
    | (refine ⟨trivial, ?_⟩; gi_at_call 22; refine (callsIn_wide.2 (pAllI_any _ _)).mono ?_; rintro e' w4 ⟨rfl, rfl⟩)
    | fail)
  rename_i K3 hK3
  clear hw5 x5
  have hw3 : w.heap.size + 3 ≤ w3.heap.size := by have := HB3.out.size; have := HSZ.out; omega
  obtain ⟨V, hV⟩ : ∃ V, V = (w3.alloc (.cells #[.int .i64 0] 3)).alloc (.cells #[.pointer a] 28) := ⟨_, rfl⟩
  have hbV : Below w3.heap.size w3 V := by rw [hV]; exact ((Below.refl _ _).alloc (Nat.le_refl _) _).alloc (by simp) _
  have sV : V.heap.size = w3.heap.size + 2 := by rw [hV]; simp
  have KX := box2 w3 (.cells #[.int .i64 0] 3) (.cells #[.pointer a] 28)
  rw [← hV] at KX ⊢
  obtain ⟨k5, k7⟩ := KX
  have GA0 : Ga w w3 p n c a 0 V := ⟨(hbV.block _ R3.out.lt).trans R3.out, (hbV.block _ L3.out.lt).trans L3.out, (hbV.block _ T3.out.lt).trans T3.out, k5, HB3w.out.trans (hbV.mono HB3w.out.size), KpC.of_below hbV, by omega⟩
  have SO := all1I_seq 4 w3.heap.size (w3.heap.size + 1) (w3.heap.size + 1) a o w3 V (Nat.le_refl _) (by omega) (HOn.out w3 HB3w.out) HHL.out (by rw [HOL.out, ← HN.out]; omega) (KpC.of_below hbV) (by omega) (cell_of k7)
  rw [HOL.out] at SO
  have HTree := Lib.hid (HOn.out w3 HB3w.out)
  clear hV hbV k5 k7 HB3 R3 L3 T3
  have REST1 : Hid (∀ (D : Nat) (X : World), V.heap.size ≤ D → Ga w w3 p n c a n X → X.heap[D]? = some (.deferred (some [])) →
      K3 { tmps := #[.agg #[.pointer a], .slice p n c, .pointer (some ⟨w.heap.size, 0, none⟩), .pointer (some ⟨w.heap.size + 1, 0, none⟩), .pointer (some ⟨w.heap.size + 1 + 1, 0, none⟩), .pointer (some ⟨w3.heap.size, 0, none⟩), undef, undef, undef, undef, undef, undef, undef, undef, undef, undef, .agg #[.pointer a], .int .i64 n, .slice p n c, .int .i64 n, .bool false, .bool false, .agg #[.pointer a], .slice (some ⟨g, 0, none⟩) n c1, .slice p n c, .bool true, .bool false, .bool false, .agg #[.pointer a], .func (.func 55) #[] #[.pointer (some ⟨w3.heap.size + 1, 0, none⟩)], .func (.func 55) #[] #[.pointer (some ⟨w3.heap.size + 1, 0, none⟩)], undef, undef, undef, undef, undef, undef, undef, undef, undef, undef, undef, undef, undef, undef, undef, undef, undef, undef, undef, undef, undef, undef, undef, undef, undef, undef, undef, undef, undef, undef, undef, undef, undef, undef, undef, undef, undef, undef, undef, undef, undef, undef, undef, undef, undef, undef, undef, undef, undef, undef, undef, undef, undef, undef, undef, undef, undef, undef, undef, undef, undef, undef, undef, undef, undef, undef, undef, undef, undef, undef, undef, undef, undef, undef, undef, undef, undef, undef, undef, undef, undef, undef, undef, undef, undef, undef, undef, undef, undef, undef, undef, undef, undef, undef, undef, undef, undef, undef, undef, undef, undef, undef, undef, undef], defers := [{ target := .collected D, args := #[] }] } X) := Lib.hid (by
    intro D X hD hF hK
    have hXD : D < X.heap.size := (Array.getElem?_eq_some_iff.1 hK).1
    refine hK3 _ _ ?_
    clear hK3 SO GA0
    have hx2 : w3.heap.size + 1 ≤ X.heap.size := hF.2.2.2.2.2.2
    have x5 := (Boxed.alloc hF.1 (.cells #[.int .i64 n] 3)).cell
    have y5 := hF.2.1.cell
    have HF := Lib.hid hF
    have HKD := Lib.hid hK
    clear hF hK
    gi_wp2_with (first
      | (refine ⟨trivial, ?_⟩; gi_at_call 21; refine (callsIn_wide.2 (pover_any _ _ _ _)).mono ?_; rintro e' w3 ⟨rfl, hw9⟩; obtain rfl := hw9.symm)
      | (refine ⟨trivial, ?_⟩; gi_at_call 23; refine (callsIn_wide.2 (pBack_any _ _)).mono ?_; rintro e' w2 ⟨rfl, rfl⟩)
      | fail)
    rename_i K4 hK4
    clear hw9 x5 y5
    obtain ⟨V2, hV2⟩ : ∃ V2, V2 = (X.alloc (.cells #[.int .i64 n] 3)).alloc (.cells #[.pointer a] 28) := ⟨_, rfl⟩
    have hbV2 : Below X.heap.size X V2 := by rw [hV2]; exact ((Below.refl _ _).alloc (Nat.le_refl _) _).alloc (by simp) _
    have sV2 : V2.heap.size = X.heap.size + 2 := by rw [hV2]; simp
    have KY := box2 X (.cells #[.int .i64 n] 3) (.cells #[.pointer a] 28)
    rw [← hV2] at KY ⊢
    have GB0 : Gb w w3 X p n c a D n V2 := ⟨HF.out.below hw3 hbV2, KY.1, (hbV2.block D hXD).trans HKD.out, KpC.of_below hbV2, by omega⟩
    have SO2 := back1_seq 4 X.heap.size (X.heap.size + 1) (X.heap.size + 1) (by omega) a o X V2 (Nat.le_refl _) (by omega) (HTree.out.kp HF.out.2.2.2.2.2.1 (Nat.le_refl _)) HHL.out (by rw [HOL.out, ← HN.out]; omega) (KpC.of_below hbV2) (by omega) (cell_of KY.2)
    rw [HOL.out] at SO2
    clear hV2 hbV2 KY
    have REST2 : Hid (∀ (D2 : Nat) (Y : World), V2.heap.size ≤ D2 → Gb w w3 X p n c a D 0 Y → Y.heap[D2]? = some (.deferred (some [])) →
        K4 { tmps := #[.agg #[.pointer a], .slice p n c, .pointer (some ⟨w.heap.size, 0, none⟩), .pointer (some ⟨w.heap.size + 1, 0, none⟩), .pointer (some ⟨w.heap.size + 1 + 1, 0, none⟩), .pointer (some ⟨w3.heap.size, 0, none⟩), undef, undef, .pointer (some ⟨X.heap.size, 0, none⟩), undef, undef, undef, undef, undef, undef, undef, .agg #[.pointer a], .int .i64 n, .slice p n c, .int .i64 n, .bool false, .bool false, .agg #[.pointer a], .slice (some ⟨g, 0, none⟩) n c1, .slice p n c, .bool true, .bool false, .bool false, .agg #[.pointer a], .func (.func 55) #[] #[.pointer (some ⟨w3.heap.size + 1, 0, none⟩)], .func (.func 55) #[] #[.pointer (some ⟨w3.heap.size + 1, 0, none⟩)], undef, undef, undef, undef, undef, undef, undef, undef, undef, undef, undef, undef, undef, undef, undef, undef, undef, undef, undef, undef, undef, .slice p n c, .int .i64 n, .agg #[.pointer a], .func (.func 57) #[] #[.pointer (some ⟨X.heap.size + 1, 0, none⟩)], .func (.func 57) #[] #[.pointer (some ⟨X.heap.size + 1, 0, none⟩)], undef, undef, undef, undef, undef, undef, undef, undef, undef, undef, undef, undef, undef, undef, undef, undef, undef, undef, undef, undef, undef, undef, undef, undef, undef, undef, undef, undef, undef, undef, undef, undef, undef, undef, undef, undef, undef, undef, undef, undef, undef, undef, undef, undef, undef, undef, undef, undef, undef, undef, undef, undef, undef, undef, undef, undef, undef, undef, undef, undef, undef, undef, undef, undef, undef, undef, undef, undef, undef, undef, undef, undef, undef, undef, undef, undef, undef, undef], defers := [{ target := .collected D2, args := #[] }, { target := .collected D, args := #[] }] } Y) := Lib.hid (by
      intro D2 Y hD2 hF hK
      refine hK4 _ _ ?_
      clear hK4 SO2 GB0
      have y3 := hF.1.2.1.cell
      have HF3 := Lib.hid hF
      have HK2 := Lib.hid hK
      clear hF hK
      have HFIN : Hid (∀ w7 : World, Below Y.heap.size Y w7 → (w7.setCell ⟨w.heap.size + 1 + 1, 0, none⟩ (.bool true)).heap[D2]? = some (.deferred (some [])) ∧ ((w7.setCell ⟨w.heap.size + 1 + 1, 0, none⟩ (.bool true)).putObj D2 (.deferred none)).heap[D]? = some (.deferred (some [])) ∧
          (((w7.setCell ⟨w.heap.size + 1 + 1, 0, none⟩ (.bool true)).putObj D2 (.deferred none)).putObj D (.deferred none)).cell? ⟨w.heap.size + 1 + 1, 0, none⟩ = some (.bool true) ∧ Below w.heap.size w (((w7.setCell ⟨w.heap.size + 1 + 1, 0, none⟩ (.bool true)).putObj D2 (.deferred none)).putObj D (.deferred none))) := Lib.hid fun w7 hb7 => by
        have g := grownBy_setCell' w7 (w.heap.size + 1 + 1) (.bool true)
        have k2 := (hb7.block D2 (Array.getElem?_eq_some_iff.1 HK2.out).1).trans HK2.out
        have k1 := (hb7.block D (Array.getElem?_eq_some_iff.1 HF3.out.2.2.1).1).trans HF3.out.2.2.1
        have b4 : Boxed w7 (w.heap.size + 1 + 1) 4 (.bool false) := (hb7.block _ HF3.out.1.2.2.1.lt).trans HF3.out.1.2.2.1
        have hbw := HF3.out.1.2.2.2.2.1
        have hww := hbw.trans (hb7.mono hbw.size)
        have k2' := (g.block D2 (Array.getElem?_eq_some_iff.1 k2).1 (fun e => by cases e; omega)).trans k2
        have k1' := (g.block D (Array.getElem?_eq_some_iff.1 k1).1 (fun e => by cases e; omega)).trans k1
        have hz1 := hww.grown g hww.size (fun k e => by cases e; omega)
        have hz2 := hz1.grown (grownBy_putObj' (w7.setCell ⟨w.heap.size + 1 + 1, 0, none⟩ (.bool true)) D2 (.deferred none)) hz1.size (fun k e => by cases e; omega)
        refine ⟨k2', (World.putObj_heap_other (by omega)).trans k1', ?_, hz2.grown (grownBy_putObj' _ D (.deferred none)) hz2.size (fun k e => by cases e; omega)⟩
        exact (((b4.set (.bool true)).kept (grownBy_putObj' _ D2 (.deferred none)) (fun e => by cases e; omega)).kept (grownBy_putObj' _ D (.deferred none)) (fun e => by cases e; omega)).cell
      have HHo : Hid (Holds Y a l) := Lib.hid ⟨o, On.kp HF3.out.1.2.2.2.2.2.1 (Nat.le_refl _) HTree.out, HHL.out, HOL.out⟩
      gi_wp2
      obtain ⟨Y5, hY5⟩ : ∃ Y5, Y5 = Y.alloc (.cells #[.int .i64 (-1), .int .i64 0, .int .i64 ((n : Int) / 2), .int .i64 ((n : Int) - 1), .int .i64 n] 3) := ⟨_, rfl⟩
      have hb5 : Below Y.heap.size Y Y5 := by rw [hY5]; exact (Below.refl _ _).alloc (Nat.le_refl _) _
      have h5s : Y.heap.size < Y5.heap.size := by rw [hY5]; simp
      have HV : Hid (∀ j, j < 5 → ∃ v : Int, Y5.cell? ⟨Y.heap.size, j, none⟩ = some (.int .i64 v)) := Lib.hid fun j hj => by
        have := heap_alloc_new Y (.cells #[.int .i64 (-1), .int .i64 0, .int .i64 ((n : Int) / 2), .int .i64 ((n : Int) - 1), .int .i64 n] 3)
        rw [← hY5] at this
        simp only [World.cell?, this]
        match j, hj with
        | 0, _ => exact ⟨_, rfl⟩
        | 1, _ => exact ⟨_, rfl⟩
        | 2, _ => exact ⟨_, rfl⟩
        | 3, _ => exact ⟨_, rfl⟩
        | 4, _ => exact ⟨_, rfl⟩
      rw [← hY5]
      have HB5 := Lib.hid hb5
      have H5S := Lib.hid h5s
      have HY5 := Lib.hid hY5
      clear hY5 hb5 h5s y3
      have HAT : Hid (∀ (j : Nat) (y : Int) (W' : World), l[j]? = some y → Below Y.heap.size Y W' → Calls Try.prog 24 #[.agg #[.pointer a], .int .i64 j] W' (fun e w' => e = .returned (.tuple #[.int .i64 y, .bool true]) ∧ Hid (Below W'.heap.size W' w'))) := Lib.hid fun j y W' hy hb' => pAtIn_any a l j y W' (HHo.out.later hb') (by rw [← HN.out]; omega) hy
      have HAO : Hid (∀ (v : Int) (W' : World), (v < 0 ∨ (n : Int) ≤ v) → Below Y.heap.size Y W' → Calls Try.prog 24 #[.agg #[.pointer a], .int .i64 v] W' (fun e w' => e = .returned (.tuple #[.int .i64 0, .bool false]) ∧ Hid (Below W'.heap.size W' w'))) := Lib.hid fun v W' hv hb' => pAtOut_any a l v W' (HHo.out.later hb') (by rw [← HN.out]; exact hv)
      gi_loopw [86] (fun i wr => ∃ j : Nat, i = .int .i64 j ∧ j ≤ 5 ∧ Hid (Below Y5.heap.size Y5 wr)) (fun i _ => 5 - (intOf i).toNat)
      case atStart => exact ⟨0, rfl, by omega, Lib.hid (Below.refl _ _)⟩
      case round =>
        obtain ⟨j, rfl, hj5, hbr⟩ := hrel
        have HBR := Lib.hid (HB5.out.trans (hbr.out.mono HB5.out.size))
        have d2 := boxed_cell HF3.out.1.1 HBR.out
        have d3 := boxed_cell HF3.out.1.2.1 HBR.out
        by_cases hj : j < 5
        · obtain ⟨v, hv⟩ := HV.out j hj
          have cv := (hbr.out.cell (p := ⟨Y.heap.size, j, none⟩) H5S.out).trans hv
          have hwj : IntKind.i64.wrap ((j : Int) + 1) = (j : Int) + 1 := IntWalk.i64_in _ (by omega)
          have hji : (j : Int) < 5 := by omega
          have hj0 : (0 : Int) ≤ (j : Int) := by omega
          clear hv
          by_cases hin : 0 ≤ v ∧ v < (n : Int)
          · obtain ⟨h0, h1⟩ := hin
            obtain ⟨i, rfl⟩ := Int.eq_ofNat_of_zero_le h0
            obtain ⟨y, hy⟩ : ∃ y, l[i]? = some y := ⟨_, List.getElem?_eq_getElem (by rw [← HN.out]; omega)⟩
            have C := Lib.hid (HAT.out i y wr hy HBR.out)
            obtain ⟨b, o1, hp, hbw, hcw⟩ := HQ.out i y hy
            have hBwY := HF3.out.1.2.2.2.2.1
            have cy := Lib.hid (((hBwY.trans (HBR.out.mono hBwY.size)).cell (p := ⟨b, o1 + i, none⟩) hbw).trans hcw)
            have HLT : Hid (w.heap.size + 1 < wr.heap.size ∧ b < wr.heap.size) := Lib.hid (by have := hBwY.size; have := HBR.out.size; have := HF3.out.1.2.1.lt; omega)
            clear hy hbw hcw hBwY
            subst hp
            gi_wp2_with (first
              | (refine ⟨trivial, ?_⟩; gi_at_call 24; refine (callsIn_wide.2 C.out).mono ?_; rintro e' w6 ⟨rfl, hb6⟩; have e2 := (hb6.out.cell (p := ⟨w.heap.size + 1, 0, none⟩) HLT.out.1).trans d3; have ey := (hb6.out.cell (p := ⟨b, o1 + i, none⟩) HLT.out.2).trans cy.out)
              | fail)
            go_roundw
            case rel => exact ⟨j + 1, by go_num, by omega, Lib.hid (hbr.out.trans (hb6.out.mono hbr.out.size))⟩
            case measure => simp [intOf]; omega
          · have hout : v < 0 ∨ (n : Int) ≤ v := by omega
            have C := Lib.hid (HAO.out v wr hout HBR.out)
            have HLT : Hid (w.heap.size + 1 < wr.heap.size) := Lib.hid (by have := HF3.out.1.2.2.2.2.1.size; have := HBR.out.size; have := HF3.out.1.2.1.lt; omega)
            clear hin
            by_cases hv0 : v < 0
            · have hv1 : ¬ (0 : Int) ≤ v := by omega
              clear hout
              gi_wp2_with (first
                | (refine ⟨trivial, ?_⟩; gi_at_call 24; refine (callsIn_wide.2 C.out).mono ?_; rintro e' w6 ⟨rfl, hb6⟩; have e2 := (hb6.out.cell (p := ⟨w.heap.size + 1, 0, none⟩) HLT.out).trans d3)
                | fail)
              go_roundw
              case rel => exact ⟨j + 1, by go_num, by omega, Lib.hid (hbr.out.trans (hb6.out.mono hbr.out.size))⟩
              case measure => simp [intOf]; omega
            · have hv1 : (0 : Int) ≤ v := by omega
              have hv2 : ¬ v < (n : Int) := by omega
              clear hout
              gi_wp2_with (first
                | (refine ⟨trivial, ?_⟩; gi_at_call 24; refine (callsIn_wide.2 C.out).mono ?_; rintro e' w6 ⟨rfl, hb6⟩; have e2 := (hb6.out.cell (p := ⟨w.heap.size + 1, 0, none⟩) HLT.out).trans d3)
                | fail)
              go_roundw
              case rel => exact ⟨j + 1, by go_num, by omega, Lib.hid (hbr.out.trans (hb6.out.mono hbr.out.size))⟩
              case measure => simp [intOf]; omega
        · obtain rfl : j = 5 := by omega
          have d5 := boxed_cell HF3.out.1.2.2.2.1 HBR.out
          have d8 := boxed_cell HF3.out.2.1 HBR.out
          have b4 : Boxed wr (w.heap.size + 1 + 1) 4 (.bool false) := (HBR.out.block _ HF3.out.1.2.2.1.lt).trans HF3.out.1.2.2.1
          have f4 := b4.frozen
          have z4 := b4.cell
          have HB4 := Lib.hid b4
          clear b4 HAT HAO HV d2
          gi_wp2
          have HZ := HFIN.out wr HBR.out
          have hc5 := HZ.2.2.1
          refine ⟨by simp, .inl ⟨_, _, rfl, run_takeDeferred HZ.1, ⟨by simp, .inl ⟨_, _, rfl, run_takeDeferred HZ.2.1, ?_⟩⟩⟩⟩
          exact ⟨.bool true, by simp [results, Try.f15, go_sem, hc5], rfl, Lib.hid HZ.2.2.2⟩)
    clear hK4
    refine range_own (n := 5) rfl rfl (by omega) (gf := 57) (lb := #[.pointer (some ⟨X.heap.size + 1, 0, none⟩)]) rfl trivial (enters_of Try.func57 (by kernel_rfl) rfl) SO2 (fun _ => rfl)
      (fun q Y => Gb w w3 X p n c a D (n - q.length) Y)
      (fun cd q Y => cd = .ret ∧ ¬ (q <+: l.zipIdx.reverse))
      (fun q A C row hs hg hr => hs.grown hw3 hx2 hXD hg (fun r e => by have := hr r e; omega))
      (fun cd q A C row hs hg hr => hs)
      (by show Gb w w3 X p n c a D (n - 0) V2; rw [Nat.sub_zero]; exact GB0)
      (fun x => { tmps := #[.agg #[.pointer a], .slice p n c, .pointer (some ⟨w.heap.size, 0, none⟩), .pointer (some ⟨w.heap.size + 1, 0, none⟩), .pointer (some ⟨w.heap.size + 1 + 1, 0, none⟩), .pointer (some ⟨w3.heap.size, 0, none⟩), undef, undef, .pointer (some ⟨X.heap.size, 0, none⟩), .int .i64 x.2, encI x.1, undef, undef, undef, undef, undef, .agg #[.pointer a], .int .i64 n, .slice p n c, .int .i64 n, .bool false, .bool false, .agg #[.pointer a], .slice (some ⟨g, 0, none⟩) n c1, .slice p n c, .bool true, .bool false, .bool false, .agg #[.pointer a], .func (.func 55) #[] #[.pointer (some ⟨w3.heap.size + 1, 0, none⟩)], .func (.func 55) #[] #[.pointer (some ⟨w3.heap.size + 1, 0, none⟩)], undef, undef, undef, undef, undef, undef, undef, undef, undef, undef, undef, undef, undef, undef, undef, undef, undef, undef, undef, undef, undef, .slice p n c, .int .i64 n, .agg #[.pointer a], .func (.func 57) #[] #[.pointer (some ⟨X.heap.size + 1, 0, none⟩)], .func (.func 57) #[] #[.pointer (some ⟨X.heap.size + 1, 0, none⟩)], .int .i64 x.2, encI x.1, undef, undef, undef, undef, undef, undef, undef, undef, undef, undef, undef, undef, undef, undef, undef, undef, undef, undef, undef, undef, undef, undef, undef, undef, undef, undef, undef, undef, undef, undef, undef, undef, undef, undef, undef, undef, undef, undef, undef, undef, undef, undef, undef, undef, undef, undef, undef, undef, undef, undef, undef, undef, undef, undef, undef, undef, undef, undef, undef, undef, undef, undef, undef, undef, undef, undef, undef, undef, undef, undef, undef, undef, undef, undef, undef, undef], defers := [] })
      ?assign2 ?body2 ?done2 ?stop2
    case assign2 =>
      intro l' m' x X K hK
      dsimp only
      gi_wp2
      exact hK
    case body2 =>
      rintro l' m' q ⟨x, i⟩ Y hF hlt
      have hlt' : q.length < l.length := hlt
      obtain ⟨y, hy⟩ : ∃ y, l[l.length - 1 - q.length]? = some y := ⟨_, List.getElem?_eq_getElem (by omega)⟩
      have HF2 : Hid (Gb w w3 X p n c a D (n - q.length) Y) := Lib.hid hF
      obtain ⟨⟨hB2, hB3, hB4, hB5, hBw, hKX, hSX⟩, hB9, hDD, hKY, hSY⟩ := hF
      obtain ⟨b, o1, hp, hbw, hcw⟩ := HQ.out _ y hy
      have cy := (hBw.cell (p := ⟨b, o1 + (l.length - 1 - q.length), none⟩) hbw).trans hcw
      have d3 := hB3.cell
      have f4 := hB4.frozen
      have d4 := hB4.cell
      have d9 := hB9.cell
      have f9 := hB9.frozen
      have hLq : Hid (∀ z, q ++ [z] <+: l.zipIdx.reverse → z = (y, l.length - 1 - q.length)) := Lib.hid fun z hz => by
        obtain ⟨r, hr⟩ := hz
        have h1 : l.zipIdx.reverse[q.length]? = some z := by rw [← hr]; simp
        rw [List.getElem?_reverse (by simpa using hlt'), List.getElem?_zipIdx, List.length_zipIdx, hy] at h1
        simpa using h1.symm
      have HQL : Hid ((q ++ [(x, i)]).length = q.length + 1) := Lib.hid (by simp)
      obtain ⟨k, hk⟩ : ∃ k, k = q.length := ⟨_, rfl⟩
      have hkn : k < n := by rw [hk, HN.out]; exact hlt'
      obtain ⟨j, hj⟩ : ∃ j, j = n - 1 - k := ⟨_, rfl⟩
      have hjj : l.length - 1 - q.length = j := by rw [hj, HN.out, hk]
      rw [hjj] at cy hLq
      rw [← hk] at d9 HF2 HQL
      have hjk : n - k = j + 1 := by omega
      rw [hjk] at d9 HF2
      have HJ : Hid (n - (k + 1) = j) := Lib.hid (by omega)
      have hj0 : (0 : Int) ≤ (j : Int) := by omega
      have hjn2 : (j : Int) < (n : Int) := by omega
      have hw1 : IntKind.i64.wrap (((j + 1 : Nat) : Int) - 1) = (j : Int) := by rw [show ((j + 1 : Nat) : Int) - 1 = (j : Int) by omega]; exact IntWalk.i64_in _ (by omega)
      have hbx : b ≠ X.heap.size := by omega
      have HCY : Hid ((Y.setCell ⟨X.heap.size, 0, none⟩ (.int .i64 (j : Int))).cell? ⟨b, o1 + j, none⟩ = some (.int .i64 y)) := Lib.hid ((grownBy_setCell' Y X.heap.size (.int .i64 (j : Int))).cell cy (fun e => hbx (by first | exact Option.some.inj e | exact (Option.some.inj e).symm)))
      clear hB2 hB3 hB4 hB5 hBw hKX hB9 hDD hKY hy hlt hlt' hcw hbw hk hj hjj hjk
      subst hp
      have g9 := grownBy_setCell' Y X.heap.size (.int .i64 ((j : Nat) : Int))
      have HG9 : Hid (KeepsFrom (X.heap.size + 2) Y (Y.setCell ⟨X.heap.size, 0, none⟩ (.int .i64 (j : Int))) ∧ KpC X.heap.size (X.heap.size + 1) Y (Y.setCell ⟨X.heap.size, 0, none⟩ (.int .i64 (j : Int))) ∧ Gb w w3 X (some ⟨b, o1, none⟩) n c a D j (Y.setCell ⟨X.heap.size, 0, none⟩ (.int .i64 (j : Int)))) := Lib.hid ⟨KeepsFrom.of_grownBy g9 (fun j e => by cases e; omega), KpC.setOwn Y _ (by omega) (by omega), HF2.out.setN j hw3 hx2 hXD⟩
      have e9 : (Y.setCell ⟨X.heap.size, 0, none⟩ (.int .i64 (j : Int))).cell? ⟨w.heap.size + 1, 0, none⟩ = some (.slice (some ⟨b, o1, none⟩) n c) := HG9.out.2.2.1.2.1.cell
      have e8 : (Y.setCell ⟨X.heap.size, 0, none⟩ (.int .i64 (j : Int))).cell? ⟨X.heap.size, 0, none⟩ = some (.int .i64 j) := HG9.out.2.2.2.1.cell
      clear g9
      have hw2 : IntKind.i64.wrap ((j : Int) + 1 - 1) = (j : Int) := by rw [show (j : Int) + 1 - 1 = (j : Int) by omega]; exact IntWalk.i64_in _ (by omega)
      have g4 := grownBy_setCell' (Y.setCell ⟨X.heap.size, 0, none⟩ (.int .i64 (j : Int))) (w.heap.size + 1 + 1) (.bool false)
      have HG4 : Hid (KeepsFrom (X.heap.size + 2) Y ((Y.setCell ⟨X.heap.size, 0, none⟩ (.int .i64 (j : Int))).setCell ⟨w.heap.size + 1 + 1, 0, none⟩ (.bool false)) ∧ KpC 0 (X.heap.size + 1) Y ((Y.setCell ⟨X.heap.size, 0, none⟩ (.int .i64 (j : Int))).setCell ⟨w.heap.size + 1 + 1, 0, none⟩ (.bool false))) := Lib.hid ⟨HG9.out.1.trans (KeepsFrom.of_grownBy g4 (fun j e => by cases e; omega)), HG9.out.2.1.zero.trans (KpC.setOwn _ _ (Nat.zero_le _) (by omega))⟩
      have f7 : (Y.setCell ⟨X.heap.size, 0, none⟩ (.int .i64 (j : Int))).frozen? ⟨w.heap.size + 1 + 1, 0, none⟩ = false := HG9.out.2.2.1.2.2.1.frozen
      have e7 : (Y.setCell ⟨X.heap.size, 0, none⟩ (.int .i64 (j : Int))).cell? ⟨w.heap.size + 1 + 1, 0, none⟩ = some (.bool false) := HG9.out.2.2.1.2.2.1.cell
      have ey : (Y.setCell ⟨X.heap.size, 0, none⟩ (.int .i64 (j : Int))).cell? ⟨b, o1 + j, none⟩ = some (.int .i64 y) := HCY.out
      clear g4 cy d4 f4
      by_cases hi : i = j
      · subst hi
        by_cases hxy : x = y
        · subst hxy
          dsimp only
          gi_wp2
          refine ⟨HG9.out.1, HG9.out.2.1, ?_⟩
          show Gb w w3 X (some ⟨b, o1, none⟩) n c a D (n - (q ++ [(x, i)]).length) _
          rw [HQL.out, HJ.out]
          exact HG9.out.2.2
        · dsimp only
          gi_wp2
          all_goals first | exact ⟨HG4.out.1, HG4.out.2, ⟨rfl, fun h => hxy (by have := hLq.out _ h; exact (Prod.mk.inj this).1)⟩⟩ | (exfalso; rename_i hz; exact hxy (by simpa using hz.2))
      · have hik : ¬ (i : Int) = (j : Int) := by omega
        dsimp only
        gi_wp2
        exact ⟨HG4.out.1, HG4.out.2, ⟨rfl, fun h => hi (by have := hLq.out _ h; exact (Prod.mk.inj this).2)⟩⟩
    case done2 =>
      rintro D2 xs Y hD2 rfl hF hK
      have hlen : l.zipIdx.reverse.length = n := by rw [List.length_reverse, List.length_zipIdx, HN.out]
      have hF' : Gb w w3 X p n c a D 0 Y := by have := hF; rw [hlen, Nat.sub_self] at this; exact this
      have R := REST2.out D2 Y hD2 hF' hK
      clear hF hF' hlen
      gi_wp2
      exact R
    case stop2 =>
      rintro D2 cd q Y hD2 hq ⟨rfl, h⟩ hK
      exact absurd hq h)
  clear hK3
  refine range_own (n := 5) rfl rfl (by omega) (gf := 55) (lb := #[.pointer (some ⟨w3.heap.size + 1, 0, none⟩)]) rfl trivial (enters_of Try.func55 (by kernel_rfl) rfl) SO (fun _ => rfl)
    (fun q X => Ga w w3 p n c a q.length X)
    (fun cd q X => cd = .ret ∧ ¬ (q <+: l.zipIdx))
    (fun q A C row hs hg hr => hs.grown hw3 hg (fun r e => by have := hr r e; omega))
    (fun cd q A C row hs hg hr => hs)
    GA0
    (fun x => { tmps := #[.agg #[.pointer a], .slice p n c, .pointer (some ⟨w.heap.size, 0, none⟩), .pointer (some ⟨w.heap.size + 1, 0, none⟩), .pointer (some ⟨w.heap.size + 1 + 1, 0, none⟩), .pointer (some ⟨w3.heap.size, 0, none⟩), .int .i64 x.2, encI x.1, undef, undef, undef, undef, undef, undef, undef, undef, .agg #[.pointer a], .int .i64 n, .slice p n c, .int .i64 n, .bool false, .bool false, .agg #[.pointer a], .slice (some ⟨g, 0, none⟩) n c1, .slice p n c, .bool true, .bool false, .bool false, .agg #[.pointer a], .func (.func 55) #[] #[.pointer (some ⟨w3.heap.size + 1, 0, none⟩)], .func (.func 55) #[] #[.pointer (some ⟨w3.heap.size + 1, 0, none⟩)], .int .i64 x.2, encI x.1, undef, undef, undef, undef, undef, undef, undef, undef, undef, undef, undef, undef, undef, undef, undef, undef, undef, undef, undef, undef, undef, undef, undef, undef, undef, undef, undef, undef, undef, undef, undef, undef, undef, undef, undef, undef, undef, undef, undef, undef, undef, undef, undef, undef, undef, undef, undef, undef, undef, undef, undef, undef, undef, undef, undef, undef, undef, undef, undef, undef, undef, undef, undef, undef, undef, undef, undef, undef, undef, undef, undef, undef, undef, undef, undef, undef, undef, undef, undef, undef, undef, undef, undef, undef, undef, undef, undef, undef, undef, undef, undef, undef, undef, undef, undef, undef, undef, undef, undef, undef, undef, undef], defers := [] })
    ?assign ?body ?done ?stop
  case assign =>
    intro l' m' x X K hK
    dsimp only
    gi_wp2
    exact hK
  case body =>
    rintro l' m' q ⟨x, i⟩ X hF hlt
    obtain ⟨y, hy⟩ : ∃ y, l[q.length]? = some y := ⟨_, List.getElem?_eq_getElem hlt⟩
    have HF : Hid (Ga w w3 p n c a q.length X) := Lib.hid hF
    obtain ⟨hB2, hB3, hB4, hB6, hBw, hKX, hSX⟩ := hF
    obtain ⟨b, o1, hp, hbw, hcw⟩ := HQ.out _ y hy
    have cy := (hBw.cell (p := ⟨b, o1 + q.length, none⟩) hbw).trans hcw
    have d3 := hB3.cell
    have f4 := hB4.frozen
    have d4 := hB4.cell
    have d6 := hB6.cell
    have f6 := hB6.frozen
    have hLq : Hid (∀ z, q ++ [z] <+: l.zipIdx → z = (y, q.length)) := Lib.hid fun z hz => by
      obtain ⟨r, hr⟩ := hz
      have h1 : l.zipIdx[q.length]? = some z := by rw [← hr]; simp
      rw [List.getElem?_zipIdx, hy] at h1
      simpa using h1.symm
    have hkn : q.length < n := by rw [HN.out]; exact hlt
    have HQL : Hid ((q ++ [(x, i)]).length = q.length + 1) := Lib.hid (by simp)
    obtain ⟨k, hk⟩ : ∃ k, k = q.length := ⟨_, rfl⟩
    rw [← hk] at d6 cy HF hLq hkn HQL
    clear hB2 hB3 hB4 hB6 hBw hKX hy hlt hcw hbw hk
    subst hp
    have hwk : IntKind.i64.wrap ((k : Int) + 1) = (k : Int) + 1 := IntWalk.i64_in _ (by omega)
    have hki : (k : Int) < (n : Int) := by omega
    have hk2 : ¬ (n : Int) ≤ (k : Int) := by omega
    have hk0 : (0 : Int) ≤ (k : Int) := by omega
    have g4 := grownBy_setCell' X (w.heap.size + 1 + 1) (.bool false)
    have g6 := grownBy_setCell' X w3.heap.size (.int .i64 ((k + 1 : Nat) : Int))
    have HG4 : Hid (KeepsFrom (w3.heap.size + 2) X (X.setCell ⟨w.heap.size + 1 + 1, 0, none⟩ (.bool false)) ∧ KpC 0 (w3.heap.size + 1) X (X.setCell ⟨w.heap.size + 1 + 1, 0, none⟩ (.bool false))) := Lib.hid ⟨KeepsFrom.of_grownBy g4 (fun j e => by cases e; omega), KpC.setOwn X _ (Nat.zero_le _) (by omega)⟩
    have HG6 : Hid (KeepsFrom (w3.heap.size + 2) X (X.setCell ⟨w3.heap.size, 0, none⟩ (.int .i64 ((k : Int) + 1))) ∧ KpC w3.heap.size (w3.heap.size + 1) X (X.setCell ⟨w3.heap.size, 0, none⟩ (.int .i64 ((k : Int) + 1))) ∧ Ga w w3 (some ⟨b, o1, none⟩) n c a (k + 1) (X.setCell ⟨w3.heap.size, 0, none⟩ (.int .i64 ((k : Int) + 1)))) := Lib.hid ⟨KeepsFrom.of_grownBy g6 (fun j e => by cases e; omega), KpC.setOwn X _ (by omega) (by omega), HF.out.setN (k + 1) hw3⟩
    clear g4 g6
    by_cases hi : i = k
    · subst hi
      by_cases hxy : x = y
      · subst hxy
        dsimp only
        gi_wp2
        refine ⟨HG6.out.1, HG6.out.2.1, ?_⟩
        show Ga w w3 (some ⟨b, o1, none⟩) n c a (q ++ [(x, i)]).length _
        rw [HQL.out]
        exact HG6.out.2.2
      · dsimp only
        gi_wp2
        exact ⟨HG4.out.1, HG4.out.2, ⟨rfl, fun h => hxy (by have := hLq.out _ h; exact (Prod.mk.inj this).1)⟩⟩
    · have hik : ¬ (i : Int) = (k : Int) := by omega
      dsimp only
      gi_wp2
      exact ⟨HG4.out.1, HG4.out.2, ⟨rfl, fun h => hi (by have := hLq.out _ h; exact (Prod.mk.inj this).2)⟩⟩
  case done =>
    rintro D xs X hD rfl hF hK
    have hlen : l.zipIdx.length = n := by rw [List.length_zipIdx, HN.out]
    rw [hlen] at hF
    have R := REST1.out D X hD hF hK
    clear hF hlen
    gi_wp2
    exact R
  case stop =>
    rintro D cd q X hD hq ⟨rfl, h⟩ hK
    exact absurd hq h
end Go.Proofs.Ytamcobncfbjdmaa
