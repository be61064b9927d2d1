/- Map of ropes of ints: the image of a leaf. -/
import Derived.Test.YtamcobncfbjdmaaRT0
import Derived.Test.YtamcobncfbjdmaaRI2
import Derived.Test.YtamcobncfbjdmaaRT2
import Derived.Laws.MakeOwn
import Derived.Test.YtamcobncfbjdmaaRT7
import Derived.RangeFuncLeaves
import Derived.RecoverIn
import Derived.Test.YtamcobncfbjdmaaRTA
namespace Go.Proofs.Ytamcobncfbjdmaa
open Go.RowKit Go.Shelf

/-- what the law's map adds. -/
def gF (F x : Int) : Int := IntKind.i64.wrap (x + F)
abbrev fnF (ob : Nat) : Value := .func (.func 49) #[] #[.pointer (some ⟨ob, 0, none⟩)]

theorem pstep1_any (x F : Int) (ob : Nat) (w : World) (hc : w.cell? ⟨ob, 3, none⟩ = some (.int .i64 F)) : Calls Try.prog 49 #[.int .i64 x, .pointer (some ⟨ob, 0, none⟩)] w (fun r w' => r = .returned (.int .i64 (gF F x)) ∧ w' = w) := by
  obtain ⟨y, hy⟩ : ∃ y, y = gF F x := ⟨_, rfl⟩
  have hw : IntKind.i64.wrap (x + F) = y := hy.symm
  rw [← hy]
  clear hy
  go_enter Try.func49, Try.ntmps49
  go_wp2
  go_ret
  exact ⟨rfl, rfl⟩

set_option maxHeartbeats 6400000 in
set_option maxRecDepth 100000 in
theorem pimageL_any (a : Option Addr) (l : List Int) (ob : Nat) (F : Int) (w : World) (hN : Nd encI w a (.leaf l)) (h1 : 1 ≤ l.length) (h16 : l.length ≤ 16) (ho : ob < w.heap.size) (hc : w.cell? ⟨ob, 3, none⟩ = some (.int .i64 F)) :
    Calls Try.prog 78 #[.pointer a, fnF ob] w (fun r w' => ∃ a', r = .returned (.pointer a') ∧ Hid (Nd encI w' a' (.leaf (l.map (gF F)))) ∧ Hid (Below w.heap.size w w')) := by
  have C1 := Lib.hid (pleafpI_any a l w hN)
  obtain ⟨b, e, rfl, c0, c2, he, hl⟩ := hN.leaf2
  have hbl : b < w.heap.size := by obtain ⟨b', hb', h, _⟩ := hN.head; cases hb'; exact h
  obtain ⟨n, hn⟩ : ∃ n, n = l.length := ⟨_, rfl⟩
  rw [← hn] at c0 h1 h16
  obtain ⟨i0, hi, hz0, hz1, hz2⟩ := info_parts Try.infoI
  have hmk : ∀ w : World, (Instr.makeSlice 22 (.int .i64 n) (.int .i64 n)).run Try.prog w = .ok (.slice (some ⟨w.heap.size, 0, none⟩) n n) (w.alloc (.cells (madeCells #[.int .i64 0] n) 3)) := fun w => by
    have h := run_makeSlice (P := Try.prog) w 22 3 i0 (.int .i64 0) Try.underlying22 hi hz0 .i64 .i64 (n : Int) (n : Int) (by omega) (by omega) (by rw [hz1]; omega) (by rw [hz2]; omega) (by omega)
    rw [hz1, show (Value.int .i64 0).cells = #[Value.int .i64 0] from rfl] at h
    simpa using h
  obtain ⟨W1, hW1⟩ : ∃ W1, W1 = w.alloc (.cells (madeCells #[.int .i64 0] n) 3) := ⟨_, rfl⟩
  have hb1 : Below w.heap.size w W1 := by rw [hW1]; exact (Below.refl _ _).alloc (Nat.le_refl _) _
  have hs1 : w.heap.size < W1.heap.size := by rw [hW1]; simp
  have d0 := (hb1.cell (p := ⟨b, 0, none⟩) hbl).trans c0
  have d2 := (hb1.cell (p := ⟨b, 2, none⟩) hbl).trans c2
  have C2' := plistI_any b e n W1 d0 d2 h16
  rw [hW1] at C2'
  have C2 := Lib.hid C2'
  have hM : W1.heap[w.heap.size]? = some (.cells (madeCells #[.int .i64 0] n) 3) := by rw [hW1]; exact heap_alloc_new w _
  have hMz : (madeCells #[Value.int .i64 0] n).size = n := by rw [size_madeCells]
  have HMC : Hid (∀ i, i < n → ∃ v, W1.cell? ⟨w.heap.size, i, none⟩ = some v) := Lib.hid fun i hi => by
    simp only [World.cell?, hM]
    exact ⟨_, Array.getElem?_eq_getElem (by rw [hMz]; exact hi)⟩
  have HMF : Hid (∀ i, W1.frozen? ⟨w.heap.size, i, none⟩ = false) := Lib.hid fun i => frozen_of_row _ _ _ _ _ hM
  have HL := Lib.hid hl
  have HE := Lib.hid he
  have HB1 := Lib.hid hb1
  have HN := Lib.hid hn
  have HO := Lib.hid hc
  have HOL := Lib.hid ho
  have HW := Lib.hid hW1
  have HS1 := Lib.hid hs1
  have hn0 : (0 : Int) ≤ (n : Int) := by omega
  have h16i : (n : Int) ≤ 16 := by omega
  clear hN hbl c2 d0 d2 hi hz0 hz1 hz2 hn hW1 hb1 hs1 C2' hM hMz hc ho he hl
  go_enter Try.func78, Try.ntmps78
  go_wp2_with (first
    | (go_at_call 79; refine C1.out.mono ?_; rintro r w9 ⟨rfl, hw9⟩; obtain rfl := hw9.symm)
    | (go_at_call 80; refine C2.out.mono ?_; rintro r w2 ⟨rfl, hb2⟩)
    | fail)
  rw [← HW.out] at hb2
  have HB2 := Lib.hid hb2
  clear hb2 hmk
  go_loopw [21] (fun v wr => ∃ j : Nat, v = .int .i64 j ∧ j ≤ n ∧ Hid (Below w.heap.size w wr) ∧ Hid (w.heap.size < wr.heap.size) ∧ Hid (∀ i, i < n → ∃ v, wr.cell? ⟨w.heap.size, i, none⟩ = some v) ∧ Hid (∀ i, wr.frozen? ⟨w.heap.size, i, none⟩ = false) ∧ Hid (∀ i x, i < j → l[i]? = some x → wr.cell? ⟨w.heap.size, i, none⟩ = some (.int .i64 (gF F x)))) (fun v _ => n - (intOf v).toNat)
  case atStart =>
    refine ⟨0, rfl, Nat.zero_le _, Lib.hid (HB1.out.trans (HB2.out.mono HB1.out.size)), Lib.hid (by have := HB2.out.size; have := HS1.out; omega), Lib.hid fun i hi => ?_, Lib.hid fun i => ?_, Lib.hid fun i x hi => absurd hi (Nat.not_lt_zero _)⟩
    · obtain ⟨v, hv⟩ := HMC.out i hi
      exact ⟨v, (HB2.out.cell (p := ⟨w.heap.size, i, none⟩) HS1.out).trans hv⟩
    · have hh := HMF.out i
      unfold World.frozen? at hh ⊢
      rw [HB2.out.block _ HS1.out]
      exact hh
  case round =>
    obtain ⟨j, rfl, hjn, hbr, hsr, hcr, hfr, hdr⟩ := hrel
    by_cases hj : j < n
    · obtain ⟨x, hx⟩ : ∃ x, l[j]? = some x := ⟨_, List.getElem?_eq_getElem (by rw [← HN.out]; exact hj)⟩
      have hji : (j : Int) < (n : Int) := by omega
      have hj0 : (0 : Int) ≤ (j : Int) := by omega
      have cx := (hbr.out.cell (p := ⟨e, j, none⟩) HE.out).trans (HL.out.out j x hx)
      obtain ⟨v, cv⟩ := hcr.out j hj
      have fv := hfr.out j
      have CF := Lib.hid (pstep1_any x F ob wr ((hbr.out.cell (p := ⟨ob, 3, none⟩) HOL.out).trans HO.out))
      have hwj : IntKind.i64.wrap ((j : Int) + 1) = (j : Int) + 1 := IntWalk.i64_in _ (by omega)
      have HX := Lib.hid hx
      have HV := Lib.hid cv
      obtain ⟨y, hy⟩ : ∃ y, y = gF F x := ⟨_, rfl⟩
      rw [← hy] at CF
      have HY := Lib.hid hy
      clear hx hy
      go_wp2_with (first
        | (go_at_call 49; refine CF.out.mono ?_; rintro r w8 ⟨rfl, hw8⟩; obtain rfl := hw8.symm)
        | fail)
      go_roundw
      case rel =>
        refine ⟨j + 1, by go_num, by omega, Lib.hid (hbr.out.setCell (p := ⟨w.heap.size, j, none⟩) (Nat.le_refl _) _), Lib.hid (by have := hsr.out; simpa using this), Lib.hid fun i hi => ?_, Lib.hid fun i => ?_, Lib.hid fun i z hi hz => ?_⟩
        · by_cases hij : i = j
          · subst hij
            exact ⟨_, World.cell?_setCell_same _ _ _ HV.out⟩
          · obtain ⟨u, hu⟩ := hcr.out i hi
            exact ⟨u, (World.cell?_setCell_other _ _ _ _ (fun e => hij (by cases e; rfl))).trans hu⟩
        · rw [World.frozen?_setCell]
          exact hfr.out i
        · by_cases hij : i = j
          · subst hij
            rw [HX.out] at hz
            cases hz
            rw [← HY.out]
            exact World.cell?_setCell_same _ _ _ HV.out
          · exact (World.cell?_setCell_other _ _ _ _ (fun e => hij (by cases e; rfl))).trans (hdr.out i z (by omega) hz)
      case measure => simp [intOf]; omega
    · obtain rfl : j = n := by omega
      have CL := pleafI_any w.heap.size 0 j (l.map (gF F)) wr hsr.out (by rw [List.length_map, ← HN.out]; exact h1) (by rw [List.length_map, ← HN.out]; exact h16) (fun i z hz => by
        rw [List.getElem?_map] at hz
        obtain ⟨y, hy, rfl⟩ := Option.map_eq_some_iff.1 hz
        rw [Nat.zero_add]
        exact hdr.out i y (by rw [HN.out]; exact (List.getElem?_eq_some_iff.1 hy).1) hy)
      rw [List.length_map, ← HN.out] at CL
      have HCL := Lib.hid CL
      clear CL
      go_wp2_with (first
        | (go_at_call 75; refine HCL.out.mono ?_; rintro r w7 ⟨a', rfl, HN7, HB7⟩)
        | fail)
      go_ret
      exact ⟨a', rfl, HN7, Lib.hid (hbr.out.trans (HB7.out.mono hbr.out.size))⟩
end Go.Proofs.Ytamcobncfbjdmaa

namespace Go.Proofs.Ytamcobncfbjdmaa
open Go.RowKit Go.Shelf Go.BigFrame
attribute [local go_sem] Oper.semAt_some

def mapR {α β : Type} (f : α → β) : Rp α → Rp β
  | .leaf l => .leaf (l.map f)
  | .fork p q => .fork (mapR f p) (mapR f q)
theorem mapR_list {α β : Type} (f : α → β) : ∀ t : Rp α, (mapR f t).list = t.list.map f
  | .leaf _ => rfl
  | .fork p q => by rw [mapR, Rp.list, Rp.list, List.map_append, mapR_list f p, mapR_list f q]
theorem mapR_depth {α β : Type} (f : α → β) : ∀ t : Rp α, (mapR f t).depth = t.depth
  | .leaf _ => rfl
  | .fork p q => by rw [mapR, Rp.depth, Rp.depth, mapR_depth f p, mapR_depth f q]
theorem mapR_lv {α β : Type} (f : α → β) : ∀ t : Rp α, t.Lv → (mapR f t).Lv
  | .leaf l, h => by rw [mapR, Rp.Lv, List.length_map]; exact h
  | .fork p q, h => ⟨mapR_lv f p h.1, mapR_lv f q h.2⟩

set_option maxHeartbeats 6400000 in
set_option maxRecDepth 100000 in
theorem pimageI_any (ob : Nat) (F : Int) (t : Rp Int) : ∀ (a : Option Addr) (w : World), Nd encI w a t → t.Lv → t.list.length ≤ 1000000 → ob < w.heap.size → w.cell? ⟨ob, 3, none⟩ = some (.int .i64 F) →
    Calls Try.prog 78 #[.pointer a, fnF ob] w (fun r w' => ∃ a', r = .returned (.pointer a') ∧ Hid (Nd encI w' a' (mapR (gF F) t)) ∧ Hid (Below w.heap.size w w')) := by
  induction t with
  | leaf l =>
    intro a w hN hL _ ho hc
    exact pimageL_any a l ob F w hN hL.1 hL.2 ho hc
  | fork p q ihp ihq =>
    intro a w hN hL hm ho hc
    have C1 := Lib.hid (pforkpI_any a p q w hN)
    have hbl : ∃ b, a = some ⟨b, 0, none⟩ ∧ b < w.heap.size := by obtain ⟨b', hb', h, _⟩ := hN.head; exact ⟨b', hb', h⟩
    obtain ⟨b, a1, a2, rfl, c2, c3, c4, hp, hq⟩ := hN.fork2
    have hbl' : b < w.heap.size := by obtain ⟨b', hb', h⟩ := hbl; cases hb'; exact h
    rw [Rp.list, List.length_append] at hm
    have d1 := Rp.depth_le hL.1
    have d2 := Rp.depth_le hL.2
    have S1 := Lib.hid (ihp a1 w hp hL.1 (by omega) ho hc)
    have S2 : Hid (∀ w', Below w.heap.size w w' → Calls Try.prog 78 #[.pointer a2, fnF ob] w' (fun r w'' => ∃ a', r = .returned (.pointer a') ∧ Hid (Nd encI w'' a' (mapR (gF F) q)) ∧ Hid (Below w'.heap.size w' w''))) := Lib.hid fun w' hb => ihq a2 w' (hq.later hb) hL.2 (by omega) (Nat.lt_of_lt_of_le ho hb.size) ((hb.cell (p := ⟨ob, 3, none⟩) ho).trans hc)
    have S3 : Hid (∀ b1 b2 w', Nd encI w' b1 (mapR (gF F) p) → Nd encI w' b2 (mapR (gF F) q) → Calls Try.prog 76 #[.pointer b1, .pointer b2] w' (fun r w'' => ∃ a, r = .returned (.pointer a) ∧ Hid (Nd encI w'' a (.fork (mapR (gF F) p) (mapR (gF F) q))) ∧ Hid (Below w'.heap.size w' w''))) := Lib.hid fun b1 b2 w' h1 h2 => pforkI_any b1 b2 _ _ w' h1 h2 (by rw [mapR_list, mapR_list, List.length_map, List.length_map]; omega) (by rw [mapR_depth]; omega) (by rw [mapR_depth]; omega)
    have HBL := Lib.hid hbl'
    have HC4 := Lib.hid c4
    clear ihp ihq hN hL hm ho hc hp hq d1 d2 hbl hbl'
    go_enter Try.func78, Try.ntmps78
    go_wp2_with (first
      | (go_at_call 79; refine C1.out.mono ?_; rintro r w9 ⟨rfl, hw9⟩; obtain rfl := hw9.symm)
      | (go_at_call 76; refine (S3.out _ _ _ HN1'.out HN2.out).mono ?_; rintro r w3 ⟨a', rfl, HN3, HB3⟩)
      | (go_at_call 78; have hmark := HB1.out; refine (S2.out _ HB1.out).mono ?_; rintro r w2 ⟨y2, rfl, HN2, HB2⟩; have HN1' := Lib.hid (HN1.out.later HB2.out); have HB12 := Lib.hid (HB1.out.trans (HB2.out.mono HB1.out.size)))
      | (go_at_call 78; refine S1.out.mono ?_; rintro r w1 ⟨y1, rfl, HN1, HB1⟩; have e4 := (HB1.out.cell (p := ⟨b, 4, none⟩) HBL.out).trans HC4.out)
      | fail)
    go_ret
    exact ⟨a', rfl, HN3, Lib.hid (HB12.out.trans (HB3.out.mono HB12.out.size))⟩

theorem pimageN_any (v : Value) (w : World) : Calls Try.prog 78 #[.pointer none, v] w (fun r w' => r = .returned (.pointer none) ∧ w' = w) := by
  go_enter Try.func78, Try.ntmps78
  go_wp2
  go_ret
  exact ⟨rfl, rfl⟩

theorem pimageH_any (a : Option Addr) (l : List Int) (ob : Nat) (F : Int) (w : World) (h : Holds w a l) (hm : l.length ≤ 1000000) (ho : ob < w.heap.size) (hc : w.cell? ⟨ob, 3, none⟩ = some (.int .i64 F)) :
    Calls Try.prog 78 #[.pointer a, fnF ob] w (fun r w' => ∃ a', r = .returned (.pointer a') ∧ Hid (Holds w' a' (l.map (gF F))) ∧ Hid (Below w.heap.size w w')) := by
  rcases h.cases with ⟨rfl, rfl⟩ | ⟨t, hN, hL, rfl, _⟩
  · exact (pimageN_any _ w).mono (by rintro r w' ⟨rfl, rfl⟩; exact ⟨none, rfl, Lib.hid (Holds.nil _), Lib.hid (Below.refl _ _)⟩)
  · refine (pimageI_any ob F t a w hN hL hm ho hc).mono ?_
    rintro r w' ⟨a', rfl, h1, h2⟩
    have := Holds.of_nd h1.out (mapR_lv _ _ hL)
    rw [mapR_list] at this
    exact ⟨a', rfl, Lib.hid this, h2⟩

theorem recIdleM_any (n : Nat) (w : World) : CallsDIn Fence.wide n Try.prog 77 #[] .returning w fun e u' w' => e = .returned (.tuple #[]) ∧ u' = .returning ∧ w' = w := by
  refine callsDIn_of_wpSIn Try.func77 rfl trivial fun c₀ cs hu => ?_
  apply wpSIn_region
  simp [wpOpsSIn, go_sem, recoverD, hu, Try.ntmps77, bodyPostS, results, Try.results77]
  cases c₀
  simp_all

set_option maxHeartbeats 6400000 in
set_option maxRecDepth 100000 in
theorem pMapI_any (a : Option Addr) (l : List Int) (ob : Nat) (F : Int) (w : World) (h : Holds w a l) (hm : l.length ≤ 1000000) (ho : ob < w.heap.size) (hc : w.cell? ⟨ob, 3, none⟩ = some (.int .i64 F)) :
    Calls Try.prog 48 #[.agg #[.pointer a], fnF ob] w (fun r w' => ∃ c, r = .returned (.agg #[.pointer c]) ∧ Hid (Holds w' c (l.map (gF F))) ∧ Hid (Below w.heap.size w w')) := by
  obtain ⟨W, hW⟩ : ∃ W, W = (w.alloc (.cells #[.pointer a] 28)).alloc (.cells #[.pointer none] 28) := ⟨_, rfl⟩
  have hb : Below w.heap.size w W := by rw [hW]; exact ((Below.refl _ _).alloc (Nat.le_refl _) _).alloc (by simp) _
  have H2 := box2 w (.cells #[.pointer a] 28) (.cells #[.pointer none] 28)
  rw [← hW] at H2
  have hs : W.heap.size = w.heap.size + 2 := by rw [hW]; simp
  have C1' := pimageH_any a l ob F W (h.later hb) hm (Nat.lt_of_lt_of_le ho hb.size) ((hb.cell (p := ⟨ob, 3, none⟩) ho).trans hc)
  rw [hW] at C1'
  have C1 := Lib.hid C1'
  have HB := Lib.hid hb
  have HW := Lib.hid hW
  have HH := Lib.hid H2
  have HS := Lib.hid hs
  have hmf : ∀ (fn : Fn) (first cap : Array Value) (w : World), (Instr.makeFunc fn first cap).run Try.prog w = .ok (.func fn first cap) w := fun _ _ _ _ => rfl
  clear hb H2 hW hs C1' h hm ho hc
  refine (callsIn_wide (n := 5)).1 ?_
  refine callsIn_of_wp_marks Try.func48 rfl trivial ?_ rfl
  simp only [Try.ntmps48, List.size_toArray, List.length_cons, List.length_nil, Nat.reduceAdd, Nat.reduceSub, Array.replicate_succ, Array.replicate_zero, List.push_toArray, List.append_toArray, List.nil_append, List.cons_append]
  gi_wp2_with (first
    | (refine ⟨trivial, ?_⟩; gi_at_call 78; refine (callsIn_wide.2 C1.out).mono ?_; rintro e' w1 ⟨c, rfl, HN1, HB1'⟩; have HB1 : Hid (Below W.heap.size W w1) := Lib.hid (by have := HB1'.out; rw [← HW.out] at this; exact this); have b4 : Boxed w1 (w.heap.size + 1) 28 (.pointer none) := (HB1.out.block _ (by have := HS.out; omega)).trans HH.out.2; have z4 := b4.cell; have f4 := b4.frozen; have HB4 := Lib.hid b4)
    | fail)
  have hc5 := (HB4.out.set (.pointer c)).cell
  refine ⟨by simp, .inr ⟨(fun h => by cases h), _, _, 77, #[], rfl, by simp [go_sem], fun g hg => trivial, (recIdleM_any _ _).mono ?_⟩⟩
  rintro e u' w'' ⟨rfl, rfl, rfl⟩
  exact ⟨.agg #[.pointer c], by simp [results, Try.f48, go_sem, hc5], c, rfl, Lib.hid (HN1.out.box _ HB4.out), Lib.hid ((HB.out.trans (HB1.out.mono HB.out.size)).setCell (p := ⟨w.heap.size + 1, 0, none⟩) (by show w.heap.size ≤ w.heap.size + 1; omega) _)⟩
end Go.Proofs.Ytamcobncfbjdmaa

namespace Go.Proofs.Ytamcobncfbjdmaa
open Go.RowKit Go.Shelf Go.BigFrame
attribute [local go_sem] Oper.semAt_some

set_option maxRecDepth 100000 in
set_option maxHeartbeats 3200000 in
theorem pListC_any (a : Option Addr) (l : List Int) (w : World) (hH : Holds w a l) (hl : l.length ≤ 1000000) :
    Calls Try.prog 33 #[.agg #[.pointer a]] w (fun r w' => ∃ g c, r = .returned (.slice (some ⟨g, 0, none⟩) l.length c) ∧ l.length ≤ c ∧ Hid (∀ j x, l[j]? = some x → w'.cell? ⟨g, j, none⟩ = some (encI x)) ∧ g < w'.heap.size ∧ Hid (Below w.heap.size w w')) := by
  obtain ⟨o, hN, hL, hol⟩ := hH
  obtain ⟨n3, h3⟩ : ∃ n3, n3 = l.length := ⟨_, rfl⟩
  rw [← h3] at hl ⊢
  have h3' : (listO o).length = n3 := by rw [hol, h3]
  have HB : Hid (Below w.heap.size w (w.alloc (.cells #[.pointer a] 28))) := Lib.hid ((Below.refl _ _).alloc (Nat.le_refl _) _)
  have HBX : Hid (Boxed (w.alloc (.cells #[.pointer a] 28)) w.heap.size 28 (.pointer a)) := Lib.hid (Boxed.new _ _ _)
  have C1 : Hid (Calls Try.prog 28 #[.agg #[.pointer a]] (w.alloc (.cells #[.pointer a] 28)) (fun e w' => e = .returned (.int .i64 n3) ∧ Hid (Below (w.heap.size + 1) (w.alloc (.cells #[.pointer a] 28)) w'))) := Lib.hid (by
    refine (pLenI_any a o _ (hN.later HB.out)).mono ?_
    rintro e w' ⟨rfl, h⟩
    refine ⟨?_, Lib.hid (by have := h.out; rwa [World.size_alloc] at this)⟩
    rw [h3'])
  have H3 := Lib.hid h3
  have H3' := Lib.hid h3'
  have HOL := Lib.hid hol
  clear h3 h3' hol
  obtain ⟨i0, hi, hz0, hz1, hz2⟩ := info_parts Try.infoI
  have hmk : ∀ w : World, (Instr.makeSlice 22 (.int .i64 0) (.int .i64 n3)).run Try.prog w = .ok (.slice (some ⟨w.heap.size, 0, none⟩) 0 n3) (w.alloc (.cells (madeCells #[.int .i64 0] n3) 3)) := fun w => by
    have := run_make w 22 3 i0 (.int .i64 0) Try.underlying22 hi hz0 .i64 .i64 0 n3 (by omega) (by omega) (by rw [hz2]; show (8 : Int) * n3 ≤ 281474976710656; omega) (by omega)
    rw [hz1, Int.toNat_natCast, Nat.mul_one] at this
    exact this
  clear hi hz0 hz1 hz2
  refine (callsIn_wide (n := 5)).1 ?_
  refine callsIn_of_wp_marks Try.func33 rfl trivial ?_ rfl
  simp only [Try.ntmps33, List.size_toArray, List.length_cons, List.length_nil, Nat.reduceAdd, Nat.reduceSub, Array.replicate_succ, Array.replicate_zero, List.push_toArray, List.append_toArray, List.nil_append, List.cons_append]
  gi_wp2_with (first
    | (refine ⟨trivial, ?_⟩; gi_at_call 22; refine (callsIn_wide.2 (pAllI_any _ _)).mono ?_; rintro e' w2 ⟨rfl, rfl⟩)
    | (refine ⟨trivial, ?_⟩; gi_at_call 28; refine (callsIn_wide.2 C1.out).mono ?_; rintro e' w1 ⟨rfl, HB1⟩; have bx : Boxed w1 w.heap.size 28 (.pointer a) := (HB1.out.block _ (by omega)).trans HBX.out; have x1 := ((bx.alloc (.cells (madeCells #[.int .i64 0] n3) 3)).alloc (.cells #[.slice (some ⟨w1.heap.size, 0, none⟩) 0 n3] 22)).cell)
    | fail)
  have s1 := HB1.out.size
  simp only [World.size_alloc] at s1
  obtain ⟨m, hm⟩ : ∃ m, m = w1.heap.size := ⟨_, rfl⟩
  obtain ⟨V, hV⟩ : ∃ V, V = ((w1.alloc (.cells (madeCells #[.int .i64 0] n3) 3)).alloc (.cells #[.slice (some ⟨w1.heap.size, 0, none⟩) 0 n3] 22)).alloc (.cells #[.pointer a] 28) := ⟨_, rfl⟩
  have hbV : Below w1.heap.size w1 V := by rw [hV]; exact (((Below.refl _ _).alloc (Nat.le_refl _) _).alloc (by simp) _).alloc (by simp; omega) _
  have K3 := box3 w1 (.cells (madeCells #[.int .i64 0] n3) 3) (.cells #[.slice (some ⟨w1.heap.size, 0, none⟩) 0 n3] 22) (.cells #[.pointer a] 28)
  have sV : V.heap.size = m + 3 := by rw [hV, hm]; simp
  have hbW : Below w.heap.size w V := (HB.out.trans (HB1.out.mono (by omega))).trans (hbV.mono (by omega))
  rw [← hV, ← hm] at K3
  rw [← hV]
  simp only [← hm]
  obtain ⟨k0, k1, k2⟩ := K3
  have own0 : V.ownsRow w.heap.size 3 1 (.slice (some ⟨m, 0, none⟩) 0 n3) 0 [] := ⟨rfl, .inr ⟨m, n3, _, rfl, by omega, k0, by omega, (by show n3 ≤ 2 ^ 63 - 1; omega), by rw [size_madeCells]; simp, rfl⟩⟩
  have SO := all1I_seq 4 w.heap.size (m + 2) (m + 1 + 1) a o w V (Nat.le_refl _) (by omega) hN hL (by rw [H3'.out]; omega) (KpC.of_below hbW) (by omega) (cell_of k2)
  have sz1 : w.heap.size + 1 ≤ m := by rw [hm]; exact s1
  clear hV hbV x1 bx HB1 s1 k2 hm hmk
  have HI := Lib.hid (info_parts Try.infoI)
  refine range_own (n := 5) rfl rfl (by omega) (gf := 55) (lb := #[.pointer (some ⟨m + 1 + 1, 0, none⟩)]) rfl trivial (enters_of Try.func55 (by kernel_rfl) rfl) SO (fun _ => rfl)
    (fun q X => Boxed X (m + 1) 22 (.slice (some ⟨m, 0, none⟩) q.length n3) ∧ X.ownsRow w.heap.size 3 1 (.slice (some ⟨m, 0, none⟩) q.length n3) q.length (q.map (fun p => encI p.1)) ∧ Below w.heap.size w X ∧ m + 3 ≤ X.heap.size)
    (fun c q X => False)
    (fun s A C row hs hg hr => ⟨boxed_frm (by omega) _ (fun s : List (Int × Nat) => Value.slice (some ⟨m, 0, none⟩) s.length n3) s A C row hs.1 hg hr, owns_frm hs.2.1 hg (fun e => by have := hr m e.symm; omega), hs.2.2.1.grown hg hs.2.2.1.size (fun k e => by have := hr k e; omega), Nat.le_trans hs.2.2.2 hg.size⟩)
    (fun c s A C row hs hg hr => hs.elim)
    ⟨k1, own0, hbW, by omega⟩
    (fun x => { tmps := #[.agg #[.pointer a], .pointer (some ⟨w.heap.size, 0, none⟩), .slice none 0 0, .pointer (some ⟨m + 1, 0, none⟩), undef, encI x.1, .agg #[.pointer a], .int .i64 n3, .slice (some ⟨m, 0, none⟩) 0 n3, .agg #[.pointer a], .func (.func 55) #[] #[.pointer (some ⟨m + 1 + 1, 0, none⟩)], .int .i64 x.2, encI x.1, undef, undef, undef, undef, undef], defers := [] })
    ?assign ?body ?done ?stop
  case assign =>
    intro l' m' x X K hK
    dsimp only
    gi_wp2
    exact hK
  case body =>
    rintro l' m' q ⟨x, i⟩ X ⟨y1, hO, hBX, hsX⟩ hlt
    have hq3 : q.length < n3 := by rw [H3'.out] at hlt; exact hlt
    obtain ⟨i0, hi, hz0, hz1, hz2⟩ := HI.out
    have d1 := y1.cell
    have HO := Lib.hid hO
    have HY1 := Lib.hid y1
    have HBx := Lib.hid hBX
    have HQ : Hid ((q ++ [(x, i)]).length = q.length + 1) := Lib.hid (by simp)
    have HQ2 : Hid ((q ++ [(x, i)]).map (fun p => encI p.1) = q.map (fun p => encI p.1) ++ [encI x]) := Lib.hid (by simp)
    obtain ⟨k, hk⟩ : ∃ k, k = q.length := ⟨_, rfl⟩
    rw [← hk] at d1 HO HY1 HQ
    clear hO y1 hBX hlt
    rw [← hk] at hq3
    clear hk
    have owned : Hid (∀ X' : World, X.grownBy X' none → X'.ownsRow w.heap.size 3 1 (.slice (some ⟨m, 0, none⟩) k n3) k (q.map (fun p => encI p.1))) := Lib.hid fun X' hg => owns_frm HO.out hg (fun e => by cases e)
    have s1 : m + 1 ≠ X.heap.size := by omega
    have L1 : Hid (∀ x' : Value, Boxed (X.alloc (.cells #[x'] 3)) (m + 1) 22 (.slice (some ⟨m, 0, none⟩) k n3)) := Lib.hid fun x' => HY1.out.alloc _
    dsimp only
    gi_wp2_with (first
      | (refine wpListIn_append_fits _ rfl (.tmp 13) (.tmp 15) 22 rfl w.heap.size 3 i0 1 Try.underlying22 hi hz1 m k n3 (q.map (fun p => encI p.1)) rfl (owned.out _ (World.grownBy_alloc _ _ _)) ⟨X.heap.size, 0, none⟩ 1 1 [encI x] rfl rfl (cell_one_new _ _ _) (by intro u hu; simp at hu; subst hu; rfl) (by omega) ?_; intro w5 hown5 hgrow5; have b5 := (L1.out (encI x)).kept hgrow5 (fun e => by cases e <;> omega); have c5 := b5.cell; have f5 := b5.frozen; have HO5 := Lib.hid hown5; have HG5 := Lib.hid hgrow5; have HB5 := Lib.hid b5; clear hown5 hgrow5 b5)
      | fail)
    have g1 := World.grownBy_alloc X (.cells #[encI x] 3) none
    have g3 := grownBy_setCell' w5 (m + 1) (.slice (some ⟨m, 0, none⟩) (k + 1) n3)
    have z1 := g1.size
    have z2 := HG5.out.size
    have z3 := g3.size
    refine ⟨?_, ?_, ?_, ?_, ?_, ?_⟩
    · exact (((KeepsFrom.of_grownBy g1 (fun j e => by cases e)).trans (KeepsFrom.of_grownBy HG5.out (fun j e => by cases e; omega))).trans (KeepsFrom.of_grownBy g3 (fun j e => by cases e; omega)))
    · exact (((KpC.grownOwn g1 (fun r e => by cases e)).trans (KpC.grownOwn HG5.out (fun r e => by cases e; omega))).trans (KpC.grownOwn g3 (fun r e => by cases e; omega)))
    · rw [HQ.out]; exact HB5.out.set _
    · rw [HQ.out, HQ2.out]; exact owns_frm HO5.out g3 (fun e => by cases e <;> omega)
    · exact ((HBx.out.grown g1 HBx.out.size (fun k e => by cases e)).grown HG5.out (by have := HBx.out.size; omega) (fun k e => by cases e; omega)).grown g3 (by have := HBx.out.size; omega) (fun k e => by cases e; omega)
    · omega
  case done =>
    rintro D xs X hD rfl ⟨y1, hO, hBX, hsX⟩ hK
    have hx3 : ((listO o).zipIdx).length = n3 := by rw [List.length_zipIdx]; exact H3'.out
    rw [hx3] at y1 hO
    have d1 := y1.cell
    have HO := Lib.hid hO
    have HBx := Lib.hid hBX
    clear hO y1 hBX
    gi_wp2
    refine ⟨by simp, .inl ⟨_, _, rfl, run_takeDeferred hK, ?_⟩⟩
    obtain ⟨hg1, hcl⟩ := owns_cells0 (owns_frm HO.out (grownBy_putObj' X D (.deferred none)) (fun e => by cases e <;> omega))
    refine ⟨.slice (some ⟨m, 0, none⟩) n3 n3, by simp [results, Try.f33, go_sem], ⟨m, n3, rfl, Nat.le_refl _, Lib.hid fun j x hx => hcl j (encI x) ?_, hg1, Lib.hid (HBx.out.grown (grownBy_putObj' X D (.deferred none)) HBx.out.size (fun k e => by cases e; omega))⟩⟩
    rw [List.getElem?_map, List.getElem?_zipIdx]
    rw [HOL.out]
    rw [hx]
    rfl
  case stop =>
    rintro D c q X hD hq hx hK
    exact hx.elim
end Go.Proofs.Ytamcobncfbjdmaa
