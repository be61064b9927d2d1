/- RopeEnds: the law. -/
import Derived.Test.YtkocbnicbadniaaRL0
namespace Go.Proofs.Ytkocbnicbadniaa
open Go.RowKit Go.Shelf Go.BigFrame
attribute [local go_sem] Oper.semAt_some

set_option maxRecDepth 100000 in
set_option maxHeartbeats 12800000 in
theorem lawShort_any (p : Option Addr) (c s : Nat) (l : List Int) (w : World) (hl : l.length ≤ 300) (hc : l.length ≤ c) (hs : s < 256) (hq : SqL w p l) : Calls Try.prog 5 #[.slice p l.length c, .int .u8 s] w (fun r w' => r = .returned (.bool true) ∧ Below w.heap.size w w') := by
  obtain ⟨n, hn⟩ : ∃ n, n = l.length := ⟨_, rfl⟩
  obtain ⟨W, hW⟩ : ∃ W, W = ((w.alloc (.cells #[.slice p n c] 22)).alloc (.cells #[.int .u8 s] 5)).alloc (.cells #[.bool false] 4) := ⟨_, rfl⟩
  have hb : Below w.heap.size w W := by rw [hW]; exact (((Below.refl _ _).alloc (Nat.le_refl _) _).alloc (by simp) _).alloc (by simp; omega) _
  have hsz : W.heap.size = w.heap.size + 3 := by rw [hW]; simp
  have H3 := box3 w (.cells #[.slice p n c] 22) (.cells #[.int .u8 s] 5) (.cells #[.bool false] 4)
  rw [← hW] at H3
  have C1 := pOfI_any _ l W ((hq.later hb).sq hc) (by omega)
  rw [← hn] at C1 ⊢
  have hni : ¬ (300 : Int) < (n : Int) := by omega
  have C1' := C1
  rw [hW] at C1'
  replace C1 := Lib.hid C1'
  have HH := Lib.hid H3
  have HN := Lib.hid hn
  have HW := Lib.hid hW
  have HQ := Lib.hid hq
  clear hW C1' H3 hq hn
  refine (callsIn_wide (n := 5)).1 ?_
  refine callsIn_of_wp_marks Try.func5 rfl trivial ?_ rfl
  simp only [Try.ntmps5, List.size_toArray, List.length_cons, List.length_nil, Nat.reduceAdd, Nat.reduceSub, Array.replicate_succ, Array.replicate_zero, List.push_toArray, List.append_toArray, List.nil_append, List.cons_append]
  gi_wp2_with (first
    | (refine ⟨trivial, ?_⟩; gi_at_call 21; refine (callsIn_wide.2 (pover_any _ _ _ _)).mono ?_; rintro e' w3 ⟨rfl, hw3⟩; obtain rfl := hw3.symm)
    | (refine ⟨trivial, ?_⟩; gi_at_call 22; refine (callsIn_wide.2 (pAllI_any _ _)).mono ?_; rintro e' w2 ⟨rfl, rfl⟩)
    | (refine ⟨trivial, ?_⟩; gi_at_call 12; refine (callsIn_wide.2 C1.out).mono ?_; rintro e' w1 ⟨a, rfl, HN1, HB1⟩; have bx5 := ((Boxed.new w1 28 (.pointer a)).alloc (.cells #[.int .i64 0] 3)).cell)
    | fail)
  rename_i Q0 K1 hK1
  clear hw3
  rw [← HW.out] at HB1
  have s1 := HB1.out.size
  have hw3 : w.heap.size + 3 ≤ w1.heap.size := by omega
  obtain ⟨V, hV⟩ : ∃ V, V = ((w1.alloc (.cells #[.pointer a] 28)).alloc (.cells #[.int .i64 0] 3)).alloc (.cells #[.pointer a] 28) := ⟨_, rfl⟩
  have hbV : Below w1.heap.size w1 V := by rw [hV]; exact (((Below.refl _ _).alloc (Nat.le_refl _) _).alloc (by simp) _).alloc (by simp; omega) _
  have sV : V.heap.size = w1.heap.size + 3 := by rw [hV]; simp
  have K3 := box3 w1 (.cells #[.pointer a] 28) (.cells #[.int .i64 0] 3) (.cells #[.pointer a] 28)
  rw [← hV] at K3 ⊢
  obtain ⟨k5, k6, k7⟩ := K3
  have hbW : Below W.heap.size W V := HB1.out.trans (hbV.mono (by omega))
  have FA0 : Fa w w1 p n c s a 0 V := ⟨(hbW.block _ (by omega)).trans HH.out.1, (hbW.block _ (by omega)).trans HH.out.2.1, (hbW.block _ (by omega)).trans HH.out.2.2, k5, k6, hb.trans (hbW.mono hb.size), KpC.of_below hbV, by omega⟩
  have HO : listO (ofO l) = l := ofO_list l
  have HLv : ∀ t, ofO l = some t → t.Lv := fun t e => by
    unfold ofO at e
    split at e
    · cases e
    · next h => cases e; exact bld_lv _ _ (Nat.le_refl _) (by cases l with | nil => exact absurd rfl h | cons => simp)
  have SO := all1I_seq 4 w1.heap.size (w1.heap.size + 2) (w1.heap.size + 1 + 1) a (ofO l) w1 V (Nat.le_refl _) (by omega) HN1.out HLv (by rw [HO]; omega) (KpC.of_below hbV) (by omega) (cell_of k7)
  rw [HO] at SO
  have HTree := Lib.hid (show On encI w1 a (ofO l) from HN1.out)
  clear hV hbV bx5 HB1 k5 k6 k7 C1 HN1
  have REST1 : Hid (∀ (D : Nat) (X : World), V.heap.size ≤ D → Fa w w1 p n c s a (told n s) X → X.heap[D]? = some (.deferred (some [])) →
      K1 { tmps := #[.slice p n c, .int .u8 s, .pointer (some ⟨w.heap.size, 0, none⟩), .pointer (some ⟨w.heap.size + 1, 0, none⟩), .pointer (some ⟨w.heap.size + 1 + 1, 0, none⟩), .pointer (some ⟨w1.heap.size, 0, none⟩), .pointer (some ⟨w1.heap.size + 1, 0, none⟩), undef, undef, undef, undef, undef, undef, undef, undef, undef, .slice p n c, .int .i64 n, .bool false, undef, .slice p n c, .agg #[.pointer a], .agg #[.pointer a], .func (.func 55) #[] #[.pointer (some ⟨w1.heap.size + 1 + 1, 0, none⟩)], .func (.func 55) #[] #[.pointer (some ⟨w1.heap.size + 1 + 1, 0, none⟩)], undef, undef, undef, undef, undef, undef, undef, undef, undef, undef, undef, undef, undef, undef, undef, undef, undef, undef, undef, undef, undef, undef, undef, undef, undef, undef, undef, undef, undef, undef, undef, undef, undef, undef, undef, undef, undef, undef, undef, undef, undef, undef, undef, undef, undef, undef, undef, undef, undef, undef, undef, undef, undef, undef, undef, undef, undef, undef, undef, undef, undef, undef, undef, undef, undef, undef, undef, undef, undef, undef, undef, undef, undef, undef, undef, undef, undef, undef, undef, undef, undef, undef, undef, undef, undef, undef], defers := [{ target := .collected D, args := #[] }] } X) := Lib.hid (by
    intro D X hD hF hK
    have hXD : D < X.heap.size := (Array.getElem?_eq_some_iff.1 hK).1
    refine hK1 _ _ ?_
    clear hK1 SO FA0
    have hx2 : w1.heap.size + 2 ≤ X.heap.size := hF.2.2.2.2.2.2.2
    have x5 := (Boxed.alloc hF.2.2.2.1 (.cells #[.int .i64 0] 3)).cell
    have HF := Lib.hid hF
    have HKD := Lib.hid hK
    clear hF hK
    gi_wp2_with (first
      | (refine ⟨trivial, ?_⟩; gi_at_call 21; refine (callsIn_wide.2 (pover_any _ _ _ _)).mono ?_; rintro e' w3 ⟨rfl, hw9⟩; obtain rfl := hw9.symm)
      | (refine ⟨trivial, ?_⟩; gi_at_call 23; refine (callsIn_wide.2 (pBack_any _ _)).mono ?_; rintro e' w2 ⟨rfl, rfl⟩)
      | fail)
    rename_i K2 hK2
    clear hw9 x5
    obtain ⟨V2, hV2⟩ : ∃ V2, V2 = (X.alloc (.cells #[.int .i64 0] 3)).alloc (.cells #[.pointer a] 28) := ⟨_, rfl⟩
    have hbV2 : Below X.heap.size X V2 := by rw [hV2]; exact ((Below.refl _ _).alloc (Nat.le_refl _) _).alloc (by simp) _
    have sV2 : V2.heap.size = X.heap.size + 2 := by rw [hV2]; simp
    have K4 := box2 X (.cells #[.int .i64 0] 3) (.cells #[.pointer a] 28)
    rw [← hV2] at K4 ⊢
    have FB0 : Fb w w1 X p n c s a D 0 V2 := ⟨HF.out.below hw3 hbV2, K4.1, (hbV2.block D hXD).trans HKD.out, KpC.of_below hbV2, by omega⟩
    have SO2 := back1_seq 4 X.heap.size (X.heap.size + 1) (X.heap.size + 1) (by omega) a (ofO l) X V2 (Nat.le_refl _) (by omega) (HTree.out.kp HF.out.2.2.2.2.2.2.1 (Nat.le_refl _)) HLv (by rw [HO]; omega) (KpC.of_below hbV2) (by omega) (cell_of K4.2)
    rw [HO] at SO2
    clear hV2 hbV2 K4
    have REST2 : Hid (∀ (D2 : Nat) (Y : World), V2.heap.size ≤ D2 → Fb w w1 X p n c s a D (told n s) Y → Y.heap[D2]? = some (.deferred (some [])) →
        K2 { tmps := #[.slice p n c, .int .u8 s, .pointer (some ⟨w.heap.size, 0, none⟩), .pointer (some ⟨w.heap.size + 1, 0, none⟩), .pointer (some ⟨w.heap.size + 1 + 1, 0, none⟩), .pointer (some ⟨w1.heap.size, 0, none⟩), .pointer (some ⟨w1.heap.size + 1, 0, none⟩), undef, undef, .pointer (some ⟨X.heap.size, 0, none⟩), undef, undef, undef, undef, undef, undef, .slice p n c, .int .i64 n, .bool false, undef, .slice p n c, .agg #[.pointer a], .agg #[.pointer a], .func (.func 55) #[] #[.pointer (some ⟨w1.heap.size + 1 + 1, 0, none⟩)], .func (.func 55) #[] #[.pointer (some ⟨w1.heap.size + 1 + 1, 0, none⟩)], undef, undef, undef, undef, undef, undef, undef, undef, undef, undef, undef, undef, undef, undef, undef, undef, undef, undef, undef, .agg #[.pointer a], .func (.func 57) #[] #[.pointer (some ⟨X.heap.size + 1, 0, none⟩)], .func (.func 57) #[] #[.pointer (some ⟨X.heap.size + 1, 0, none⟩)], undef, undef, undef, undef, undef, undef, undef, undef, undef, undef, undef, undef, undef, undef, undef, undef, undef, undef, undef, undef, undef, undef, undef, undef, undef, undef, undef, undef, undef, undef, undef, undef, undef, undef, undef, undef, undef, undef, undef, undef, undef, undef, undef, undef, undef, undef, undef, undef, undef, undef, undef, undef, undef, undef, undef, undef, undef, undef, undef, undef, undef, undef, undef, undef], defers := [{ target := .collected D2, args := #[] }, { target := .collected D, args := #[] }] } Y) := Lib.hid (by
      intro D2 Y hD2 hF hK
      refine hK2 _ _ ?_
      clear hK2 SO2 FB0
      have HF3 := Lib.hid hF
      have HK2 := Lib.hid hK
      have d2 := hF.1.1.cell
      have d3 := hF.1.2.1.cell
      have HAT : Hid (∀ (j : Nat) (y : Int) (W' : World), l[j]? = some y → Below Y.heap.size Y W' → Calls Try.prog 24 #[.agg #[.pointer a], .int .i64 j] W' (fun e w' => e = .returned (.tuple #[encI y, .bool true]) ∧ Hid (Below W'.heap.size W' w'))) := Lib.hid fun j y W' hy hb' => by
        have hO := On.kp hF.1.2.2.2.2.2.2.1 (Nat.le_refl _) HTree.out
        cases ht : ofO l with
        | none => rw [ht] at HO; rw [← HO] at hy; cases hy
        | some t =>
          rw [ht] at hO HO
          have HO' : t.list = l := HO
          exact pAtI_any a t j y W' (Nd.later hb' hO) (HLv t ht) (by rw [HO']; omega) (by rw [HO']; exact hy)
      have HFIN : Hid (∀ w7 : World, Below Y.heap.size Y w7 → (w7.setCell ⟨w.heap.size + 1 + 1, 0, none⟩ (.bool true)).heap[D2]? = some (.deferred (some [])) ∧ ((w7.setCell ⟨w.heap.size + 1 + 1, 0, none⟩ (.bool true)).putObj D2 (.deferred none)).heap[D]? = some (.deferred (some [])) ∧
          (((w7.setCell ⟨w.heap.size + 1 + 1, 0, none⟩ (.bool true)).putObj D2 (.deferred none)).putObj D (.deferred none)).cell? ⟨w.heap.size + 1 + 1, 0, none⟩ = some (.bool true) ∧ Below w.heap.size w (((w7.setCell ⟨w.heap.size + 1 + 1, 0, none⟩ (.bool true)).putObj D2 (.deferred none)).putObj D (.deferred none))) := Lib.hid fun w7 hb7 => by
        have g := grownBy_setCell' w7 (w.heap.size + 1 + 1) (.bool true)
        have k2 := (hb7.block D2 (Array.getElem?_eq_some_iff.1 HK2.out).1).trans HK2.out
        have k1 := (hb7.block D (Array.getElem?_eq_some_iff.1 HF3.out.2.2.1).1).trans HF3.out.2.2.1
        have b4 : Boxed w7 (w.heap.size + 1 + 1) 4 (.bool false) := (hb7.block _ HF3.out.1.2.2.1.lt).trans HF3.out.1.2.2.1
        have hbw := HF3.out.1.2.2.2.2.2.1
        have hww := hbw.trans (hb7.mono hbw.size)
        have k2' := (g.block D2 (Array.getElem?_eq_some_iff.1 k2).1 (fun e => by cases e; omega)).trans k2
        have k1' := (g.block D (Array.getElem?_eq_some_iff.1 k1).1 (fun e => by cases e; omega)).trans k1
        have hz1 := hww.grown g hww.size (fun k e => by cases e; omega)
        have hz2 := hz1.grown (grownBy_putObj' (w7.setCell ⟨w.heap.size + 1 + 1, 0, none⟩ (.bool true)) D2 (.deferred none)) hz1.size (fun k e => by cases e; omega)
        refine ⟨k2', (World.putObj_heap_other (by omega)).trans k1', ?_, hz2.grown (grownBy_putObj' _ D (.deferred none)) hz2.size (fun k e => by cases e; omega)⟩
        exact (((b4.set (.bool true)).kept (grownBy_putObj' _ D2 (.deferred none)) (fun e => by cases e; omega)).kept (grownBy_putObj' _ D (.deferred none)) (fun e => by cases e; omega)).cell
      obtain ⟨N, hN⟩ : ∃ N, N = told n s := ⟨_, rfl⟩
      have HNT := Lib.hid hN
      clear hF hK hN
      by_cases hs0 : s = 0
      · subst hs0
        have hNn : Hid (N = n) := Lib.hid (by rw [HNT.out, told, if_pos rfl])
        gi_wp2
        gi_loopw [80] (fun i wr => ∃ j : Nat, i = .int .i64 j ∧ j ≤ n ∧ Hid (Below Y.heap.size Y wr)) (fun i _ => n - (intOf i).toNat)
        case atStart => exact ⟨0, rfl, Nat.zero_le _, Lib.hid (Below.refl _ _)⟩
        case round =>
          obtain ⟨j, rfl, hjn, hbr⟩ := hrel
          have d2 := boxed_cell HF3.out.1.1 hbr.out
          by_cases hj : j < n
          · obtain ⟨y, hy⟩ : ∃ y, l[j]? = some y := ⟨_, List.getElem?_eq_getElem (by rw [← HN.out]; exact hj)⟩
            have C := Lib.hid (HAT.out j y wr hy hbr.out)
            obtain ⟨b, o, hp, hbw, hcw⟩ := HQ.out j y hy
            have hBwY := HF3.out.1.2.2.2.2.2.1
            have cy := Lib.hid (((hBwY.trans (hbr.out.mono hBwY.size)).cell (p := ⟨b, o + j, none⟩) hbw).trans hcw)
            have hBR := Lib.hid (hBwY.trans (hbr.out.mono hBwY.size))
            have d5 := boxed_cell HF3.out.1.2.2.2.1 hbr.out
            have hji : (j : Int) < (n : Int) := by omega
            have hj0 : (0 : Int) ≤ (j : Int) := by omega
            have hwj : IntKind.i64.wrap ((j : Int) + 1) = (j : Int) + 1 := IntWalk.i64_in _ (by omega)
            have HLT : Hid (w.heap.size < wr.heap.size ∧ b < wr.heap.size) := Lib.hid (by have := hBwY.size; have := hbr.out.size; have := HF3.out.1.1.lt; omega)
            clear hy
            subst hp
            gi_wp2_with (first
              | (refine ⟨trivial, ?_⟩; gi_at_call 24; refine (callsIn_wide.2 C.out).mono ?_; rintro e' w6 ⟨rfl, hb6⟩; have e2 := (hb6.out.cell (p := ⟨w.heap.size, 0, none⟩) HLT.out.1).trans d2; have ey := (hb6.out.cell (p := ⟨b, o + j, none⟩) HLT.out.2).trans cy.out)
              | fail)
            go_roundw
            case rel => exact ⟨j + 1, by go_num, by omega, Lib.hid (hbr.out.trans (hb6.out.mono hbr.out.size))⟩
            case measure => simp [intOf]; omega
          · obtain rfl : j = n := by omega
            have dY := HF3.out
            have d6 := boxed_cell dY.1.2.2.2.2.1 hbr.out
            have d9 := boxed_cell dY.2.1 hbr.out
            have b4 := (hbr.out.block _ dY.1.2.2.1.lt).trans dY.1.2.2.1
            have B4 : Hid (Boxed wr (w.heap.size + 1 + 1) 4 (.bool false)) := Lib.hid b4
            have hNi : Hid ((N : Int) = (j : Int)) := Lib.hid (by rw [hNn.out])
            have CA := Lib.hid (awake_any wr)
            rw [← HNT.out, hNn.out] at d6 d9
            clear dY b4 HAT d2 d3
            gi_wp2_with (first
              | (refine ⟨trivial, ?_⟩; gi_at_call 11; refine (callsIn_wide.2 CA.out).mono ?_; rintro e' w7 ⟨rfl, hb7⟩; have z4 := boxed_cell B4.out hb7.out; have B7 : Boxed w7 (w.heap.size + 1 + 1) 4 (.bool false) := (hb7.out.block _ B4.out.lt).trans B4.out; have f7 := B7.frozen; have HB7 := Lib.hid B7; clear B7)
              | fail)
            have HZ := HFIN.out w7 (hbr.out.trans (hb7.out.mono hbr.out.size))
            have hc5 := HZ.2.2.1
            refine ⟨by simp, .inl ⟨_, _, rfl, run_takeDeferred HZ.1, ⟨by simp, .inl ⟨_, _, rfl, run_takeDeferred HZ.2.1, ?_⟩⟩⟩⟩
            exact ⟨.bool true, by simp [results, Try.f5, go_sem, hc5], rfl, HZ.2.2.2⟩

      · have hs1 : (0 : Int) < (s : Int) := by omega
        have hs2 : 0 < s := by omega
        have hws : IntKind.i64.wrap (s : Int) = (s : Int) := IntWalk.i64_in _ (by omega)
        have hmin : min (n : Int) (s : Int) = (N : Int) := by rw [HNT.out, told, if_neg hs0]; omega
        gi_wp2
        try simp only [hmin]
        clear hmin
        gi_loopw [80] (fun i wr => ∃ j : Nat, i = .int .i64 j ∧ j ≤ n ∧ Hid (Below Y.heap.size Y wr)) (fun i _ => n - (intOf i).toNat)
        case atStart => exact ⟨0, rfl, Nat.zero_le _, Lib.hid (Below.refl _ _)⟩
        case round =>
          obtain ⟨j, rfl, hjn, hbr⟩ := hrel
          have d2 := boxed_cell HF3.out.1.1 hbr.out
          by_cases hj : j < n
          · obtain ⟨y, hy⟩ : ∃ y, l[j]? = some y := ⟨_, List.getElem?_eq_getElem (by rw [← HN.out]; exact hj)⟩
            have C := Lib.hid (HAT.out j y wr hy hbr.out)
            obtain ⟨b, o, hp, hbw, hcw⟩ := HQ.out j y hy
            have hBwY := HF3.out.1.2.2.2.2.2.1
            have cy := Lib.hid (((hBwY.trans (hbr.out.mono hBwY.size)).cell (p := ⟨b, o + j, none⟩) hbw).trans hcw)
            have hBR := Lib.hid (hBwY.trans (hbr.out.mono hBwY.size))
            have d5 := boxed_cell HF3.out.1.2.2.2.1 hbr.out
            have hji : (j : Int) < (n : Int) := by omega
            have hj0 : (0 : Int) ≤ (j : Int) := by omega
            have hwj : IntKind.i64.wrap ((j : Int) + 1) = (j : Int) + 1 := IntWalk.i64_in _ (by omega)
            have HLT : Hid (w.heap.size < wr.heap.size ∧ b < wr.heap.size) := Lib.hid (by have := hBwY.size; have := hbr.out.size; have := HF3.out.1.1.lt; omega)
            clear hy
            subst hp
            gi_wp2_with (first
              | (refine ⟨trivial, ?_⟩; gi_at_call 24; refine (callsIn_wide.2 C.out).mono ?_; rintro e' w6 ⟨rfl, hb6⟩; have e2 := (hb6.out.cell (p := ⟨w.heap.size, 0, none⟩) HLT.out.1).trans d2; have ey := (hb6.out.cell (p := ⟨b, o + j, none⟩) HLT.out.2).trans cy.out)
              | fail)
            go_roundw
            case rel => exact ⟨j + 1, by go_num, by omega, Lib.hid (hbr.out.trans (hb6.out.mono hbr.out.size))⟩
            case measure => simp [intOf]; omega
          · obtain rfl : j = n := by omega
            have dY := HF3.out
            have d6 := boxed_cell dY.1.2.2.2.2.1 hbr.out
            have d9 := boxed_cell dY.2.1 hbr.out
            have b4 := (hbr.out.block _ dY.1.2.2.1.lt).trans dY.1.2.2.1
            have B4 : Hid (Boxed wr (w.heap.size + 1 + 1) 4 (.bool false)) := Lib.hid b4
            have CA := Lib.hid (awake_any wr)
            rw [← HNT.out] at d6 d9
            clear dY b4 HAT d2 d3
            gi_wp2_with (first
              | (refine ⟨trivial, ?_⟩; gi_at_call 11; refine (callsIn_wide.2 CA.out).mono ?_; rintro e' w7 ⟨rfl, hb7⟩; have z4 := boxed_cell B4.out hb7.out; have B7 : Boxed w7 (w.heap.size + 1 + 1) 4 (.bool false) := (hb7.out.block _ B4.out.lt).trans B4.out; have f7 := B7.frozen; have HB7 := Lib.hid B7; clear B7)
              | fail)
            have HZ := HFIN.out w7 (hbr.out.trans (hb7.out.mono hbr.out.size))
            have hc5 := HZ.2.2.1
            refine ⟨by simp, .inl ⟨_, _, rfl, run_takeDeferred HZ.1, ⟨by simp, .inl ⟨_, _, rfl, run_takeDeferred HZ.2.1, ?_⟩⟩⟩⟩
            exact ⟨.bool true, by simp [results, Try.f5, go_sem, hc5], rfl, HZ.2.2.2⟩)
    clear hK2
    refine range_own (n := 5) rfl rfl (by omega) (gf := 57) (lb := #[.pointer (some ⟨X.heap.size + 1, 0, none⟩)]) rfl trivial (enters_of Try.func57 (by kernel_rfl) rfl) SO2 (fun _ => rfl)
      (fun q Y => Fb w w1 X p n c s a D q.length Y ∧ (s = 0 ∨ q.length < s))
      (fun cd q Y => (cd = .ret ∧ ¬ (q <+: l.zipIdx.reverse)) ∨ (cd = .exit 2 ∧ Fb w w1 X p n c s a D q.length Y ∧ q.length = s ∧ 0 < s))
      (fun q A C row hs hg hr => ⟨hs.1.grown hw3 hx2 hXD hg (fun r e => by have := hr r e; omega), hs.2⟩)
      (fun cd q A C row hs hg hr => hs.imp id (fun h => ⟨h.1, h.2.1.grown hw3 hx2 hXD hg (fun r e => by have := hr r e; omega), h.2.2⟩))
      ⟨FB0, by show s = 0 ∨ 0 < s; omega⟩
      (fun x => { tmps := #[.slice p n c, .int .u8 s, .pointer (some ⟨w.heap.size, 0, none⟩), .pointer (some ⟨w.heap.size + 1, 0, none⟩), .pointer (some ⟨w.heap.size + 1 + 1, 0, none⟩), .pointer (some ⟨w1.heap.size, 0, none⟩), .pointer (some ⟨w1.heap.size + 1, 0, none⟩), undef, undef, .pointer (some ⟨X.heap.size, 0, none⟩), .int .i64 x.2, encI x.1, undef, undef, undef, undef, .slice p n c, .int .i64 n, .bool false, undef, .slice p n c, .agg #[.pointer a], .agg #[.pointer a], .func (.func 55) #[] #[.pointer (some ⟨w1.heap.size + 1 + 1, 0, none⟩)], .func (.func 55) #[] #[.pointer (some ⟨w1.heap.size + 1 + 1, 0, none⟩)], undef, undef, undef, undef, undef, undef, undef, undef, undef, undef, undef, undef, undef, undef, undef, undef, undef, undef, undef, .agg #[.pointer a], .func (.func 57) #[] #[.pointer (some ⟨X.heap.size + 1, 0, none⟩)], .func (.func 57) #[] #[.pointer (some ⟨X.heap.size + 1, 0, none⟩)], .int .i64 x.2, encI x.1, undef, undef, undef, undef, undef, undef, undef, undef, undef, undef, undef, undef, undef, undef, undef, undef, undef, undef, undef, undef, undef, undef, undef, undef, undef, undef, undef, undef, undef, undef, undef, undef, undef, undef, undef, undef, undef, undef, undef, undef, undef, undef, undef, undef, undef, undef, undef, undef, undef, undef, undef, undef, undef, undef, undef, undef, undef, undef, undef, undef, undef, undef], defers := [] })
      ?assign2 ?body2 ?done2 ?stop2
    case assign2 =>
      intro l' m' x X K hK
      dsimp only
      gi_wp2
      exact hK
    case body2 =>
      rintro l' m' q ⟨x, i⟩ Y ⟨hF, hs0⟩ hlt
      have hlt' : q.length < l.length := hlt
      obtain ⟨y, hy⟩ : ∃ y, l[l.length - 1 - q.length]? = some y := ⟨_, List.getElem?_eq_getElem (by omega)⟩
      have HF2 := Lib.hid hF
      obtain ⟨⟨hB2, hB3, hB4, hB5, hB6, hBw, hKX, hSX⟩, hB9, hDD, hKY, hSY⟩ := hF
      obtain ⟨b, o, hp, hbw, hcw⟩ := HQ.out _ y hy
      have cy := (hBw.cell (p := ⟨b, o + (l.length - 1 - q.length), none⟩) hbw).trans hcw
      have d2 := hB2.cell
      have d3 := hB3.cell
      have f4 := hB4.frozen
      have d4 := hB4.cell
      have d9 := hB9.cell
      have f9 := hB9.frozen
      have hLq : Hid (∀ z, q ++ [z] <+: l.zipIdx.reverse → z = (y, l.length - 1 - q.length)) := Lib.hid fun z hz => by
        obtain ⟨r, hr⟩ := hz
        have h1 : l.zipIdx.reverse[q.length]? = some z := by rw [← hr]; simp
        rw [List.getElem?_reverse (by simpa using hlt'), List.getElem?_zipIdx, List.length_zipIdx, hy] at h1
        simpa using h1.symm
      have HQL : Hid ((q ++ [(x, i)]).length = q.length + 1) := Lib.hid (by simp)
      obtain ⟨k, hk⟩ : ∃ k, k = q.length := ⟨_, rfl⟩
      have hkn : k < n := by rw [hk, HN.out]; exact hlt'
      obtain ⟨j, hj⟩ : ∃ j, j = n - 1 - k := ⟨_, rfl⟩
      have hjj : l.length - 1 - q.length = j := by rw [hj, HN.out, hk]
      rw [hjj] at cy hLq
      rw [← hk] at d9 hs0 HF2 HQL
      have hjn : (n : Int) - 1 - (k : Int) = (j : Int) := by omega
      have hj0 : (0 : Int) ≤ (j : Int) := by omega
      have hjn2 : (j : Int) < (n : Int) := by omega
      have hw1 : IntKind.i64.wrap ((n : Int) - 1) = (n : Int) - 1 := IntWalk.i64_in _ (by omega)
      have hw2 : IntKind.i64.wrap ((n : Int) - 1 - (k : Int)) = (j : Int) := by rw [hjn]; exact IntWalk.i64_in _ (by omega)
      have hws : IntKind.i64.wrap (s : Int) = (s : Int) := IntWalk.i64_in _ (by omega)
      have hwk : IntKind.i64.wrap ((k : Int) + 1) = (k : Int) + 1 := IntWalk.i64_in _ (by omega)
      clear hB2 hB3 hB4 hB5 hB6 hBw hKX hB9 hDD hKY hy hlt hlt' hcw hbw hk hj hjj
      subst hp
      have g4 := grownBy_setCell' Y (w.heap.size + 1 + 1) (.bool false)
      have g9 := grownBy_setCell' Y X.heap.size (.int .i64 ((k + 1 : Nat) : Int))
      have HG4 : Hid (KeepsFrom (X.heap.size + 2) Y (Y.setCell ⟨w.heap.size + 1 + 1, 0, none⟩ (.bool false)) ∧ KpC 0 (X.heap.size + 1) Y (Y.setCell ⟨w.heap.size + 1 + 1, 0, none⟩ (.bool false))) := Lib.hid ⟨KeepsFrom.of_grownBy g4 (fun j e => by cases e; omega), KpC.setOwn Y _ (Nat.zero_le _) (by omega)⟩
      have HG9 : Hid (KeepsFrom (X.heap.size + 2) Y (Y.setCell ⟨X.heap.size, 0, none⟩ (.int .i64 ((k : Int) + 1))) ∧ KpC X.heap.size (X.heap.size + 1) Y (Y.setCell ⟨X.heap.size, 0, none⟩ (.int .i64 ((k : Int) + 1))) ∧ Fb w w1 X (some ⟨b, o, none⟩) n c s a D (k + 1) (Y.setCell ⟨X.heap.size, 0, none⟩ (.int .i64 ((k : Int) + 1)))) := Lib.hid ⟨KeepsFrom.of_grownBy g9 (fun j e => by cases e; omega), KpC.setOwn Y _ (by omega) (by omega), HF2.out.setN (k + 1) hw3 hx2 hXD⟩
      have e9 : (Y.setCell ⟨X.heap.size, 0, none⟩ (.int .i64 ((k : Int) + 1))).cell? ⟨w.heap.size + 1, 0, none⟩ = some (.int .u8 s) := HG9.out.2.2.1.2.1.cell
      clear g4 g9
      by_cases hi : i = j
      · subst hi
        by_cases hxy : x = y
        · subst hxy
          by_cases hst : k + 1 = s
          · have hsti : (k : Int) + 1 = (s : Int) := by omega
            have HST := Lib.hid hst
            clear hst
            dsimp only
            gi_wp2
            have HG := HG9.out
            rw [hsti] at HG
            exact ⟨HG.1, HG.2.1.zero, .inr ⟨rfl, by rw [HQL.out]; exact HG.2.2, by rw [HQL.out]; exact HST.out, by have := HST.out; omega⟩⟩
          · have hsti : ¬ (k : Int) + 1 = (s : Int) := by omega
            have HST := Lib.hid hst
            clear hst
            dsimp only
            gi_wp2
            refine ⟨HG9.out.1, HG9.out.2.1, ?_, ?_⟩
            · rw [HQL.out]; exact HG9.out.2.2
            · rw [HQL.out]; have := HST.out; omega
        · dsimp only
          gi_wp2
          exact ⟨HG4.out.1, HG4.out.2, .inl ⟨rfl, fun h => hxy (by have := hLq.out _ h; exact (Prod.mk.inj this).1)⟩⟩
      · have hik : ¬ (i : Int) = (j : Int) := by omega
        dsimp only
        gi_wp2
        exact ⟨HG4.out.1, HG4.out.2, .inl ⟨rfl, fun h => hi (by have := hLq.out _ h; exact (Prod.mk.inj this).2)⟩⟩
    case done2 =>
      rintro D2 xs Y hD2 rfl ⟨hF, hs0⟩ hK
      have hlen : l.zipIdx.reverse.length = n := by rw [List.length_reverse, List.length_zipIdx, HN.out]
      rw [hlen] at hF hs0
      have ht : told n s = n := by unfold told; split <;> omega
      have hF' : Fb w w1 X p n c s a D (told n s) Y := by rw [ht]; exact hF
      have R := REST2.out D2 Y hD2 hF' hK
      clear hF hF' hs0 hlen ht
      gi_wp2
      exact R
    case stop2 =>
      rintro D2 cd q Y hD2 hq (⟨rfl, h⟩ | ⟨rfl, hF, hqs, hs0⟩) hK
      · exact absurd hq h
      · have hlen : q.length ≤ n := by have := hq.length_le; rw [List.length_reverse, List.length_zipIdx] at this; rw [HN.out]; exact this
        have ht : told n s = q.length := by unfold told; split <;> omega
        have hF' : Fb w w1 X p n c s a D (told n s) Y := by rw [ht]; exact hF
        have R := REST2.out D2 Y hD2 hF' hK
        clear hF hF' hqs hs0 hlen ht hq
        gi_wp2
        exact R)
  clear hK1
  refine range_own (n := 5) rfl rfl (by omega) (gf := 55) (lb := #[.pointer (some ⟨w1.heap.size + 1 + 1, 0, none⟩)]) rfl trivial (enters_of Try.func55 (by kernel_rfl) rfl) SO (fun _ => rfl)
    (fun q X => Fa w w1 p n c s a q.length X ∧ (s = 0 ∨ q.length < s))
    (fun cd q X => (cd = .ret ∧ ¬ (q <+: l.zipIdx)) ∨ (cd = .exit 0 ∧ Fa w w1 p n c s a q.length X ∧ q.length = s ∧ 0 < s))
    (fun q A C row hs hg hr => ⟨hs.1.grown hw3 hg (fun r e => by have := hr r e; omega), hs.2⟩)
    (fun cd q A C row hs hg hr => hs.imp id (fun h => ⟨h.1, h.2.1.grown hw3 hg (fun r e => by have := hr r e; omega), h.2.2⟩))
    ⟨FA0, by show s = 0 ∨ 0 < s; omega⟩
    (fun x => { tmps := #[.slice p n c, .int .u8 s, .pointer (some ⟨w.heap.size, 0, none⟩), .pointer (some ⟨w.heap.size + 1, 0, none⟩), .pointer (some ⟨w.heap.size + 1 + 1, 0, none⟩), .pointer (some ⟨w1.heap.size, 0, none⟩), .pointer (some ⟨w1.heap.size + 1, 0, none⟩), .int .i64 x.2, encI x.1, undef, undef, undef, undef, undef, undef, undef, .slice p n c, .int .i64 n, .bool false, undef, .slice p n c, .agg #[.pointer a], .agg #[.pointer a], .func (.func 55) #[] #[.pointer (some ⟨w1.heap.size + 1 + 1, 0, none⟩)], .func (.func 55) #[] #[.pointer (some ⟨w1.heap.size + 1 + 1, 0, none⟩)], .int .i64 x.2, encI x.1, undef, undef, undef, undef, undef, undef, undef, undef, undef, undef, undef, undef, undef, undef, undef, undef, undef, undef, undef, undef, undef, undef, undef, undef, undef, undef, undef, undef, undef, undef, undef, undef, undef, undef, undef, undef, undef, undef, undef, undef, undef, undef, undef, undef, undef, undef, undef, undef, undef, undef, undef, undef, undef, undef, undef, undef, undef, undef, undef, undef, undef, undef, undef, undef, undef, undef, undef, undef, undef, undef, undef, undef, undef, undef, undef, undef, undef, undef, undef, undef, undef, undef, undef, undef], defers := [] })
    ?assign ?body ?done ?stop
  case assign =>
    intro l' m' x X K hK
    dsimp only
    gi_wp2
    exact hK
  case body =>
    rintro l' m' q ⟨x, i⟩ X ⟨hF, hs0⟩ hlt
    obtain ⟨y, hy⟩ : ∃ y, l[q.length]? = some y := ⟨_, List.getElem?_eq_getElem hlt⟩
    obtain ⟨hB2, hB3, hB4, hB5, hB6, hBw, hKX, hSX⟩ := hF
    obtain ⟨b, o, hp, hbw, hcw⟩ := HQ.out _ y hy
    have cy := (hBw.cell (p := ⟨b, o + q.length, none⟩) hbw).trans hcw
    have HF : Hid (Fa w w1 p n c s a q.length X) := Lib.hid ⟨hB2, hB3, hB4, hB5, hB6, hBw, hKX, hSX⟩
    have d2 := hB2.cell
    have d3 := hB3.cell
    have f4 := hB4.frozen
    have d4 := hB4.cell
    have d6 := hB6.cell
    have f6 := hB6.frozen
    have HB4 := Lib.hid hB4
    have hLq : Hid (∀ z, q ++ [z] <+: l.zipIdx → z = (y, q.length)) := Lib.hid fun z hz => by
      obtain ⟨r, hr⟩ := hz
      have h1 : l.zipIdx[q.length]? = some z := by rw [← hr]; simp
      rw [List.getElem?_zipIdx, hy] at h1
      simpa using h1.symm
    have hkn : q.length < n := by rw [HN.out]; exact hlt
    have HQL : Hid ((q ++ [(x, i)]).length = q.length + 1) := Lib.hid (by simp)
    obtain ⟨k, hk⟩ : ∃ k, k = q.length := ⟨_, rfl⟩
    rw [← hk] at d6 cy hs0 HF hLq hkn HQL
    clear hB2 hB3 hB4 hB5 hB6 hBw hKX hy hlt hcw hbw hk
    subst hp
    have hws : IntKind.i64.wrap (s : Int) = (s : Int) := IntWalk.i64_in _ (by omega)
    have hwk : IntKind.i64.wrap ((k : Int) + 1) = (k : Int) + 1 := IntWalk.i64_in _ (by omega)
    have hki : (k : Int) < (n : Int) := by omega
    have hk0 : (0 : Int) ≤ (k : Int) := by omega
    have g4 := grownBy_setCell' X (w.heap.size + 1 + 1) (.bool false)
    have g6 := grownBy_setCell' X (w1.heap.size + 1) (.int .i64 ((k + 1 : Nat) : Int))
    have HG4 : Hid (KeepsFrom (w1.heap.size + 3) X (X.setCell ⟨w.heap.size + 1 + 1, 0, none⟩ (.bool false)) ∧ KpC 0 (w1.heap.size + 2) X (X.setCell ⟨w.heap.size + 1 + 1, 0, none⟩ (.bool false))) := Lib.hid ⟨KeepsFrom.of_grownBy g4 (fun j e => by cases e; omega), KpC.setOwn X _ (Nat.zero_le _) (by omega)⟩
    have HG6 : Hid (KeepsFrom (w1.heap.size + 3) X (X.setCell ⟨w1.heap.size + 1, 0, none⟩ (.int .i64 ((k : Int) + 1))) ∧ KpC w1.heap.size (w1.heap.size + 2) X (X.setCell ⟨w1.heap.size + 1, 0, none⟩ (.int .i64 ((k : Int) + 1))) ∧ Fa w w1 (some ⟨b, o, none⟩) n c s a (k + 1) (X.setCell ⟨w1.heap.size + 1, 0, none⟩ (.int .i64 ((k : Int) + 1)))) := Lib.hid ⟨KeepsFrom.of_grownBy g6 (fun j e => by cases e; omega), KpC.setOwn X _ (by omega) (by omega), HF.out.setN (k + 1) hw3⟩
    have e6 : (X.setCell ⟨w1.heap.size + 1, 0, none⟩ (.int .i64 ((k : Int) + 1))).cell? ⟨w.heap.size + 1, 0, none⟩ = some (.int .u8 s) := HG6.out.2.2.2.1.cell
    clear g4 g6
    by_cases hi : i = k
    · subst hi
      by_cases hxy : x = y
      · subst hxy
        by_cases hst : i + 1 = s
        · have hsti : (i : Int) + 1 = (s : Int) := by omega
          have HST := Lib.hid hst
          clear hst
          dsimp only
          gi_wp2
          have HG := HG6.out
          rw [hsti] at HG
          exact ⟨HG.1, HG.2.1.zero, .inr ⟨rfl, by rw [HQL.out]; exact HG.2.2, by rw [HQL.out]; exact HST.out, by have := HST.out; omega⟩⟩
        · have hsti : ¬ (i : Int) + 1 = (s : Int) := by omega
          have HST := Lib.hid hst
          clear hst
          dsimp only
          gi_wp2
          refine ⟨HG6.out.1, HG6.out.2.1, ?_, ?_⟩
          · rw [HQL.out]; exact HG6.out.2.2
          · rw [HQL.out]; have := HST.out; omega
      · dsimp only
        gi_wp2
        exact ⟨HG4.out.1, HG4.out.2, .inl ⟨rfl, fun h => hxy (by have := hLq.out _ h; exact (Prod.mk.inj this).1)⟩⟩
    · have hik : ¬ (i : Int) = (k : Int) := by omega
      dsimp only
      gi_wp2
      exact ⟨HG4.out.1, HG4.out.2, .inl ⟨rfl, fun h => hi (by have := hLq.out _ h; exact (Prod.mk.inj this).2)⟩⟩
  case done =>
    rintro D xs X hD rfl ⟨hF, hs0⟩ hK
    have hlen : l.zipIdx.length = n := by rw [List.length_zipIdx, HN.out]
    rw [hlen] at hF hs0
    have ht : told n s = n := by unfold told; split <;> omega
    have hF' : Fa w w1 p n c s a (told n s) X := by rw [ht]; exact hF
    have R := REST1.out D X hD hF' hK
    clear hF hF' hs0 hlen ht
    gi_wp2
    exact R
  case stop =>
    rintro D cd q X hD hq (⟨rfl, h⟩ | ⟨rfl, hF, hqs, hs0⟩) hK
    · exact absurd hq h
    · have hlen : q.length ≤ n := by have := hq.length_le; rw [List.length_zipIdx] at this; rw [HN.out]; exact this
      have ht : told n s = q.length := by unfold told; split <;> omega
      have hF' : Fa w w1 p n c s a (told n s) X := by rw [ht]; exact hF
      have R := REST1.out D X hD hF' hK
      clear hF hF' hqs hs0 hlen ht hq
      gi_wp2
      exact R
end Go.Proofs.Ytkocbnicbadniaa
