/- RopeParts: the law. -/
import Derived.Test.YtamcobncfbjdmaaRTI
import Derived.Deep.RegionHeld3
namespace Go.Proofs.Ytamcobncfbjdmaa
open Go.RowKit Go.Shelf Go.BigFrame
attribute [local go_sem] Oper.semAt_some

/-- what stays within the long region: three boxes. -/
theorem keep3 {W4 : World} {b1 b2 b3 : Nat} {v1 v2 v3 : Value} {w1 w2 : World} (hb : Below w1.heap.size w1 w2) (h : w1.cell? ⟨b1, 0, none⟩ = some v1 ∧ w1.cell? ⟨b2, 0, none⟩ = some v2 ∧ w1.cell? ⟨b3, 0, none⟩ = some v3 ∧ Hid ((b1 < W4.heap.size ∧ b2 < W4.heap.size ∧ b3 < W4.heap.size) ∧ Below W4.heap.size W4 w1)) :
    w2.cell? ⟨b1, 0, none⟩ = some v1 ∧ w2.cell? ⟨b2, 0, none⟩ = some v2 ∧ w2.cell? ⟨b3, 0, none⟩ = some v3 ∧ Hid ((b1 < W4.heap.size ∧ b2 < W4.heap.size ∧ b3 < W4.heap.size) ∧ Below W4.heap.size W4 w2) := by
  obtain ⟨h1, h2, h3, h4⟩ := h
  obtain ⟨⟨l1, l2, l3⟩, h5⟩ := h4.out
  have hs := h5.size
  exact ⟨(hb.cell (p := ⟨b1, 0, none⟩) (by show b1 < w1.heap.size; omega)).trans h1, (hb.cell (p := ⟨b2, 0, none⟩) (by show b2 < w1.heap.size; omega)).trans h2, (hb.cell (p := ⟨b3, 0, none⟩) (by show b3 < w1.heap.size; omega)).trans h3, Lib.hid ⟨⟨l1, l2, l3⟩, h5.trans (hb.mono hs)⟩⟩
theorem below3 {W4 : World} {b1 b2 b3 : Nat} {v1 v2 v3 : Value} {w1 : World} (h : w1.cell? ⟨b1, 0, none⟩ = some v1 ∧ w1.cell? ⟨b2, 0, none⟩ = some v2 ∧ w1.cell? ⟨b3, 0, none⟩ = some v3 ∧ Hid ((b1 < W4.heap.size ∧ b2 < W4.heap.size ∧ b3 < W4.heap.size) ∧ Below W4.heap.size W4 w1)) : Below W4.heap.size W4 w1 := h.2.2.2.out.2
/-- Of of a list that is an argument. -/
theorem ofArg_any (p : Option Addr) (n c : Nat) (l : List Int) (w : World) (hn : n = l.length) (hq : SqL w p l) (hc : n ≤ c) (hl : n ≤ 1000000) :
    Calls Try.prog 12 #[.slice p n c] w (fun r w' => ∃ a, r = .returned (.agg #[.pointer a]) ∧ Hid (Holds w' a l) ∧ Hid (Below w.heap.size w w')) := by
  subst hn
  refine (pOfI_any _ l w (hq.sq hc) hl).mono ?_
  rintro r w' ⟨a, rfl, h1, h2⟩
  refine ⟨a, rfl, Lib.hid ⟨ofO l, h1.out, fun t e => ?_, ofO_list l⟩, h2⟩
  unfold ofO at e
  split at e
  · cases e
  · next h => cases e; exact bld_lv _ _ (Nat.le_refl _) (by cases l with | nil => exact absurd rfl h | cons => simp)

set_option maxRecDepth 100000 in
set_option maxHeartbeats 12800000 in
theorem partsShort_any (p pm : Option Addr) (c cm n m : Nat) (l k : List Int) (f t : Int) (w : World) (hn : n = l.length) (hm : m = k.length) (hq : SqL w p l) (hqm : SqL w pm k) (hz : p = none → c = 0) (hzm : pm = none → cm = 0) (hc : n ≤ c) (hcm : m ≤ cm) (hl : n ≤ 500) (hk : m ≤ 500) :
    Calls Try.prog 4 #[.slice p n c, .slice pm m cm, .int .i64 f, .int .i64 t] w (fun r w' => r = .returned (.bool true) ∧ Hid (Below w.heap.size w w')) := by
  obtain ⟨F, hF⟩ : ∃ F : Nat, min (max f 0) (n : Int) = F := ⟨(min (max f 0) (n : Int)).toNat, by omega⟩
  obtain ⟨T0, hT0⟩ : ∃ T0 : Nat, min (max t 0) (n : Int) = T0 := ⟨(min (max t 0) (n : Int)).toNat, by omega⟩
  obtain ⟨T, hT⟩ : ∃ T : Nat, max T0 F = T := ⟨_, rfl⟩
  obtain ⟨F', hF'⟩ : ∃ F', max f 0 = F' := ⟨_, rfl⟩
  obtain ⟨T', hT'⟩ : ∃ T', max F' t = T' := ⟨_, rfl⟩
  have PE := parts_eq (l := l) hF' hT' (by rw [← hn]; exact hF) (by rw [← hn]; exact hT0) hT
  have e2 : l.take f.toNat = l.take F := take_of_min (by rw [← hn]; omega)
  have e3 : l.drop f.toNat = l.drop F := drop_of_min (by rw [← hn]; omega)
  obtain ⟨X1, hX1⟩ : ∃ X, X = (l.take T).drop F := ⟨_, rfl⟩
  obtain ⟨X2, hX2⟩ : ∃ X, X = l.take F := ⟨_, rfl⟩
  obtain ⟨X3, hX3⟩ : ∃ X, X = l.drop F := ⟨_, rfl⟩
  obtain ⟨X4, hX4⟩ : ∃ X, X = l.take F ++ k ++ l.drop T := ⟨_, rfl⟩
  obtain ⟨N1, hN1⟩ : ∃ N, N = X1.length := ⟨_, rfl⟩
  obtain ⟨N2, hN2⟩ : ∃ N, N = X2.length := ⟨_, rfl⟩
  obtain ⟨N3, hN3⟩ : ∃ N, N = X3.length := ⟨_, rfl⟩
  obtain ⟨N4, hN4⟩ : ∃ N, N = X4.length := ⟨_, rfl⟩
  have b1 : N1 ≤ 500 := by rw [hN1, hX1, List.length_drop, List.length_take]; omega
  have b2 : N2 ≤ 500 := by rw [hN2, hX2, List.length_take]; omega
  have b3 : N3 ≤ 500 := by rw [hN3, hX3, List.length_drop]; omega
  have b4 : N4 ≤ 1500 := by rw [hN4, hX4, List.length_append, List.length_append, List.length_drop, List.length_take]; omega
  have HQ := Lib.hid hq
  have HQM := Lib.hid hqm
  have C1 := Lib.hid (ofArg_any p n c l w hn hq hc (by omega))
  have C2 : Hid (∀ w', Below w.heap.size w w' → Calls Try.prog 12 #[.slice pm m cm] w' (fun r w'' => ∃ a, r = .returned (.agg #[.pointer a]) ∧ Hid (Holds w'' a k) ∧ Hid (Below w'.heap.size w' w''))) := Lib.hid fun w' h => ofArg_any pm m cm k w' hm (hqm.later h) hcm (by omega)
  have CS : Hid (∀ a w', Holds w' a l → Calls Try.prog 16 #[.agg #[.pointer a], .int .i64 f] w' (fun r w'' => ∃ a1 a2, r = .returned (.tuple #[.agg #[.pointer a1], .agg #[.pointer a2]]) ∧ Hid (Holds w'' a1 X2) ∧ Hid (Holds w'' a2 X3) ∧ Hid (Below w'.heap.size w' w''))) := Lib.hid fun a w' h => by
    have := pSplitI_any a l f w' h (by omega)
    rwa [e2, e3, ← hX2, ← hX3] at this
  have CP : Hid (∀ a w', Holds w' a l → Calls Try.prog 17 #[.agg #[.pointer a], .int .i64 f, .int .i64 t] w' (fun r w'' => ∃ c, r = .returned (.agg #[.pointer c]) ∧ Hid (Holds w'' c X1) ∧ Hid (Below w'.heap.size w' w''))) := Lib.hid fun a w' h => by
    have := pPartI_any a l f t F' T' w' h (by omega) hF' hT'
    rwa [PE.2.1, ← hX1] at this
  have CR : Hid (∀ a b w', Holds w' a l → Holds w' b k → Calls Try.prog 19 #[.agg #[.pointer a], .int .i64 f, .int .i64 t, .agg #[.pointer b]] w' (fun r w'' => ∃ c, r = .returned (.agg #[.pointer c]) ∧ Hid (Holds w'' c X4) ∧ Hid (Below w'.heap.size w' w''))) := Lib.hid fun a b w' h h2 => by
    have := pReplaceI_any a b l k f t F' T' w' h h2 (by omega) (by omega) hF' hT'
    rwa [PE.1, PE.2.2, ← hX4] at this
  have R1 : Hid (∀ w', Below w.heap.size w w' → Calls Try.prog 18 #[.slice p n c, .int .i64 f, .int .i64 t] w' (OutN X1 N1 w')) := Lib.hid fun w' h => by
    have := refPart_any p c n F T0 T f t l w' (hq.later h) hz hc hn hF hT0 hT (by omega)
    rw [← hX1] at this
    exact this.mono fun r w'' hr => hr.n hN1
  have R2 : Hid (∀ w', Below w.heap.size w w' → Calls Try.prog 18 #[.slice p n c, .int .i64 0, .int .i64 f] w' (OutN X2 N2 w')) := Lib.hid fun w' h => by
    have := refPart_any p c n 0 F F 0 f l w' (hq.later h) hz hc hn (by omega) hF (by omega) (by omega)
    rw [List.drop_zero, ← hX2] at this
    exact this.mono fun r w'' hr => hr.n hN2
  have R3 : Hid (∀ w', Below w.heap.size w w' → Calls Try.prog 18 #[.slice p n c, .int .i64 f, .int .i64 n] w' (OutN X3 N3 w')) := Lib.hid fun w' h => by
    have := refPart_any p c n F n n f n l w' (hq.later h) hz hc hn hF (by omega) (by omega) (by omega)
    rw [show l.take n = l from by rw [hn, List.take_length], ← hX3] at this
    exact this.mono fun r w'' hr => hr.n hN3
  have R4 : Hid (∀ w', Below w.heap.size w w' → Calls Try.prog 20 #[.slice p n c, .int .i64 f, .int .i64 t, .slice pm m cm] w' (OutN X4 N4 w')) := Lib.hid fun w' h => by
    have := refReplace_any p pm c cm n m F T0 T f t l k w' (hq.later h) (hqm.later h) hz hzm hc hn hm hF hT0 hT (by omega)
    rw [← hX4] at this
    exact this.mono fun r w'' hr => hr.n hN4
  have al : ∀ (X : List Int) (N : Nat), N = X.length → N ≤ 1500 → Hid (∀ a g c w', Holds w' a X → N ≤ c → SqL w' (some ⟨g, 0, none⟩) X → Calls Try.prog 15 #[.agg #[.pointer a], .slice (some ⟨g, 0, none⟩) N c] w' (fun r w'' => r = .returned (.bool true) ∧ Hid (Below w'.heap.size w' w''))) := fun X N h hb => Lib.hid fun a g c w' h1 h2 h3 => by
    subst h
    exact alike_any _ c a X w' h1 (by omega) h3
  have A1 := al X1 N1 hN1 (by omega)
  have A2 := al X2 N2 hN2 (by omega)
  have A3 := al X3 N3 hN3 (by omega)
  have A4 := al X4 N4 hN4 (by omega)
  have AW := Lib.hid (fun w => awake_any w)
  have hni : ¬ (500 : Int) < (n : Int) := by omega
  have hmi : ¬ (500 : Int) < (m : Int) := by omega
  clear al hX1 hX2 hX3 hX4 hN1 hN2 hN3 hN4 b1 b2 b3 b4 e2 e3 PE hF hT0 hT hF' hT' hn hm hq hqm hz hzm hc hcm hl hk
  go_enter Try.func4, Try.ntmps4
  go_wp2_with (first
    | (go_at_call 16; refine (CS.out _ _ HL1'.out).mono ?_; rintro r w2 ⟨a1, a2, rfl, HS1, HS2, HB2⟩)
    | (go_at_call 12; refine C1.out.mono ?_; rintro r w1 ⟨a, rfl, HL1, HB1⟩; have HL1' := Lib.hid (HL1.out.later ((Below.refl _ w1).alloc (Nat.le_refl _) (.cells #[.pointer a] 28))))
    | fail)
  rename_i KA hKA
  obtain ⟨W4, hW4⟩ : ∃ W4, W4 = (w2.alloc (.cells #[.pointer a1] 28)).alloc (.cells #[.pointer a2] 28) := ⟨_, rfl⟩
  have hs2 : w1.heap.size + 1 ≤ w2.heap.size := by have := HB2.out.size; rwa [World.size_alloc] at this
  have hb1 : Below w1.heap.size w1 (w1.alloc (.cells #[.pointer a] 28)) := (Below.refl _ _).alloc (Nat.le_refl _) _
  have hb4 : Below w2.heap.size w2 W4 := by rw [hW4]; exact ((Below.refl _ _).alloc (Nat.le_refl _) _).alloc (by simp) _
  have sW : W4.heap.size = w2.heap.size + 2 := by rw [hW4]; simp
  have KB := box2 w2 (.cells #[.pointer a1] 28) (.cells #[.pointer a2] 28)
  rw [← hW4] at KB ⊢
  have k9 : Boxed W4 w1.heap.size 28 (.pointer a) := (hb4.block _ (by omega)).trans ((HB2.out.block _ (by rw [World.size_alloc]; omega)).trans (Boxed.new w1 28 (.pointer a)))
  have z9 := k9.cell
  have z10 := cell_of KB.1
  have z11 := cell_of KB.2
  have hbT : Below w1.heap.size w1 W4 := by have h1 := HB2.out.mono (show w1.heap.size ≤ _ by rw [World.size_alloc]; omega); exact (hb1.trans h1).trans (hb4.mono (by omega))
  have HBW := Lib.hid (HB1.out.trans (hbT.mono HB1.out.size))
  have HL4 := Lib.hid (HL1.out.later hbT)
  have HS14 := Lib.hid (HS1.out.later hb4)
  have HS24 := Lib.hid (HS2.out.later hb4)
  have HS0 : Hid ((w1.heap.size < W4.heap.size ∧ w2.heap.size < W4.heap.size ∧ w2.heap.size + 1 < W4.heap.size) ∧ Below W4.heap.size W4 W4) := Lib.hid ⟨⟨by omega, by omega, by omega⟩, Below.refl _ _⟩
  have HSD : Hid ((w1.heap.size < W4.heap.size ∧ w2.heap.size < W4.heap.size ∧ w2.heap.size + 1 < W4.heap.size) ∧ Below W4.heap.size W4 W4.drew) := Lib.hid ⟨HS0.out.1, (Below.refl _ _).drew⟩
  have HBB : Hid (∀ w', Below W4.heap.size W4 w' → Below w.heap.size w w') := Lib.hid fun w' h => HBW.out.trans (h.mono HBW.out.size)
  clear hW4 hs2 hb1 hb4 sW KB k9 hbT HB1 HB2 HL1 HL1' HS1 HS2 C1 CS HQ HQM
  go_region_held3 (fun w' => w'.cell? ⟨w1.heap.size, 0, none⟩ = some (.pointer a) ∧ w'.cell? ⟨w2.heap.size, 0, none⟩ = some (.pointer a1) ∧ w'.cell? ⟨w2.heap.size + 1, 0, none⟩ = some (.pointer a2) ∧ Hid ((w1.heap.size < W4.heap.size ∧ w2.heap.size < W4.heap.size ∧ w2.heap.size + 1 < W4.heap.size) ∧ Below W4.heap.size W4 w'))
    (first | exact ⟨z9, z10, z11, HSD⟩ | exact ⟨z9, z10, z11, HS0⟩ | exact keep3 HB9.out (by assumption) | assumption)
    (first
      | (go_at_call 15; have hmark := HR4.out; refine (A4.out _ _ _ _ HP4'.out hc4 HR4.out).mono ?_; rintro r w20 ⟨rfl, HB9⟩)
      | (go_at_call 15; have hmark := HR3.out; refine (A3.out _ _ _ _ (HS24.out.later (below3 (by assumption))) hc3 HR3.out).mono ?_; rintro r w20 ⟨rfl, HB9⟩)
      | (go_at_call 15; have hmark := HR2.out; refine (A2.out _ _ _ _ (HS14.out.later (below3 (by assumption))) hc2 HR2.out).mono ?_; rintro r w20 ⟨rfl, HB9⟩; have HM2 := Lib.hid True.intro)
      | (go_at_call 15; refine (A1.out _ _ _ _ HP1'.out hc1 HR1.out).mono ?_; rintro r w20 ⟨rfl, HB9⟩; have HM1 := Lib.hid True.intro)
      | (go_at_call 18; have hmark := HM2.out; refine (R3.out _ (HBB.out _ (below3 (by assumption)))).mono ?_; rintro r w20 ⟨g3, c3, rfl, hc3, HR3, HB9⟩)
      | (go_at_call 18; have hmark := HM1.out; refine (R2.out _ (HBB.out _ (below3 (by assumption)))).mono ?_; rintro r w20 ⟨g2, c2, rfl, hc2, HR2, HB9⟩)
      | (go_at_call 18; refine (R1.out _ (HBB.out _ (below3 (by assumption)))).mono ?_; rintro r w20 ⟨g1, c1, rfl, hc1, HR1, HB9⟩; have HP1' := Lib.hid (HP1.out.later HB9.out))
      | (go_at_call 17; refine (CP.out _ _ (HL4.out.later (below3 (by assumption)))).mono ?_; rintro r w20 ⟨ap, rfl, HP1, HB9⟩)
      | (go_at_call 12; refine (C2.out _ (HBB.out _ (below3 (by assumption)))).mono ?_; rintro r w20 ⟨ak, rfl, HO4, HB9⟩)
      | (go_at_call 19; refine (CR.out _ _ _ (HL4.out.later (below3 (by assumption))) HO4.out).mono ?_; rintro r w20 ⟨ar, rfl, HP4, HB9⟩)
      | (go_at_call 20; refine (R4.out _ (HBB.out _ (below3 (by assumption)))).mono ?_; rintro r w20 ⟨g4, c4, rfl, hc4, HR4, HB9⟩; have HP4' := Lib.hid (HP4.out.later HB9.out))
      | (go_at_call 11; refine (AW.out _).mono ?_; rintro r w20 ⟨rfl, HB9⟩)
      | fail)
  have HZ := Lib.hid (HBB.out _ (below3 (by assumption)))
  clear hmark C2 CP CR R1 R2 R3 R4 A1 A2 A3 A4 AW
  refine hKA _ _ ?_
  go_wp2
  go_ret
  exact ⟨rfl, HZ⟩

set_option maxRecDepth 100000 in
set_option maxHeartbeats 6400000 in
theorem partsLong_any (p pm : Option Addr) (c cm n m : Nat) (f t : Int) (w : World) (h : 500 < n ∨ 500 < m) :
    Calls Try.prog 4 #[.slice p n c, .slice pm m cm, .int .i64 f, .int .i64 t] w (fun r w' => r = .returned (.bool true) ∧ Hid (Below w.heap.size w w')) := by
  have AW := Lib.hid (awake_any w)
  by_cases h1 : 500 < n
  · have hni : (500 : Int) < (n : Int) := by omega
    clear h
    go_enter Try.func4, Try.ntmps4
    go_wp2_with (first
      | (go_at_call 11; refine AW.out.mono ?_; rintro r w1 ⟨rfl, HB1⟩)
      | fail)
    go_ret
    exact ⟨rfl, HB1⟩
  · have hni : ¬ (500 : Int) < (n : Int) := by omega
    have hmi : (500 : Int) < (m : Int) := by omega
    clear h
    go_enter Try.func4, Try.ntmps4
    go_wp2_with (first
      | (go_at_call 11; refine AW.out.mono ?_; rintro r w1 ⟨rfl, HB1⟩)
      | fail)
    go_ret
    exact ⟨rfl, HB1⟩

theorem lawParts_any (p pm : Option Addr) (c cm : Nat) (l k : List Int) (f t : Int) (w : World) (hq : SqL w p l) (hqm : SqL w pm k) (hz : p = none → c = 0) (hzm : pm = none → cm = 0) (hc : l.length ≤ c) (hcm : k.length ≤ cm) :
    Calls Try.prog 4 #[.slice p l.length c, .slice pm k.length cm, .int .i64 f, .int .i64 t] w (fun r w' => r = .returned (.bool true) ∧ Below w.heap.size w w') := by
  by_cases h : 500 < l.length ∨ 500 < k.length
  · exact (partsLong_any p pm c cm l.length k.length f t w h).mono fun r w' h => ⟨h.1, h.2.out⟩
  · exact (partsShort_any p pm c cm l.length k.length l k f t w rfl rfl hq hqm hz hzm hc hcm (by omega) (by omega)).mono fun r w' h => ⟨h.1, h.2.out⟩
end Go.Proofs.Ytamcobncfbjdmaa
