/- Replace, Part of ropes of ints. -/
import Derived.Test.YtamcobncfbjdmaaRT8
namespace Go.Proofs.Ytamcobncfbjdmaa
open Go.RowKit Go.Shelf Go.BigFrame
attribute [local go_sem] Oper.semAt_some

set_option maxRecDepth 100000 in
set_option maxHeartbeats 3200000 in
theorem pReplaceI_any (a b : Option Addr) (l l2 : List Int) (f t F T : Int) (w : World) (hN : Holds w a l) (hM : Holds w b l2) (hl : l.length ≤ 300000) (hs : l2.length ≤ 300000) (hF : max f 0 = F) (hT : max F t = T) :
    Calls Try.prog 19 #[.agg #[.pointer a], .int .i64 f, .int .i64 t, .agg #[.pointer b]] w (fun r w' => ∃ c, r = .returned (.agg #[.pointer c]) ∧ Hid (Holds w' c ((l.take T.toNat).take F.toNat ++ l2 ++ l.drop T.toNat)) ∧ Hid (Below w.heap.size w w')) := by
  obtain ⟨W, hW⟩ : ∃ W, W = ((w.alloc (.cells #[.pointer a] 28)).alloc (.cells #[.pointer b] 28)).alloc (.cells #[.pointer none] 28) := ⟨_, rfl⟩
  have hb : Below w.heap.size w W := by rw [hW]; exact (((Below.refl _ _).alloc (Nat.le_refl _) _).alloc (by simp) _).alloc (by simp; omega) _
  have hsz : W.heap.size = w.heap.size + 3 := by rw [hW]; simp
  have H3 := box3 w (.cells #[.pointer a] 28) (.cells #[.pointer b] 28) (.cells #[.pointer none] 28)
  rw [← hW] at H3
  obtain ⟨h0, h1, hr⟩ := H3
  have C1 := ppartsI_any a l f t F T W (hN.later hb) (by omega) hF hT
  rw [hW] at C1
  replace C1 := Lib.hid C1
  have HW := Lib.hid hW
  have HH1 := Lib.hid h1
  have HHr := Lib.hid hr
  have HMW := Lib.hid (hM.later hb)
  have L1 : ((l.take T.toNat).take F.toNat).length ≤ l.length := by rw [List.length_take, List.length_take]; omega
  have L3 : (l.drop T.toNat).length ≤ l.length := by rw [List.length_drop]; omega
  have C2 : Hid (∀ a' b' w', Holds w' a' ((l.take T.toNat).take F.toNat) → Holds w' b' l2 → Calls Try.prog 29 #[.agg #[.pointer a'], .agg #[.pointer b']] w' (fun r w'' => ∃ c, r = .returned (.agg #[.pointer c]) ∧ Hid (Holds w'' c ((l.take T.toNat).take F.toNat ++ l2)) ∧ Hid (Below w'.heap.size w' w''))) := Lib.hid fun a' b' w' x y => pJoinI_any a' b' _ _ w' x y (by omega)
  have C3 : Hid (∀ a' b' w', Holds w' a' ((l.take T.toNat).take F.toNat ++ l2) → Holds w' b' (l.drop T.toNat) → Calls Try.prog 29 #[.agg #[.pointer a'], .agg #[.pointer b']] w' (fun r w'' => ∃ c, r = .returned (.agg #[.pointer c]) ∧ Hid (Holds w'' c ((l.take T.toNat).take F.toNat ++ l2 ++ l.drop T.toNat)) ∧ Hid (Below w'.heap.size w' w''))) := Lib.hid fun a' b' w' x y => pJoinI_any a' b' _ _ w' x y (by rw [List.length_append]; omega)
  have hmx : Try.prog.follows .mixedOrders = true := by kernel_rfl
  clear hW hN hM hF hT hl L1 L3 hs h0 h1 hr
  refine (callsIn_wide (n := 5)).1 ?_
  refine callsIn_of_wp Try.func19 rfl trivial ?_ rfl
  simp only [Try.ntmps19, List.size_toArray, List.length_cons, List.length_nil, Nat.reduceAdd, Nat.reduceSub, Array.replicate_succ, Array.replicate_zero, List.push_toArray, List.append_toArray, List.nil_append, List.cons_append]
  gi_wp2_with (first
    | (refine ⟨trivial, ?_⟩; gi_at_call 52; refine (callsIn_wide.2 C1.out).mono ?_; rintro e' w1 ⟨a1, a2, a3, rfl, HN1, HN2, HN3, HB1⟩)
    | fail)
  rw [← HW.out] at HB1
  have s1 := HB1.out.size
  obtain ⟨V, hV⟩ : ∃ V, V = ((w1.alloc (.cells #[.pointer a1] 28)).alloc (.cells #[.pointer a2] 28)).alloc (.cells #[.pointer a3] 28) := ⟨_, rfl⟩
  have hbV : Below w1.heap.size w1 V := by rw [hV]; exact (((Below.refl _ _).alloc (Nat.le_refl _) _).alloc (by simp) _).alloc (by simp; omega) _
  have sV : V.heap.size = w1.heap.size + 3 := by rw [hV]; simp
  have K3 := box3 w1 (.cells #[.pointer a1] 28) (.cells #[.pointer a2] 28) (.cells #[.pointer a3] 28)
  rw [← hV] at K3 ⊢
  obtain ⟨k9, _, k11⟩ := K3
  have k7 := (hbV.block (w.heap.size + 1) (by omega)).trans ((HB1.out.block (w.heap.size + 1) (by omega)).trans HH1.out)
  have k8 := (hbV.block (w.heap.size + 1 + 1) (by omega)).trans ((HB1.out.block (w.heap.size + 1 + 1) (by omega)).trans HHr.out)
  have HBV := Lib.hid ((hb.trans (HB1.out.mono hb.size)).trans (hbV.mono (by omega)))
  have HM1 := Lib.hid (HN1.out.later hbV)
  have HM3 : Hid (Holds V a3 (l.drop T.toNat)) := Lib.hid (HN3.out.later hbV)
  have HMM := Lib.hid ((HMW.out.later HB1.out).later hbV)
  have x9 := cell_of k9
  have x7 := cell_of k7
  have x11 := cell_of k11
  have K8 := Lib.hid k8
  have K11 := Lib.hid k11
  clear hV hbV HN1 HN2 HN3 HB1 HH1 HHr HMW C1 k7 k8 k9 k11
  have C2' : Hid (∀ w', Below V.heap.size V w' → CallsIn Fence.wide 4 Try.prog 29 #[.agg #[.pointer a1], .agg #[.pointer b]] w' (fun r w'' => ∃ c, r = .returned (.agg #[.pointer c]) ∧ Hid (Holds w'' c ((l.take T.toNat).take F.toNat ++ l2)) ∧ Hid (Below V.heap.size V w''))) := Lib.hid fun w' hw' => by
    refine (callsIn_wide.2 (C2.out _ _ w' (HM1.out.later hw') (HMM.out.later hw'))).mono ?_
    rintro r w'' ⟨c, rfl, x, y⟩
    exact ⟨c, rfl, x, Lib.hid (hw'.trans (y.out.mono hw'.size))⟩
  have C3' : Hid (∀ c w', Holds w' c ((l.take T.toNat).take F.toNat ++ l2) → Below V.heap.size V w' → CallsIn Fence.wide 4 Try.prog 29 #[.agg #[.pointer c], .agg #[.pointer a3]] w' (fun r w'' => ∃ c, r = .returned (.agg #[.pointer c]) ∧ Hid (Holds w'' c ((l.take T.toNat).take F.toNat ++ l2 ++ l.drop T.toNat)) ∧ Hid (Below V.heap.size V w''))) := Lib.hid fun c w' hc hw' => by
    refine (callsIn_wide.2 (C3.out _ _ w' hc (HM3.out.later hw'))).mono ?_
    rintro r w'' ⟨c, rfl, x, y⟩
    exact ⟨c, rfl, x, Lib.hid (hw'.trans (y.out.mono hw'.size))⟩
  have DR := Lib.hid (show Below V.heap.size V V.drew from (Below.refl _ _).drew)
  have FIN : Hid (∀ c w3, Holds w3 c ((l.take T.toNat).take F.toNat ++ l2 ++ l.drop T.toNat) → Below V.heap.size V w3 → w3.heap[w.heap.size + 1 + 1]? = some (.cells #[.pointer none] 28 (0, 0)) → Hid (Holds (w3.setCell ⟨w.heap.size + 1 + 1, 0, none⟩ (.pointer c)) c ((l.take T.toNat).take F.toNat ++ l2 ++ l.drop T.toNat)) ∧ Hid (Below w.heap.size w (w3.setCell ⟨w.heap.size + 1 + 1, 0, none⟩ (.pointer c)))) := Lib.hid fun c w3 x y z => ⟨Lib.hid (x.box _ z), Lib.hid ((HBV.out.trans (y.mono HBV.out.size)).setCell (p := ⟨w.heap.size + 1 + 1, 0, none⟩) (by show w.heap.size ≤ w.heap.size + 1 + 1; omega) _)⟩
  refine wpIn_region_any (by assumption) ?_
  try (change wpAnyIn _ _ _ _ _ _ _ _ _ (World.drew _))
  refine wpAnyIn_here (i := 0) (v := .agg #[.pointer a1]) [(1, .agg #[.pointer b]), (3, .agg #[.pointer a3])] [2, 4, 5] rfl rfl (by kernel_rfl) (by kernel_rfl) (by kernel_rfl) ⟨Or.inl ⟨by rfl, by go_simp⟩, by first | rfl | go_simp⟩ (by intro p hp; simp only [List.mem_cons, List.not_mem_nil, or_false] at hp; rcases hp with rfl | rfl <;> exact ⟨_, rfl, ⟨Or.inl ⟨by rfl, by go_simp⟩, by first | rfl | go_simp⟩⟩) ?_
  go_simp
  refine wpAnyIn_here (i := 1) (v := .agg #[.pointer b]) [(3, .agg #[.pointer a3])] [2, 4, 5] rfl rfl (by kernel_rfl) (by kernel_rfl) (by kernel_rfl) ⟨Or.inl ⟨by rfl, by go_simp⟩, by first | rfl | go_simp⟩ (by intro p hp; simp only [List.mem_cons, List.not_mem_nil, or_false] at hp; rcases hp with rfl <;> exact ⟨_, rfl, ⟨Or.inl ⟨by rfl, by go_simp⟩, by first | rfl | go_simp⟩⟩) ?_
  go_simp
  refine wpAnyIn_ready (rs := [2, 3]) (by kernel_rfl) (by simp) ?_
  refine AllReadyIn.cons rfl (fun K hK => ?_) (AllReadyIn.cons rfl (fun K hK => ?_) AllReadyIn.nil)
  · go_simp
    gi_wp2_with (first | (refine ⟨trivial, ?_⟩; gi_at_call 29; refine (C2'.out _ (by first | exact DR.out | exact Below.refl _ _)).mono ?_; rintro e' w2 ⟨c, rfl, HC, HBC⟩) | fail)
    first | (refine hK _ _ ?_; clear hK K; go_simp) | go_simp
    have x11' := cell_of ((HBC.out.block (w1.heap.size + 1 + 1) (by omega)).trans K11.out)
    refine wpAnyIn_here (i := 3) (v := .agg #[.pointer a3]) [] [4, 5] rfl rfl (by kernel_rfl) (by kernel_rfl) (by kernel_rfl) ⟨Or.inl ⟨by rfl, by go_simp⟩, by first | rfl | go_simp⟩ (fun p hp => by cases hp) ?_
    go_simp
    refine wpAnyIn_ready (rs := [4]) (by kernel_rfl) (by simp) ?_
    refine AllReadyIn.cons rfl (fun K hK => ?_) AllReadyIn.nil
    go_simp
    gi_wp2_with (first | (refine ⟨trivial, ?_⟩; gi_at_call 29; refine (C3'.out _ _ HC.out HBC.out).mono ?_; rintro e' w3 ⟨c2, rfl, HC3, HBC3⟩) | fail)
    have k8 := (HBC3.out.block (w.heap.size + 1 + 1) (by omega)).trans K8.out
    have x8 := cell_of k8
    have y8 := frozen_of k8
    first | (refine hK _ _ ?_; clear hK K; go_simp) | go_simp
    refine wpAnyIn_ready (rs := [5]) (by kernel_rfl) (by simp) ?_
    refine AllReadyIn.cons rfl (fun K hK => ?_) AllReadyIn.nil
    go_simp
    refine hK _ _ ?_
    clear hK K
    refine wpAnyIn_done (by kernel_rfl) ?_ _
    have hc5 := ((show Boxed w3 (w.heap.size + 1 + 1) 28 (.pointer none) from k8).set (.pointer c2)).cell
    clear x8 y8
    gi_wp2
    refine bodyPost_ret (v := .agg #[.pointer c2]) (by simp [results, Try.f19, go_sem, hc5]) rfl ?_
    exact ⟨c2, rfl, (FIN.out c2 w3 HC3.out HBC3.out k8).1, (FIN.out c2 w3 HC3.out HBC3.out k8).2⟩
  · go_simp
    refine hK _ _ ?_
    clear hK K
    go_simp
    refine wpAnyIn_ready (rs := [2]) (by kernel_rfl) (by simp) ?_
    refine AllReadyIn.cons rfl (fun K hK => ?_) AllReadyIn.nil
    go_simp
    gi_wp2_with (first | (refine ⟨trivial, ?_⟩; gi_at_call 29; refine (C2'.out _ (by first | exact DR.out | exact Below.refl _ _)).mono ?_; rintro e' w2 ⟨c, rfl, HC, HBC⟩) | fail)
    first | (refine hK _ _ ?_; clear hK K; go_simp) | go_simp
    refine wpAnyIn_ready (rs := [4]) (by kernel_rfl) (by simp) ?_
    refine AllReadyIn.cons rfl (fun K hK => ?_) AllReadyIn.nil
    go_simp
    gi_wp2_with (first | (refine ⟨trivial, ?_⟩; gi_at_call 29; refine (C3'.out _ _ HC.out HBC.out).mono ?_; rintro e' w3 ⟨c2, rfl, HC3, HBC3⟩) | fail)
    have k8 := (HBC3.out.block (w.heap.size + 1 + 1) (by omega)).trans K8.out
    have x8 := cell_of k8
    have y8 := frozen_of k8
    first | (refine hK _ _ ?_; clear hK K; go_simp) | go_simp
    refine wpAnyIn_ready (rs := [5]) (by kernel_rfl) (by simp) ?_
    refine AllReadyIn.cons rfl (fun K hK => ?_) AllReadyIn.nil
    go_simp
    refine hK _ _ ?_
    clear hK K
    refine wpAnyIn_done (by kernel_rfl) ?_ _
    have hc5 := ((show Boxed w3 (w.heap.size + 1 + 1) 28 (.pointer none) from k8).set (.pointer c2)).cell
    clear x8 y8
    gi_wp2
    refine bodyPost_ret (v := .agg #[.pointer c2]) (by simp [results, Try.f19, go_sem, hc5]) rfl ?_
    exact ⟨c2, rfl, (FIN.out c2 w3 HC3.out HBC3.out k8).1, (FIN.out c2 w3 HC3.out HBC3.out k8).2⟩
end Go.Proofs.Ytamcobncfbjdmaa
