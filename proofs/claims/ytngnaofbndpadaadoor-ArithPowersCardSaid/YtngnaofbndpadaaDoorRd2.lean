/- The reference: roots. -/
import Derived.Test.YtngnaofbndpadaaDoorRc
import Derived.Deep.LoopGhost
import Derived.Test.YtngnaofbndpadaaDoorPf
/- The reference's root of a number. -/
namespace Go.Proofs.YtngnaofbndpadaaDoor
open Go.RowKit Go.Proofs.ArM

theorem back0 (z : ByteArray) : z = ⟨z.data.toList.toArray⟩ := by cases z; simp

theorem root_start {A k L : Nat} (hA : (digs A).length ≤ L * k) (hk : 1 ≤ k) : 0 ^ k ≤ A ∧ A < (0 + 10 ^ L) ^ k := by
  refine ⟨by rw [Nat.zero_pow (by omega)]; exact Nat.zero_le _, ?_⟩
  have h1 := digs_lt A
  have h2 := p10_mono hA
  rw [p10_nat (L * k), Nat.pow_mul] at h2
  rw [Nat.zero_add]
  omega

/-- the value of digits with one more set -/
theorem val_put {qs : List Int} {j c : Nat} (hd : Dig qs) (hj : j < qs.length) (h0 : qs.getD j 0 = 0) : (val (qs.set j c)).toNat = (val qs).toNat + 10 ^ j * c := by
  have h1 := val_set qs j c hj
  have h2 := val_nonneg hd
  rw [h0, p10_nat, Int.sub_zero, ← Int.natCast_mul] at h1
  omega

/-- a round's end: the place's digit is found -/
theorem root_step {A k V j c : Nat} (h1 : (V + 10 ^ j * c) ^ k ≤ A) (h2 : A < (V + 10 ^ j * (c + 1)) ^ k) : (V + 10 ^ j * c) ^ k ≤ A ∧ A < (V + 10 ^ j * c + 10 ^ j) ^ k :=
  ⟨h1, by rw [Nat.mul_add, Nat.mul_one, ← Nat.add_assoc] at h2; exact h2⟩

theorem pow_big {A X k : Nat} (hA : (digs A).length ≤ 500) (h : 500 < (digs (X ^ k)).length) : A < X ^ k := by
  apply Nat.lt_of_not_le
  intro hle
  have := digs_mono hle
  omega

set_option maxHeartbeats 6400000 in
set_option maxRecDepth 100000 in
theorem root_any (s : ByteArray) (n : Int) (w : World) (hs : s.size ≤ 1000000) :
    Calls Tryd.prog 19 #[.string s, .int .i64 n] w (OutT w (rootR s.data.toList n)) := by
  have c0 := valid_any s w (by omega)
  obtain ⟨i0, hi, hz0, hz1, hz2⟩ := info_parts Tryd.info3
  cases hv : validB s.data.toList
  · rw [hv] at c0
    have hr := Lib.hid (show rootR s.data.toList n = ([], 2) from by rw [rootR, hv]; rfl)
    have C0 := Lib.hid c0
    clear hv c0
    go_enter Tryd.func19, Tryd.ntmps19
    go_wp2_with (go_at_call 53; refine C0.out.mono ?_; rintro e w1 ⟨rfl, hb1⟩)
    go_ret2
    exact outT_of (by rw [hr.out]) (by rw [hr.out]) hb1
  · rw [hv] at c0
    have C0 := Lib.hid c0
    have hr := Lib.hid (show rootR s.data.toList n = (if n < 1 ∨ 1000 < n then ([], 4) else if numOf s.data.toList < 0 then ([], 101) else (numT (rootN (numOf s.data.toList).natAbs n.toNat : Nat), 0)) from by rw [rootR, hv]; rfl)
    have ls := num_len hv
    have htx := Lib.hid (valid_text hv).1
    have V := Lib.hid hv
    clear hv c0
    generalize hm : numOf s.data.toList = m at *
    have HM := Lib.hid hm
    clear hm
    by_cases hn1 : n < 1
    · have hr2 := Lib.hid (show rootR s.data.toList n = ([], 4) from by rw [hr.out, if_pos (.inl hn1)])
      go_enter Tryd.func19, Tryd.ntmps19
      go_wp2_with (go_at_call 53; refine C0.out.mono ?_; rintro e w1 ⟨rfl, hb1⟩)
      go_ret2
      exact outT_of (by rw [hr2.out]) (by rw [hr2.out]) hb1
    · by_cases hn2 : 1000 < n
      · have hr2 := Lib.hid (show rootR s.data.toList n = ([], 4) from by rw [hr.out, if_pos (.inr hn2)])
        go_enter Tryd.func19, Tryd.ntmps19
        go_wp2_with (go_at_call 53; refine C0.out.mono ?_; rintro e w1 ⟨rfl, hb1⟩)
        go_ret2
        exact outT_of (by rw [hr2.out]) (by rw [hr2.out]) hb1
      · obtain ⟨k, rfl⟩ : ∃ k : Nat, n = (k : Int) := ⟨n.toNat, by omega⟩
        rw [if_neg (show ¬ ((k : Int) < 1 ∨ 1000 < (k : Int)) by omega), Int.toNat_natCast] at hr
        have k1 : 1 ≤ k := by omega
        have k2 : k ≤ 1000 := by omega
        have hk1 : ¬ ((k : Int) < 1) := by omega
        have hk2 : ¬ (1000 < (k : Int)) := by omega
        clear hn1 hn2
        go_enter Tryd.func19, Tryd.ntmps19
        go_wp2_with fail
        refine C0.out.mono ?_
        rintro e w1 ⟨rfl, hb1⟩
        go_wp2_with fail
        refine (of_any s w1 V.out).mono ?_
        rintro e w2 ⟨b2, o2, c2, d2, rfl, hI2, hd2, hb2⟩
        rw [HM.out] at hd2 ⊢
        obtain ⟨sg, hsg⟩ : ∃ sg, sg = decide (m < 0) := ⟨_, rfl⟩
        rw [← hsg]
        have HSG := Lib.hid hsg
        clear hsg
        have l2 : d2.length ≤ 500 := by rw [hd2.out]; exact ls
        obtain ⟨W, hW⟩ : ∃ W, W = w2.alloc (.cells #[.bool sg, .slice (some ⟨b2, o2, none⟩) d2.length c2] 59) := ⟨_, rfl⟩
        have hbW : Below w2.heap.size w2 W := by rw [hW]; exact (Below.refl _ _).alloc (Nat.le_refl _) _
        have hS0 : SubS w2.heap.size w2.heap.size w2 (.bool sg) (.slice (some ⟨b2, o2, none⟩) d2.length c2) d2 W := by
          have hbox := cells2 (W := W) (by rw [hW]; exact heap_alloc_new w2 _)
          exact ⟨hbox.1, hbox.2.1, hI2.later hbW, hbW, by rw [hW]; simp⟩
        have HS0 := Lib.hid hS0
        clear hS0
        obtain ⟨kk1, kk2, kk3, kk4, kk5⟩ := HS0.out
        cases sg
        · have hm0 := Lib.hid (show ¬ m < 0 from by have := HSG.out; simpa using this.symm)
          rw [if_neg hm0.out] at hr
          by_cases h1 : k = 1
          · have hr2 := Lib.hid (show rootR s.data.toList k = (numT m, 0) from by
              rw [hr.out, h1, rootN_eq (r := m.natAbs) ⟨by rw [Nat.pow_one]; exact Nat.le_refl _, by rw [Nat.pow_one]; omega⟩]
              have := hm0.out
              rw [show ((m.natAbs : Nat) : Int) = m from by omega])
            have h1' : ((k : Int) == 1) = true := by rw [h1]; rfl
            rw [hW] at kk1 kk2
            have hbz : Below w.heap.size w W := hb1.trans ((hb2.mono hb1.size).trans (hbW.mono (Nat.le_trans hb1.size hb2.size)))
            rw [hW] at hbz
            clear h1 hW
            go_wp2
            go_ret2
            exact outT_of (by rw [hr2.out, ← htx.out]) (by rw [hr2.out]) hbz
          · have h1' : ((k : Int) == 1) = false := by rw [beq_eq_false_iff_ne]; omega
            obtain ⟨L, hL⟩ : ∃ L, L = (d2.length + k - 1) / k := ⟨_, rfl⟩
            have HL := Lib.hid (show ((d2.length : Int) + (k : Int) - 1) / (k : Int) = (L : Int) from by
              rw [hL, Int.natCast_ediv]
              congr 1
              omega)
            have hL1 : L ≤ 500 := by
              rw [hL]
              exact Nat.div_le_of_le_mul (by omega)
            have hL2 := Lib.hid (show d2.length ≤ L * k from by
              have h := Nat.div_add_mod (d2.length + k - 1) k
              rw [← hL] at h
              have h3 := Nat.mod_lt (d2.length + k - 1) (show k > 0 by omega)
              have h4 := Nat.mul_comm k L
              omega)
            clear hL
            rw [hW] at kk1 kk2
            go_wp2_with (at_make; refine wpList_make_full _ rfl _ _ 41 rfl W.heap.size 3 i0 (.int .i64 0) 1 Tryd.underlying41 hi hz0 hz1 _ _ _ _ L rfl rfl HL.out HL.out (by rw [hz2]; omega) (by unfold maxLen; omega) (by rw [hW]; exact Nat.le_refl _) ?_; intro w4 hown4 hgrow4)
            have hos0 : (madeCells (Value.int .i64 0).cells (L * 1)).toList = (List.replicate L (0 : Int)).map (Value.int .i64) := by
              rw [Nat.mul_one, show (Value.int .i64 0).cells = #[Value.int .i64 0] from rfl, toList_madeCells_one]; simp
            rw [hos0] at hown4
            clear hos0
            rw [← hW] at hown4 hgrow4
            obtain ⟨B, hB⟩ : ∃ B, B = w2.heap.size + 1 := ⟨_, rfl⟩
            have hWB : W.heap.size = B := by rw [hB, hW]; simp
            rw [hWB] at hown4
            have HWB := Lib.hid hWB
            clear hWB
            have hbl4 : Below W.heap.size W w4 := (Below.refl _ _).grown hgrow4 (Nat.le_refl _) (fun j hj => by cases hj)
            have hbz : Below w.heap.size w W := hb1.trans ((hb2.mono hb1.size).trans (hbW.mono (Nat.le_trans hb1.size hb2.size)))
            have hwW := hbz.size
            have HA := Lib.hid (show (digs m.natAbs).length ≤ 500 from ls)
            have HST := Lib.hid (root_start (A := m.natAbs) (k := k) (L := L) (by rw [← hd2.out]; exact hL2.out) k1)
            go_wp2_with fail
            rw [← hB]
            clear hB
            go_loopw [8] (fun i wr => ∃ (j : Nat) (qs : List Int), i = .int .i64 ((j : Int) - 1) ∧ j ≤ L ∧ wr.ownsRow B 3 1 (.slice (some ⟨B, 0, none⟩) L L) L (qs.map (Value.int .i64)) ∧
                Hid (qs.length = L ∧ Dig qs ∧ (∀ t, t < j → qs.getD t 0 = 0) ∧ (val qs).toNat ^ k ≤ m.natAbs ∧ m.natAbs < ((val qs).toNat + 10 ^ j) ^ k) ∧ Below W.heap.size W wr)
              (fun i _ => (intOf i + 1).toNat)
            case atStart =>
              refine ⟨L, _, rfl, Nat.le_refl _, hown4, Lib.hid ⟨by simp, dig_replicate _, fun t ht => by simp [List.getD, ht], ?_⟩, hbl4⟩
              rw [val_replicate]; exact HST.out
            case round =>
              obtain ⟨j1, qs, rfl, hj1, hown, hq, hbl⟩ := hrel
              rcases Nat.eq_zero_or_pos j1 with rfl | hj0
              · have hqI := ints_of_row hown
                have hql : L = qs.length := hq.out.1.symm
                have hrt := Lib.hid (rootN_eq (A := m.natAbs) (n := k) (r := (val qs).toNat) ⟨hq.out.2.2.2.1, by have := hq.out.2.2.2.2; rwa [Nat.pow_zero] at this⟩)
                rw [hql] at hqI
                go_wp2_with fail
                rw [hql]
                refine (trimmed_pos _ _ _ qs wr hqI hq.out.2.1 (by omega)).mono ?_
                rintro e w5 ⟨ds, rfl, hI5, hds, hb5⟩
                clear hql hqI hown
                have hbl5 := hbl.trans (hb5.mono hbl.size)
                have hdl : ds.length ≤ 100000 := by
                  have h1 := val_lt hq.out.2.1
                  have h0 := val_nonneg hq.out.2.1
                  rw [hds.out]
                  exact Nat.le_trans (digs_len (k := qs.length) (by omega)) (by have := hq.out.1; omega)
                go_wp2_with fail
                refine (text_any false _ _ _ ds w5 hI5 (by rw [hds.out]; exact (canon_digs _).1) hdl).mono ?_
                rintro e w6 ⟨rfl, hb6⟩
                have hbl6 := hbl5.trans (hb6.mono hbl5.size)
                go_wp2
                go_ret2
                exact outT_of (by rw [hr.out, hrt.out, numT_nat, hds.out]) (by rw [hr.out]) (hbz.trans (hbl6.mono hwW))
              · obtain ⟨j, rfl⟩ : ∃ j, j1 = j + 1 := ⟨j1 - 1, by omega⟩
                have hj : ((j + 1 : Nat) : Int) - 1 = (j : Int) := by omega
                rw [hj]
                clear hj
                have hjl : j < qs.length := by rw [hq.out.1]; omega
                have HSz : Hid (qs.set j ((0 : Nat) : Int) = qs) := Lib.hid (set_same hjl (hq.out.2.2.1 j (by omega)))
                obtain ⟨V0, hV0⟩ : ∃ V0, V0 = (val qs).toNat := ⟨_, rfl⟩
                have HV := Lib.hid (show ∀ c, (val (qs.set j ((c : Nat) : Int))).toNat = V0 + 10 ^ j * c from fun c => by rw [hV0]; exact val_put hq.out.2.1 hjl (hq.out.2.2.1 j (by omega)))
                have HP := Lib.hid (show V0 ^ k ≤ m.natAbs ∧ m.natAbs < (V0 + 10 ^ j * 10) ^ k from by
                  have h := hq.out.2.2.2
                  rw [← hV0, Nat.pow_succ] at h
                  exact h)
                clear hV0
                go_wp2_with fail
                go_loopg [9] 9 (fun g p wr => ∃ c : Nat, c + g = 9 ∧ wr.ownsRow B 3 1 (.slice (some ⟨B, 0, none⟩) L L) L ((qs.set j (c : Int)).map (Value.int .i64)) ∧
                  Hid ((V0 + 10 ^ j * c) ^ k ≤ m.natAbs) ∧ Below W.heap.size W wr)
                case atStart => exact ⟨0, rfl, by rw [HSz.out]; exact hown, Lib.hid (by rw [Nat.mul_zero, Nat.add_zero]; exact HP.out.1), hbl⟩
                case round =>
                  clear hown hbl
                  obtain ⟨c, hcg, hown, hle, hbl⟩ := hrel
                  have hlen : (qs.set j (c : Int)).length = L := by rw [List.length_set]; exact hq.out.1
                  have hcq : wr.cell? ⟨B, j, none⟩ = some (.int .i64 c) := by
                    rw [hown.cellAt j (by omega)]
                    have h1 := getD_set_same (l := qs) (i := j) (d := (c : Int)) hjl
                    simp [List.getD, hjl] at h1 ⊢
                  have hfq := hown.frozenAt j
                  have hjL : j < L := by omega
                  by_cases hc9 : c < 9
                  · have hcB : c + 1 ≤ 9 := by omega
                    have hst := (hown.stored j (.int .i64 ((c : Int) + 1))).1
                    rw [← List.map_set, List.set_set] at hst
                    have hblX : Below W.heap.size W (wr.setCell ⟨B, j, none⟩ (.int .i64 ((c : Int) + 1))) := hbl.setCell (by rw [HWB.out]; exact Nat.le_refl _) _
                    obtain ⟨ys, hys⟩ : ∃ ys, ys = qs.set j ((c : Int) + 1) := ⟨_, rfl⟩
                    rw [← hys] at hst
                    have hyl : ys.length = L := by rw [hys, List.length_set]; exact hq.out.1
                    have hyd : Dig ys := by rw [hys]; exact hq.out.2.1.set _ (by omega)
                    have hyv := Lib.hid (show (val ys).toNat = V0 + 10 ^ j * (c + 1) from by rw [hys]; exact HV.out (c + 1))
                    have hsz : (wr.setCell ⟨B, j, none⟩ (.int .i64 ((c : Int) + 1))).heap.size = wr.heap.size := by simp
                    have hIY := ints_of_row hst
                    have hIY1 := hIY.later ((Below.refl _ (wr.setCell ⟨B, j, none⟩ (.int .i64 ((c : Int) + 1)))).alloc (Nat.le_refl _) (.cells #[] 3))
                    have HN := Lib.hid hIY1.news
                    have hown0 : ((wr.setCell ⟨B, j, none⟩ (.int .i64 ((c : Int) + 1))).alloc (.cells #[] 3)).ownsRow wr.heap.size 3 1 (.slice (some ⟨wr.heap.size, 0, none⟩) 0 0) 0 [] := by
                      have := World.ownsRow_lit (base := (wr.setCell ⟨B, j, none⟩ (.int .i64 ((c : Int) + 1))).heap.size) (e := 3) (size := 1) (wr.setCell ⟨B, j, none⟩ (.int .i64 ((c : Int) + 1))) #[] 0 (Nat.le_refl _) (by unfold maxLen; omega) rfl
                      rwa [hsz] at this
                    have HO := Lib.hid hown0
                    have HLy := Lib.hid (show (ys.map (Value.int .i64)).length = L * 1 from by simp [hyl])
                    have HST := Lib.hid hst
                    have HBX := Lib.hid hblX
                    have HYS := Lib.hid hys
                    clear hown0 hIY hIY1 hst hblX hys hown
                    go_wp2_with (at_builtin; refine wpList_append_own _ rfl (.tmp 55) (.tmp 56) 41 rfl wr.heap.size 3 i0 (.int .i64 0) 1 8 Tryd.underlying41 hi hz0 hz1 hz2 rfl (by decide) (.slice (some ⟨wr.heap.size, 0, none⟩) 0 0) 0 [] rfl HO.out ⟨B, 0, none⟩ L L (ys.map (Value.int .i64)) rfl HLy.out HN.out (ints_one ys) (by unfold maxLen; omega) (by omega) (by simp) ?_; intro v' w5 hown5 hgrow5 hnil; clear hnil; obtain ⟨g5, cap5, rfl, hg5⟩ := own_shape hown5 (by omega))
                    have hI5 : Ints w5.heap.size w5 (.slice (some ⟨g5, 0, none⟩) L cap5) ys := ints_of_row (by simpa using hown5)
                    have hBw : B < wr.heap.size := by have h1 := (HST.out.lt B rfl).2; rw [hsz] at h1; exact h1
                    have hbl5 : Below W.heap.size W w5 := (HBX.out.alloc HBX.out.size _).grown hgrow5 (by have := hbl.size; simp; omega) (fun i hi => by simp [Value.ownBlock] at hi; have := hbl.size; omega)
                    have hw5 : wr.heap.size ≤ w5.heap.size := by have := hgrow5.size; simp at this; omega
                    have hO5 := (HST.out.alloc (.cells #[] 3)).kept hgrow5 (.inr (by simp [Value.ownBlock]; omega))
                    have T := trimmed_pos g5 0 cap5 ys w5 (by rw [hyl]; exact hI5) hyd (by omega)
                    rw [hyl, hyv.out] at T
                    refine T.mono ?_
                    rintro e w6 ⟨ds, rfl, hI6, hds, hb6⟩
                    have hO6 := own_below hO5 hb6 (fun i hi => by simp [Value.ownBlock] at hi; omega)
                    have hbl6 := hbl5.trans (hb6.mono hbl5.size)
                    have hdl : ds.length ≤ 500 := by
                      have h1 := val_lt hyd
                      have h2 := val_nonneg hyd
                      rw [hds.out, ← hyv.out]
                      exact Nat.le_trans (digs_len (k := ys.length) (by omega)) (by omega)
                    clear T hown5 hgrow5 hI5 hO5
                    go_wp2_with fail
                    refine (power_any g5 0 cap5 ds (V0 + 10 ^ j * (c + 1)) k w6 hI6 hds.out hdl (by omega)).mono ?_
                    have hw6 : wr.heap.size ≤ w6.heap.size := Nat.le_trans hw5 hb6.size
                    rintro e w7 (⟨b7, o7, c7, d7, rfl, hI7, hd7, hl7, hb7⟩ | ⟨rfl, hbig, hb7⟩)
                    · have hO7 := own_below hO6 hb7 (fun i hi => by simp [Value.ownBlock] at hi; omega)
                      have hbl7 := hbl6.trans (hb7.mono hbl6.size)
                      have hcx7 : w7.cell? ⟨w2.heap.size, 1, none⟩ = some (.slice (some ⟨b2, o2, none⟩) d2.length c2) := (hbl7.cell (p := ⟨w2.heap.size, 1, none⟩) HS0.out.2.2.2.2).trans HS0.out.2.1
                      have hId := HS0.out.2.2.1.below hbl7 hbl7.size
                      have hcd7 : Canon d7 := by rw [hd7.out]; exact canon_digs _
                      have hcd2 : Canon d2 := by rw [hd2.out]; exact canon_digs _
                      have hvd := Lib.hid (show ordZ (val d7) (val d2) = ordZ (((V0 + 10 ^ j * (c + 1)) ^ k : Nat) : Int) (m.natAbs : Int) from by rw [hd7.out, hd2.out, val_digs, val_digs])
                      have hl7' := hl7.out
                      have hw7 : wr.heap.size ≤ w7.heap.size := Nat.le_trans hw6 hb7.size
                      by_cases hgt : m.natAbs < (V0 + 10 ^ j * (c + 1)) ^ k
                      · have hpos : 0 < ordZ (val d7) (val d2) := by rw [hvd.out]; unfold ordZ; repeat' split <;> omega
                        have HGT := Lib.hid hgt
                        clear hgt
                        go_wp2_with fail
                        refine (order_any _ _ d7 d2 w7 hI7 hId hcd7 hcd2 (by omega)).mono ?_
                        rintro e w8 ⟨rfl, hb8⟩
                        have hO8 := own_below hO7 hb8 (fun i hi => by simp [Value.ownBlock] at hi; omega)
                        have hbl8 := hbl7.trans (hb8.mono hbl7.size)
                        clear hO6 hO7 hcd7 hcd2
                        rw [HYS.out] at hO8
                        have hlen2 : (qs.set j ((c : Int) + 1)).length = L := by rw [List.length_set]; exact hq.out.1
                        have hcq2 : w8.cell? ⟨B, j, none⟩ = some (.int .i64 ((c : Int) + 1)) := by
                          rw [hO8.cellAt j (by omega)]
                          have h1 := getD_set_same (l := qs) (i := j) (d := (c : Int) + 1) hjl
                          simp [List.getD, hjl] at h1 ⊢
                        have hfq2 := hO8.frozenAt j
                        have hend := (hO8.stored j (.int .i64 (c : Int))).1
                        rw [← List.map_set, List.set_set] at hend
                        have HE := Lib.hid hend
                        have HBE := Lib.hid (show Below W.heap.size W (w8.setCell ⟨B, j, none⟩ (.int .i64 (c : Int))) from hbl8.setCell (by rw [HWB.out]; exact Nat.le_refl _) _)
                        have HFIN := Lib.hid (root_step hle.out HGT.out)
                        clear hend
                        go_wp2
                        go_roundw
                        case rel =>
                          refine ⟨j, qs.set j (c : Int), rfl, by omega, HE.out, Lib.hid ⟨?_, ?_, ?_, ?_⟩, HBE.out⟩
                          · rw [List.length_set]; exact hq.out.1
                          · exact hq.out.2.1.set _ (by omega)
                          · intro t ht
                            rw [ArM.getD_set_ne (by omega)]
                            exact hq.out.2.2.1 t (by omega)
                          · rw [HV.out c]; exact HFIN.out
                        case measure => simp [intOf]
                      · have hneg : ordZ (val d7) (val d2) ≤ 0 := by rw [hvd.out]; unfold ordZ; repeat' split <;> omega
                        have hle' := Lib.hid (Nat.le_of_not_lt hgt)
                        clear hgt
                        go_wp2_with fail
                        refine (order_any _ _ d7 d2 w7 hI7 hId hcd7 hcd2 (by omega)).mono ?_
                        rintro e w8 ⟨rfl, hb8⟩
                        have hO8 := own_below hO7 hb8 (fun i hi => by simp [Value.ownBlock] at hi; omega)
                        have hbl8 := hbl7.trans (hb8.mono hbl7.size)
                        rw [HYS.out] at hO8
                        clear hO6 hO7 hcd7 hcd2
                        go_wp2
                        go_roundg (gk - 1)
                        case measure => omega
                        case rel => exact ⟨c + 1, by omega, hO8, hle', hbl8⟩
                    · have hO7 := own_below hO6 hb7 (fun i hi => by simp [Value.ownBlock] at hi; omega)
                      have hbl7 := hbl6.trans (hb7.mono hbl6.size)
                      have HGT := Lib.hid (pow_big HA.out hbig.out)
                      clear hO6
                      rw [HYS.out] at hO7
                      have hlen2 : (qs.set j ((c : Int) + 1)).length = L := by rw [List.length_set]; exact hq.out.1
                      have hcq2 : w7.cell? ⟨B, j, none⟩ = some (.int .i64 ((c : Int) + 1)) := by
                        rw [hO7.cellAt j (by omega)]
                        have h1 := getD_set_same (l := qs) (i := j) (d := (c : Int) + 1) hjl
                        simp [List.getD, hjl] at h1 ⊢
                      have hfq2 := hO7.frozenAt j
                      have hend := (hO7.stored j (.int .i64 (c : Int))).1
                      rw [← List.map_set, List.set_set] at hend
                      have HE := Lib.hid hend
                      have HBE := Lib.hid (show Below W.heap.size W (w7.setCell ⟨B, j, none⟩ (.int .i64 (c : Int))) from hbl7.setCell (by rw [HWB.out]; exact Nat.le_refl _) _)
                      have HFIN := Lib.hid (root_step hle.out HGT.out)
                      clear hend
                      go_wp2
                      go_roundw
                      case rel =>
                        refine ⟨j, qs.set j (c : Int), rfl, by omega, HE.out, Lib.hid ⟨?_, ?_, ?_, ?_⟩, HBE.out⟩
                        · rw [List.length_set]; exact hq.out.1
                        · exact hq.out.2.1.set _ (by omega)
                        · intro t ht
                          rw [ArM.getD_set_ne (by omega)]
                          exact hq.out.2.2.1 t (by omega)
                        · rw [HV.out c]; exact HFIN.out
                      case measure => simp [intOf]
                  · obtain rfl : c = 9 := by omega
                    have HE := Lib.hid hown
                    have HBE := Lib.hid hbl
                    have HFIN := Lib.hid (root_step hle.out HP.out.2)
                    clear hown hbl
                    go_wp2
                    go_roundw
                    case rel =>
                      refine ⟨j, qs.set j ((9 : Nat) : Int), rfl, by omega, HE.out, Lib.hid ⟨?_, ?_, ?_, ?_⟩, HBE.out⟩
                      · rw [List.length_set]; exact hq.out.1
                      · exact hq.out.2.1.set _ (by omega)
                      · intro t ht
                        rw [ArM.getD_set_ne (by omega)]
                        exact hq.out.2.2.1 t (by omega)
                      · rw [HV.out 9]; exact HFIN.out
                    case measure => simp [intOf]
        · have hm0 := Lib.hid (show m < 0 from by have := HSG.out; simpa using this.symm)
          rw [if_pos hm0.out] at hr
          rw [hW] at kk1 kk2
          have hbz : Below w.heap.size w W := hb1.trans ((hb2.mono hb1.size).trans (hbW.mono (Nat.le_trans hb1.size hb2.size)))
          rw [hW] at hbz
          clear hW
          go_wp2
          go_ret2
          exact outT_of (by rw [hr.out]) (by rw [hr.out]) hbz
end Go.Proofs.YtngnaofbndpadaaDoor
