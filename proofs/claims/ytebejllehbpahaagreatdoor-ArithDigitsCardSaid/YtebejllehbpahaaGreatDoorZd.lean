/- The reference: digits. -/
import Derived.Test.YtebejllehbpahaaGreatDoorPa
import Derived.Test.YtebejllehbpahaaGreatDoorZc
import Derived.Test.YtebejllehbpahaaGreatDoorZa
import Derived.Deep.LoopGhost
import Derived.Test.YtebejllehbpahaaGreatDoorPu
import Derived.Test.YtebejllehbpahaaGreatDoorPf
/- The reference's digits of a small number, and back. -/
namespace Go.Proofs.YtebejllehbpahaaGreatDoor
open Go.RowKit Go.Proofs.ArM

set_option maxHeartbeats 800000 in
set_option maxRecDepth 100000 in
theorem small_any (n : Nat) (w : World) (hn : n ≤ 1000000) :
    Calls Tryz.prog 47 #[.int .i64 n] w (OutI w (fun zs => zs = digs n)) := by
  obtain ⟨i0, hi, hz0, hz1, hz2⟩ := info_parts Tryz.info3
  go_enter Tryz.func47, Tryz.ntmps47
  go_wp2_with fail
  go_loopw [0, 3] (fun m v wr => ∃ (k : Nat) (zs : List Int), m = .int .i64 k ∧ k ≤ 1000000 ∧ wr.ownsRow w.heap.size 3 1 v zs.length (zs.map (Value.int .i64)) ∧ zs.length ≤ 100000000 - 10 * k ∧ Hid (digs n = zs ++ digs k) ∧ Below w.heap.size w wr ∧ Hid (v ≠ .slice none 0 0))
    (fun m _ _ => (intOf m).toNat)
  case atStart => exact ⟨n, [], rfl, hn, World.ownsRow_made _ _ _ (Nat.le_refl _) (by decide) rfl, by simp, Lib.hid (by simp), (Below.refl _ _).alloc (Nat.le_refl _) _, Lib.hid (by simp)⟩
  case round =>
    obtain ⟨k, zs, rfl, hk, hown, hzl, hdg, hbl, hnn⟩ := hrel
    by_cases hk0 : 0 < k
    · have hst := digs_pos (n := k) (by omega)
      have HST := Lib.hid hst
      clear hst
      go_wp2_with (at_builtin; refine wpList_append_own _ rfl (.tmp 7) (.tmp 10) 32 rfl w.heap.size 3 i0 (.int .i64 0) 1 8 Tryz.underlying32 hi hz0 hz1 hz2 rfl (by decide) _ _ _ rfl (hown.alloc _) ⟨wr.heap.size, 0, none⟩ 1 1 [.int .i64 _] rfl rfl (cell_one_new _ _ _) (by intro u hu; simp at hu; subst hu; rfl) (by unfold maxLen; omega) (by omega) (by have := hbl.size; simp; omega) ?_; intro v' w1 hown' hgrow hnil; have HN' := Lib.hid (show v' ≠ .slice none 0 0 from fun h => absurd (hnil.1 h).2 (by decide)); clear hnil)
      have hB2 := (hbl.alloc (Nat.le_trans hbl.size (Nat.le_refl _)) _).grown hgrow (by have := hbl.size; simp; omega) (fun j hj => (hown.lt j hj).1)
      go_roundw
      case rel => exact ⟨k / 10, zs ++ [((k % 10 : Nat) : Int)], by go_num, by omega, by simpa using hown', by simp; omega, Lib.hid (by rw [hdg.out, HST.out]; simp), hB2, HN'⟩
      case measure => simp [intOf]; omega
    · obtain rfl : k = 0 := by omega
      go_wp2
      go_ret
      exact outI_mk hown hnn.out (by rw [hdg.out, digs_zero, List.append_nil]) hbl

set_option maxHeartbeats 800000 in
set_option maxRecDepth 100000 in
theorem value_any (va : Value) (xs : List Int) (w : World) (ha : Ints w.heap.size w va xs) (hx : Dig xs) (hl : xs.length ≤ 18) :
    Calls Tryz.prog 48 #[va] w (OutV w (.int .i64 (val xs))) := by
  obtain ⟨b, o, c, rfl, _, _, hb, hcx⟩ := ha
  go_enter Tryz.func48, Tryz.ntmps48
  go_wp2_with fail
  go_loopw [3, 4] (fun n i wr => ∃ (k : Nat), i = .int .i64 ((k : Int) - 1) ∧ k ≤ xs.length ∧ n = .int .i64 (val (xs.drop k)) ∧ Below w.heap.size w wr)
    (fun _ i _ => (intOf i + 1).toNat)
  case atStart => exact ⟨xs.length, rfl, Nat.le_refl _, by rw [List.drop_length]; rfl, Below.refl _ _⟩
  case round =>
    obtain ⟨k, rfl, hk, rfl, hbl⟩ := hrel
    rcases Nat.eq_zero_or_pos k with rfl | hk0
    · go_wp2
      go_ret
      exact ⟨rfl, hbl⟩
    · obtain ⟨i, rfl⟩ : ∃ i, k = i + 1 := ⟨k - 1, by omega⟩
      have hj : ((i + 1 : Nat) : Int) - 1 = (i : Int) := by omega
      rw [hj]
      clear hj
      obtain ⟨dx, hdx⟩ : ∃ dx, dx = xs.getD i 0 := ⟨_, rfl⟩
      have hdx0 : 0 ≤ dx ∧ dx ≤ 9 := by rw [hdx]; exact hx.getD i
      have cx : wr.cell? ⟨b, o + i, none⟩ = some (.int .i64 dx) := by rw [hdx]; exact (hbl.cell (p := ⟨b, o + i, none⟩) hb).trans (hcx i (by omega))
      have h1 := val_nonneg (hx.drop (i + 1))
      have h2 := val_lt (hx.drop (i + 1))
      have h3 := p10_mono (show (xs.drop (i + 1)).length ≤ 17 by rw [List.length_drop]; omega)
      have h4 : p10 17 = 100000000000000000 := rfl
      have hbd : val (xs.drop (i + 1)) ≤ 100000000000000000 := by omega
      have HS := Lib.hid (val_drop xs i (by omega))
      have HX := Lib.hid hdx
      clear hdx h2 h3 h4
      generalize hm : val (xs.drop (i + 1)) = m at *
      have HM := Lib.hid hm
      clear hm
      go_wp2
      go_roundw
      case rel => exact ⟨i, rfl, by omega, by rw [HS.out, ← HX.out]; go_num, hbl⟩
      case measure => simp [intOf]

end Go.Proofs.YtebejllehbpahaaGreatDoor

/- The reference's digits of a number to a base. -/
namespace Go.Proofs.YtebejllehbpahaaGreatDoor
open Go.RowKit Go.Proofs.ArM

theorem rounds_few {A g l : Nat} (hA : (digs A).length ≤ 500) (hg : 0 < g) (h : 2 ^ l * g ≤ A) : l < 2000 := by
  have := len_2000 hg h (pow_bound hA)
  omega

theorem rounds_step {A g l k : Nat} (hk : 2 ≤ k) (h : 2 ^ l * g ≤ A) : 2 ^ (l + 1) * (g / k) ≤ A := by
  refine Nat.le_trans ?_ h
  rw [Nat.pow_succ, Nat.mul_assoc]
  apply Nat.mul_le_mul_left
  have h1 := Nat.div_mul_le_self g k
  have h2 : 2 * (g / k) ≤ k * (g / k) := Nat.mul_le_mul_right _ hk
  rw [Nat.mul_comm k] at h2
  omega

set_option maxHeartbeats 6400000 in
set_option maxRecDepth 100000 in
theorem digits_any (s : ByteArray) (n : Int) (w : World) (hs : s.size ≤ 1000000) :
    Calls Tryz.prog 18 #[.string s, .int .i64 n] w (OutDg w (digR s.data.toList n)) := by
  have c0 := valid_any s w (by omega)
  obtain ⟨i0, hi, hz0, hz1, hz2⟩ := info_parts Tryz.info3
  cases hv : validB s.data.toList
  · rw [hv] at c0
    have hr := Lib.hid (show digR s.data.toList n = ([], 2) from by rw [digR, hv]; rfl)
    have C0 := Lib.hid c0
    clear hv c0
    go_enter Tryz.func18, Tryz.ntmps18
    go_wp2_with (go_at_call 10; refine C0.out.mono ?_; rintro e w1 ⟨rfl, hb1⟩)
    go_ret2
    exact .inr ⟨2, rfl, hr, hb1⟩
  · rw [hv] at c0
    have C0 := Lib.hid c0
    have hr := Lib.hid (show digR s.data.toList n = (if n < 2 ∨ 1000 < n then ([], 4) else if numOf s.data.toList = 0 then ([0], 0) else (baseDigs n.toNat (numOf s.data.toList).natAbs, 0)) from by rw [digR, hv]; rfl)
    have ls := num_len hv
    have V := Lib.hid hv
    clear hv c0
    generalize hm : numOf s.data.toList = m at *
    have HM := Lib.hid hm
    clear hm
    by_cases hn1 : n < 2
    · have hr2 := Lib.hid (show digR s.data.toList n = ([], 4) from by rw [hr.out, if_pos (.inl hn1)])
      go_enter Tryz.func18, Tryz.ntmps18
      go_wp2_with (go_at_call 10; refine C0.out.mono ?_; rintro e w1 ⟨rfl, hb1⟩)
      go_ret2
      exact .inr ⟨4, rfl, hr2, hb1⟩
    · by_cases hn2 : 1000 < n
      · have hr2 := Lib.hid (show digR s.data.toList n = ([], 4) from by rw [hr.out, if_pos (.inr hn2)])
        go_enter Tryz.func18, Tryz.ntmps18
        go_wp2_with (go_at_call 10; refine C0.out.mono ?_; rintro e w1 ⟨rfl, hb1⟩)
        go_ret2
        exact .inr ⟨4, rfl, hr2, hb1⟩
      · obtain ⟨k, rfl⟩ : ∃ k : Nat, n = (k : Int) := ⟨n.toNat, by omega⟩
        rw [if_neg (show ¬ ((k : Int) < 2 ∨ 1000 < (k : Int)) by omega), Int.toNat_natCast] at hr
        have k1 : 2 ≤ k := by omega
        have k2 : k ≤ 1000 := by omega
        have hk1 : ¬ ((k : Int) < 2) := by omega
        have hk2 : ¬ (1000 < (k : Int)) := by omega
        clear hn1 hn2
        go_enter Tryz.func18, Tryz.ntmps18
        go_wp2_with fail
        refine C0.out.mono ?_
        rintro e w1 ⟨rfl, hb1⟩
        go_wp2_with fail
        refine (of_any s w1 V.out).mono ?_
        rintro e w2 ⟨b2, o2, c2, d2, rfl, hI2, hd2, hb2⟩
        rw [HM.out] at hd2 ⊢
        have l2 : d2.length ≤ 500 := by rw [hd2.out]; exact ls
        have hbz := hb1.trans (hb2.mono hb1.size)
        by_cases hm0 : m = 0
        · obtain rfl : d2 = [] := by rw [hd2.out, hm0, Int.natAbs_zero, digs_zero]
          have hr2 := Lib.hid (show digR s.data.toList k = ([0], 0) from by rw [hr.out, if_pos hm0])
          clear hm0 hI2
          have hone : Ints (w2.alloc (.cells #[.int .i64 0] 3)).heap.size (w2.alloc (.cells #[.int .i64 0] 3)) (.slice (some ⟨w2.heap.size, 0, none⟩) ([0] : List Int).length 1) [0] :=
            ints_of_row (base := w2.heap.size) (World.ownsRow_lit w2 #[.int .i64 0] 1 (Nat.le_refl _) (by decide) rfl)
          have hba := hbz.alloc hbz.size (.cells #[.int .i64 0] 3)
          go_wp2
          go_ret2
          exact .inl ⟨_, _, _, [0], rfl, hone, hr2, hba⟩
        · have hr2 := Lib.hid (show digR s.data.toList k = (baseDigs k m.natAbs, 0) from by rw [hr.out, if_neg hm0])
          have hd0 : 0 < d2.length := by
            apply Nat.pos_of_ne_zero
            intro e0
            have e := List.eq_nil_of_length_eq_zero e0
            have := hd2.out
            rw [e, digs_pos (by omega)] at this
            cases this
          have hne : ¬ d2 = [] := by intro e; rw [e] at hd0; simp at hd0
          have hdf : ((d2.length : Int) == 0) = false := by rw [beq_eq_false_iff_ne]; omega
          clear hm0
          have hba := hbz.alloc hbz.size (.cells #[] 3)
          have hI2' := hI2.later ((Below.refl w2.heap.size w2).alloc (Nat.le_refl _) (.cells #[] 3))
          have hI0 : Ints (w2.alloc (.cells #[] 3)).heap.size (w2.alloc (.cells #[] 3)) (.slice (some ⟨w2.heap.size, 0, none⟩) ([] : List Int).length 0) [] :=
            ints_of_row (base := w2.heap.size) (World.ownsRow_lit w2 #[] 0 (Nat.le_refl _) (by unfold maxLen; omega) rfl)
          have HA := Lib.hid ls
          go_wp2_with fail
          go_loopg [6, 7] m.natAbs (fun g x y wr => ∃ (bx ox cx byy oy cy : Nat) (xs zs : List Int), x = .slice (some ⟨bx, ox, none⟩) xs.length cx ∧ y = .slice (some ⟨byy, oy, none⟩) zs.length cy ∧ Ints wr.heap.size wr (.slice (some ⟨bx, ox, none⟩) xs.length cx) xs ∧ Ints wr.heap.size wr (.slice (some ⟨byy, oy, none⟩) zs.length cy) zs ∧
            Hid (xs = digs g) ∧ xs.length ≤ 500 ∧ Hid (baseDigs k m.natAbs = baseDigs k g ++ zs) ∧ Hid (2 ^ zs.length * g ≤ m.natAbs) ∧ Below w.heap.size w wr)
          case atStart => exact ⟨b2, o2, c2, w2.heap.size, 0, 0, d2, [], rfl, rfl, hI2', hI0, hd2, l2, Lib.hid (by simp), Lib.hid (by simp), hba⟩
          case round =>
            obtain ⟨bx, ox, cx, byy, oy, cy, xs, zs, rfl, rfl, hIx, hIz, hxs, lx, hbd, hfew, hbl⟩ := hrel
            by_cases hg : gk = 0
            · obtain rfl : xs = [] := by rw [hxs.out, hg, digs_zero]
              have hbd0 := Lib.hid (show digR s.data.toList k = (zs, 0) from by rw [hr2.out, hbd.out, hg, baseDigs_zero, List.nil_append])
              clear hg hIx hI0 hI2'
              go_wp2
              go_ret2
              exact .inl ⟨_, _, _, zs, rfl, hIz, hbd0, hbl⟩
            · have hx0 : 0 < xs.length := by
                apply Nat.pos_of_ne_zero
                intro e0
                have e := List.eq_nil_of_length_eq_zero e0
                have := hxs.out
                rw [e, digs_pos hg] at this
                cases this
              have hnx : ¬ xs = [] := by intro e; rw [e] at hx0; simp at hx0
              have hzl : zs.length < 2000 := rounds_few HA.out (by omega) hfew.out
              have HG := Lib.hid hg
              clear hg hI0 hI2'
              go_wp2_with fail
              refine (small_any k wr (by omega)).mono ?_
              rintro e w3 ⟨b3, o3, c3, ks, rfl, hI3, hks, hb3, _⟩
              have hl3 : ks.length ≤ 500 := by rw [hks.out]; exact Nat.le_trans (digs_len (k := 4) (by rw [p10_nat]; omega)) (by omega)
              have hIx3 := hIx.later hb3
              have hIz3 := hIz.later hb3
              have hbl3 := hbl.trans (hb3.mono hbl.size)
              have hdx := Lib.hid (show Dig xs from by rw [hxs.out]; exact (canon_digs _).1)
              have hvx := Lib.hid (show val xs = (gk : Int) from by rw [hxs.out, val_digs])
              clear hIx hIz
              go_wp2_with fail
              refine (divided_any bx ox cx b3 o3 c3 xs ks gk k w3 hIx3 hI3 hdx.out hvx.out hks.out (by omega) (by omega) (by omega)).mono ?_
              rintro e w4 ⟨b6, o6, c6, qs, b7, o7, c7, rs, rfl, hI6, hI7, hqs, hrs, hb4⟩
              have hIz4 := hIz3.later hb4
              have hbl4 := hbl3.trans (hb4.mono hbl3.size)
              have hrl : rs.length ≤ 18 := by
                rw [hrs.out]
                have hlt := Nat.mod_lt gk (show k > 0 by omega)
                exact Nat.le_trans (digs_len (k := 4) (by rw [p10_nat]; omega)) (by omega)
              have hql : qs.length ≤ 500 := by
                rw [hqs.out]
                refine Nat.le_trans (digs_len (Int.lt_of_le_of_lt (show ((gk / k : Nat) : Int) ≤ (gk : Int) from Int.ofNat_le.2 (Nat.div_le_self gk k)) (digs_lt gk))) ?_
                rw [← hxs.out]; exact lx
              go_wp2_with fail
              refine (value_any _ rs w4 hI7 (by rw [hrs.out]; exact (canon_digs _).1) hrl).mono ?_
              rintro e w5 ⟨rfl, hb5⟩
              obtain ⟨dv0, hdv⟩ : ∃ dv0, dv0 = val rs := ⟨_, rfl⟩
              rw [← hdv]
              have HDV := Lib.hid (show dv0 = ((gk % k : Nat) : Int) from by rw [hdv, hrs.out, val_digs])
              clear hdv
              have hI6' := hI6.later hb5
              have hIz5 := hIz4.later hb5
              have hbl5 := hbl4.trans (hb5.mono hbl4.size)
              have HO := Lib.hid (World.ownsRow_lit (base := w5.heap.size) (e := 3) (size := 1) w5 #[.int .i64 dv0] 1 (Nat.le_refl _) (by unfold maxLen; omega) rfl)
              have HL0 := Lib.hid (show (zs.map (Value.int .i64)).length = zs.length * 1 from by simp)
              have hb1c : Below w5.heap.size w5 (w5.alloc (.cells #[.int .i64 dv0] 3)) := (Below.refl _ _).alloc (Nat.le_refl _) _
              have HN := Lib.hid (hIz5.later hb1c).news
              have HI6 := Lib.hid hI6'
              have HB1 := Lib.hid hb1c
              clear hIz3 hIz4 hIz5 hI6 hI6' hI7 hI3 hIx3
              go_wp2_with (at_builtin; (refine wpList_append_own _ rfl (.tmp 39) (.tmp 40) 32 rfl w5.heap.size 3 i0 (.int .i64 0) 1 8 Tryz.underlying32 hi hz0 hz1 hz2 rfl (by decide) (.slice (some ⟨w5.heap.size, 0, none⟩) 1 1) 1 [.int .i64 dv0] rfl HO.out ⟨byy, oy, none⟩ zs.length cy (zs.map (Value.int .i64)) rfl HL0.out HN.out (ints_one zs) (by unfold maxLen; omega) (by omega) (by simp) ?_); intro v' w6 hown' hgrow hnil; clear hnil; obtain ⟨g2, cap2, rfl, hg2⟩ := own_shape hown' (by omega))
              have hbl6 : Below w.heap.size w w6 := (hbl5.alloc hbl5.size _).grown hgrow (by have := hbl5.size; simp; omega) (fun j hj => by simp [Value.ownBlock] at hj; have := hbl5.size; omega)
              have hI8 : Ints w6.heap.size w6 (.slice (some ⟨g2, 0, none⟩) (1 + zs.length) cap2) (dv0 :: zs) := ints_of_row (by simpa using hown')
              have hl8 : 1 + zs.length = (dv0 :: zs).length := by simp; omega
              have hbg : Below w5.heap.size w5 w6 := HB1.out.grown hgrow (by simp) (fun j hj => by simp [Value.ownBlock] at hj; omega)
              have hI9 := HI6.out.later hbg
              rw [hl8] at hI8 ⊢
              go_roundg (gk / k)
              case measure => exact Nat.div_lt_self (by have := HG.out; omega) (by omega)
              case rel => exact ⟨b6, o6, c6, g2, 0, cap2, qs, dv0 :: zs, rfl, rfl, hI9, hI8, hqs, hql, Lib.hid (by rw [hbd.out, baseDigs_pos HG.out k1, HDV.out, List.append_assoc]; rfl), Lib.hid (rounds_step k1 hfew.out), hbl6⟩
end Go.Proofs.YtebejllehbpahaaGreatDoor
