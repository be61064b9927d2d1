/- Sums, differences and products of limbs. -/
import Derived.Test.YtebejllehbpahaaGreatDoorPa
import Derived.Test.YtebejllehbpahaaGreatDoorShelf
import Derived.IntWalk
import Derived.WalkSpells
import Derived.Laws.Rows
import Derived.Test.YtebejllehbpahaaGreatDoorPm
import Derived.Laws.AppendOwnNone
/- The order of two lists of limbs. -/
namespace Go.Proofs.YtebejllehbpahaaGreatDoor
open Go.RowKit Go.Proofs.ArM

theorem cint_val (x y v : Int) (h : Lib.compareInt x y = v) (w : World) :
    Calls Tryz.prog 83 #[.int .i64 x, .int .i64 y] w fun e w' => e = .returned (.int .i64 v) ∧ w' = w := by
  have := Tryz.cmp_Compare_int x y w
  rwa [h] at this

theorem cint_lt {x y : Int} (h : x < y) : Lib.compareInt x y = -1 := by simp [Lib.compareInt, h]
theorem cint_gt {x y : Int} (h : y < x) : Lib.compareInt x y = 1 := by rw [Lib.compareInt, if_neg (by omega), if_pos h]
theorem cint_eq (x : Int) : Lib.compareInt x x = 0 := by rw [Lib.compareInt, if_neg (by omega), if_neg (by omega)]

set_option maxHeartbeats 3200000 in
set_option maxRecDepth 100000 in
theorem pcmp_any (a a' : Option Addr) (c c' : Nat) (xs ys : List Int) (w : World) (h : Sl w.heap.size w a c xs) (h' : Sl w.heap.size w a' c' ys) (hx : LCanon xs) (hy : LCanon ys) (hlx : xs.length ≤ 1000000) (hly : ys.length ≤ 1000000) :
    Calls Tryz.prog 63 #[.slice a xs.length c, .slice a' ys.length c'] w (OutV w (.int .i64 (LordZ (Lval xs) (Lval ys)))) := by
  rcases Nat.lt_trichotomy xs.length ys.length with hl | hl | hl
  · have hv := Lib.hid (LordZ_lt (Llen_lt hx.1 hy hl))
    have C := Lib.hid (cint_val (xs.length : Int) (ys.length : Int) (-1) (cint_lt (by omega)))
    clear h h'
    go_enter Tryz.func63, Tryz.ntmps63
    go_wp2_with fail
    refine (C.out _).mono ?_
    rintro e w2 ⟨rfl, rfl⟩
    go_wp2
    go_ret
    exact ⟨by rw [hv.out]; rfl, Below.refl _ _⟩
  · have C := Lib.hid (cint_val (xs.length : Int) (ys.length : Int) 0 (by rw [hl]; exact cint_eq _))
    have HL := Lib.hid hl
    rcases Nat.eq_zero_or_pos xs.length with h0 | h0
    · obtain rfl : xs = [] := List.eq_nil_of_length_eq_zero h0
      obtain rfl : ys = [] := List.eq_nil_of_length_eq_zero (by rw [← hl]; rfl)
      have hv := Lib.hid (LordZ_eq (show Lval [] = Lval [] from rfl))
      clear h h' hl h0
      go_enter Tryz.func63, Tryz.ntmps63
      go_wp2_with fail
      refine (C.out _).mono ?_
      rintro e w2 ⟨rfl, rfl⟩
      go_wp2_with fail
      go_loop [6] (fun i => i = .int .i64 (-1)) (fun _ => 0)
      case atStart => rfl
      case round =>
        subst hrel
        go_wp2
        go_ret
        exact ⟨by rw [hv.out]; rfl, Below.refl _ _⟩
    · obtain ⟨b, o, rfl, hI⟩ := h.some h0
      obtain ⟨b', o', rfl, hI'⟩ := h'.some (by omega)
      have hcx := hI.cell
      have hcy := hI'.cell
      obtain ⟨hb, _, hxc, hxm, hcx⟩ := hcx
      obtain ⟨hb', _, hyc, hym, hcy⟩ := hcy
      unfold maxLen at hxm hym
      clear h h' hl hI hI'
      go_enter Tryz.func63, Tryz.ntmps63
      go_wp2_with fail
      refine (C.out _).mono ?_
      rintro e w2 ⟨rfl, hw2⟩
      obtain rfl : w = w2 := hw2.symm
      go_wp2_with fail
      go_loopw [6] (fun i wr => ∃ k : Nat, i = .int .i64 ((k : Int) - 1) ∧ k ≤ xs.length ∧ Hid (xs.drop k = ys.drop k) ∧ Below w.heap.size w wr) (fun i _ => (intOf i + 1).toNat)
      case atStart => exact ⟨xs.length, rfl, Nat.le_refl _, Lib.hid (by rw [List.drop_length, HL.out, List.drop_length]), Below.refl _ _⟩
      case round =>
        obtain ⟨k, rfl, hk, hd, hbl⟩ := hrel
        rcases Nat.eq_zero_or_pos k with rfl | hk0
        · have hd2 := hd.out
          simp only [List.drop_zero] at hd2
          have hv := Lib.hid (LordZ_eq (congrArg Lval hd2))
          clear hd2 hd
          go_wp2
          go_ret
          exact ⟨by rw [hv.out]; rfl, hbl⟩
        · obtain ⟨j, rfl⟩ : ∃ j, k = j + 1 := ⟨k - 1, by omega⟩
          have hj : ((j + 1 : Nat) : Int) - 1 = (j : Int) := by omega
          rw [hj]
          clear hj
          obtain ⟨dx, hdx⟩ : ∃ dx, dx = xs.getD j 0 := ⟨_, rfl⟩
          obtain ⟨dy, hdy⟩ : ∃ dy, dy = ys.getD j 0 := ⟨_, rfl⟩
          have cx : wr.cell? ⟨b, o + j, none⟩ = some (.int .i64 dx) := by rw [hdx]; exact (hbl.cell (p := ⟨b, o + j, none⟩) hb).trans (hcx j (by omega))
          have hjy : j < ys.length := by have := HL.out; omega
          have cy : wr.cell? ⟨b', o' + j, none⟩ = some (.int .i64 dy) := by rw [hdy]; exact (hbl.cell (p := ⟨b', o' + j, none⟩) hb').trans (hcy j hjy)
          have HX := Lib.hid hdx
          have HY := Lib.hid hdy
          clear hdx hdy hcx hcy
          have hjx : j < xs.length := by omega
          rcases Int.lt_trichotomy dx dy with hlt | heq | hgt
          · have hv := Lib.hid (LordZ_lt (Ldrop_lt hx.1 hy.1 hjx HL.out hd.out (by rw [← HX.out, ← HY.out]; exact hlt)))
            have C2 := Lib.hid (cint_val dx dy (-1) (cint_lt hlt))
            go_wp2
            go_quiet ((go_at_call 83; exact Calls.quiet_of_same (C2.out _)))
            go_wp2
            go_ret
            exact ⟨by rw [hv.out]; rfl, below_drewN hbl _⟩
          · subst heq
            have hd3 := Lib.hid (Ldrop_step hjx HL.out hd.out (by rw [← HX.out, ← HY.out]))
            have C2 := Lib.hid (cint_val dx dx 0 (cint_eq _))
            go_wp2
            go_quiet ((go_at_call 83; exact Calls.quiet_of_same (C2.out _)))
            go_wp2
            go_roundw
            case rel => exact ⟨j, rfl, by omega, hd3, below_drewN hbl _⟩
            case measure => simp [intOf]
          · have hv := Lib.hid (LordZ_gt (Ldrop_lt hy.1 hx.1 hjy HL.out.symm hd.out.symm (by rw [← HX.out, ← HY.out]; exact hgt)))
            have C2 := Lib.hid (cint_val dx dy 1 (cint_gt hgt))
            go_wp2
            go_quiet ((go_at_call 83; exact Calls.quiet_of_same (C2.out _)))
            go_wp2
            go_ret
            exact ⟨by rw [hv.out]; rfl, below_drewN hbl _⟩
  · have hv := Lib.hid (LordZ_gt (Llen_lt hy.1 hx hl))
    have C := Lib.hid (cint_val (xs.length : Int) (ys.length : Int) 1 (cint_gt (by omega)))
    clear h h'
    go_enter Tryz.func63, Tryz.ntmps63
    go_wp2_with fail
    refine (C.out _).mono ?_
    rintro e w2 ⟨rfl, rfl⟩
    go_wp2
    go_ret
    exact ⟨by rw [hv.out]; rfl, Below.refl _ _⟩

end Go.Proofs.YtebejllehbpahaaGreatDoor

/- The sum of two lists of limbs. -/
namespace Go.Proofs.YtebejllehbpahaaGreatDoor
open Go.RowKit Go.Proofs.ArM

set_option maxHeartbeats 3200000 in
set_option maxRecDepth 100000 in
theorem pplus_any (a a' : Option Addr) (c c' : Nat) (xs ys : List Int) (m n : Nat) (w : World) (h : Sl w.heap.size w a c xs) (h' : Sl w.heap.size w a' c' ys) (hx : xs = Ldigs m) (hy : ys = Ldigs n) (hlx : xs.length ≤ 100000) (hly : ys.length ≤ 100000) :
    Calls Tryz.prog 66 #[.slice a xs.length c, .slice a' ys.length c'] w (OutK w (m + n)) := by
  have hdx : LDig xs := by rw [hx]; exact ldig_digs _
  have hdy : LDig ys := by rw [hy]; exact ldig_digs _
  have HM := Lib.hid (show Lval xs = (m : Int) from by rw [hx, Lval_digs])
  have HN := Lib.hid (show Lval ys = (n : Int) from by rw [hy, Lval_digs])
  have HS := Lib.hid h
  have HS' := Lib.hid h'
  clear hx hy h h'
  obtain ⟨i0, hi, hz0, hz1, hz2⟩ := info_parts Tryz.info3
  obtain ⟨L, hL⟩ : ∃ L, L = max xs.length ys.length := ⟨_, rfl⟩
  have HL := Lib.hid hL
  clear hL
  go_enter Tryz.func66, Tryz.ntmps66
  go_wp2_with fail
  rw [show max (xs.length : Int) (ys.length : Int) = (L : Int) from by have := HL.out; omega]
  have hL1 : L ≤ 100000 := by have := HL.out; omega
  go_loopw [5, 6, 14] (fun v cy i wr => ∃ (k : Nat) (zs : List Int) (c0 : Int), i = .int .i64 k ∧ cy = .int .i64 c0 ∧ Hid (zs.length = k) ∧ 0 ≤ c0 ∧ c0 ≤ 1 ∧ k ≤ L ∧
      wr.ownsRow w.heap.size 3 1 v zs.length (zs.map (Value.int .i64)) ∧ LDig zs ∧ Hid (Lval zs + Lp10 k * c0 = Lval (xs.take k) + Lval (ys.take k)) ∧ Below w.heap.size w wr)
    (fun _ _ i _ => L - (intOf i).toNat)
  case atStart => exact ⟨0, [], 0, rfl, rfl, Lib.hid rfl, by omega, by omega, by omega, ⟨rfl, .inl ⟨rfl, rfl⟩⟩, LDig.nil, Lib.hid (by simp [Lval]), Below.refl _ _⟩
  case round =>
    obtain ⟨k, zs, c0, rfl, rfl, hzl, hc0, hc1, hk, hown, hdz, hv, hbl⟩ := hrel
    by_cases hkL : k < L
    · obtain ⟨dx, hdx'⟩ : ∃ dx, dx = xs.getD k 0 := ⟨_, rfl⟩
      obtain ⟨dy, hdy'⟩ : ∃ dy, dy = ys.getD k 0 := ⟨_, rfl⟩
      have hb1 : 0 ≤ dx ∧ dx ≤ 9999 := by rw [hdx']; exact hdx.getD k
      have hb2 : 0 ≤ dy ∧ dy ≤ 9999 := by rw [hdy']; exact hdy.getD k
      have CX := Lib.hid (at_nat a c xs k dx wr (HS.out.later hbl) (by omega) (by omega) hdx')
      have CY := Lib.hid (at_nat a' c' ys k dy wr (HS'.out.later hbl) (by omega) (by omega) hdy')
      have R := Lib.hid (Lplus_step (s := dx + dy + c0) hdx hdy hdz hzl.out hc0 hc1 (by rw [hdx', hdy']) hv.out)
      clear hdx' hdy'
      go_wp2_with fail
      refine (CX.out).mono ?_
      rintro e w2 ⟨rfl, rfl⟩
      go_wp2_with fail
      refine (CY.out).mono ?_
      rintro e w2 ⟨rfl, rfl⟩
      go_wp2_with (at_builtin; refine wpList_append_own _ rfl (.tmp 26) (.tmp 29) 48 rfl w.heap.size 3 i0 (.int .i64 0) 1 8 Tryz.underlying48 hi hz0 hz1 hz2 rfl (by decide) _ _ _ rfl (hown.alloc _) ⟨wr.heap.size, 0, none⟩ 1 1 [.int .i64 _] rfl rfl (cell_one_new _ _ _) (by intro u hu; simp at hu; subst hu; rfl) (by have := hzl.out; unfold maxLen; omega) (by have := hzl.out; omega) (by have := hbl.size; simp; omega) ?_; intro v' w1 hown' hgrow hnil; clear hnil)
      have hB := (hbl.alloc (Nat.le_trans hbl.size (Nat.le_refl _)) _).grown hgrow (by have := hbl.size; simp; omega) (fun j hj => (hown.lt j hj).1)
      go_roundw
      case rel => exact ⟨k + 1, zs ++ [(dx + dy + c0) % 10000], (dx + dy + c0) / 10000, by go_num, by first | rfl | go_num, Lib.hid (by simp [hzl.out]), R.out.2.1, R.out.2.2.1, by omega, by simpa using hown', R.out.1, Lib.hid R.out.2.2.2, hB⟩
      case measure => simp [intOf]; omega
    · have hkL2 : k = L := by omega
      have E := Lib.hid (Lplus_end hdz (by rw [hzl.out]) hc0 (by omega) hv.out)
      have HV := Lib.hid (show Lval (xs.take k) + Lval (ys.take k) = ((m + n : Nat) : Int) from by
        rw [Ltake_of_ge (by have := HL.out; omega), Ltake_of_ge (by have := HL.out; omega), HM.out, HN.out]; omega)
      clear hkL2
      go_wp2_with (at_builtin; refine wpList_append_own _ rfl (.tmp 34) (.tmp 36) 48 rfl w.heap.size 3 i0 (.int .i64 0) 1 8 Tryz.underlying48 hi hz0 hz1 hz2 rfl (by decide) _ _ _ rfl (hown.alloc _) ⟨wr.heap.size, 0, none⟩ 1 1 [.int .i64 _] rfl rfl (cell_one_new _ _ _) (by intro u hu; simp at hu; subst hu; rfl) (by have := hzl.out; unfold maxLen; omega) (by have := hzl.out; omega) (by have := hbl.size; simp; omega) ?_; intro v' w1 hown' hgrow hnil; clear hnil; obtain ⟨g2, cap2, rfl, hg2⟩ := own_shape hown' (by omega))
      have hB := (hbl.alloc (Nat.le_trans hbl.size (Nat.le_refl _)) _).grown hgrow (by have := hbl.size; simp; omega) (fun j hj => (hown.lt j hj).1)
      have hS2 : Sl w1.heap.size w1 (some ⟨g2, 0, none⟩) cap2 (zs ++ [c0]) := sl_of_row (by simpa using hown')
      have hl2 : zs.length + 1 = (zs ++ [c0]).length := by simp
      have T := Lib.hid (ptrim_any _ _ _ w1 hS2 E.out.1 (by have := hzl.out; simp; omega))
      rw [← hl2] at T
      have HS2 := Lib.hid hS2
      clear hl2 hown' hS2
      go_wp2_with fail
      refine T.out.mono ?_
      rintro e w2 ⟨k2, rfl, hk2, ht2, rfl⟩
      go_wp2
      go_ret
      exact outK_of HS2.out hk2 ht2.out (by rw [E.out.2, HV.out]) rfl hB (new_at hg2)
end Go.Proofs.YtebejllehbpahaaGreatDoor

/- The difference of two lists of limbs, the second not greater. -/
namespace Go.Proofs.YtebejllehbpahaaGreatDoor
open Go.RowKit Go.Proofs.ArM

set_option maxHeartbeats 3200000 in
set_option maxRecDepth 100000 in
theorem pless_any (a a' : Option Addr) (c c' : Nat) (xs ys : List Int) (m n : Nat) (w : World) (h : Sl w.heap.size w a c xs) (h' : Sl w.heap.size w a' c' ys) (hx : xs = Ldigs m) (hy : ys = Ldigs n) (hnm : n ≤ m) (hlx : xs.length ≤ 100000) :
    Calls Tryz.prog 67 #[.slice a xs.length c, .slice a' ys.length c'] w (OutK w (m - n)) := by
  have hdx : LDig xs := by rw [hx]; exact ldig_digs _
  have hdy : LDig ys := by rw [hy]; exact ldig_digs _
  have HM := Lib.hid (show Lval xs = (m : Int) from by rw [hx, Lval_digs])
  have HN := Lib.hid (show Lval ys = (n : Int) from by rw [hy, Lval_digs])
  have HCY := Lib.hid (show LCanon ys from by rw [hy]; exact Lcanon_digs n)
  have hly : ys.length ≤ xs.length := Llen_le HCY.out hdx (by rw [HM.out, HN.out]; omega)
  have HS := Lib.hid h
  have HS' := Lib.hid h'
  clear hx hy h'
  obtain ⟨i0, hi, hz0, hz1, hz2⟩ := info_parts Tryz.info3
  rcases h with ⟨rfl, rfl, rfl⟩ | ⟨b, o, rfl, hI⟩
  · have hm0 : m = 0 := by have := HM.out; simp [Lval] at this; omega
    have T := Lib.hid (ptrim_any none 0 [] w Sl.nil LDig.nil (by simp))
    have H0 := Lib.hid (show m - n = 0 from by omega)
    clear hm0 hnm
    go_enter Tryz.func67, Tryz.ntmps67
    go_wp2_with fail
    go_loopw [5, 11] (fun v i wr => v = .slice none 0 0 ∧ i = .int .i64 0 ∧ w = wr) (fun _ _ _ => 0)
    case atStart => exact ⟨rfl, rfl, rfl⟩
    case round =>
      obtain ⟨rfl, rfl, rfl⟩ := hrel
      go_wp2_with fail
      refine T.out.mono ?_
      rintro e w2 ⟨k2, rfl, hk2, ht2, rfl⟩
      go_wp2
      go_ret
      exact outK_of Sl.nil hk2 ht2.out (by rw [H0.out]; rfl) rfl (Below.refl _ _) new_none
  · have hcc := hI.cell
    obtain ⟨hb, _, hxc, hxm, hcx⟩ := hcc
    unfold maxLen at hxm
    have HCX := Lib.hid hcx
    clear hI hcx
    go_enter Tryz.func67, Tryz.ntmps67
    go_wp2_with fail
    go_loopw [5, 6, 11] (fun v cy i wr => ∃ (k : Nat) (zs : List Int) (b0 : Int), i = .int .i64 k ∧ cy = .int .i64 b0 ∧ Hid (zs.length = k) ∧ 0 ≤ b0 ∧ b0 ≤ 1 ∧ k ≤ xs.length ∧
        wr.ownsRow w.heap.size 3 1 v zs.length (zs.map (Value.int .i64)) ∧ LDig zs ∧ Hid (Lval zs - Lp10 k * b0 = Lval (xs.take k) - Lval (ys.take k)) ∧ Below w.heap.size w wr)
      (fun _ _ i _ => xs.length - (intOf i).toNat)
    case atStart => exact ⟨0, [], 0, rfl, rfl, Lib.hid rfl, by omega, by omega, by omega, ⟨rfl, .inl ⟨rfl, rfl⟩⟩, LDig.nil, Lib.hid (by simp [Lval]), Below.refl _ _⟩
    case round =>
      obtain ⟨k, zs, b0, rfl, rfl, hzl, hb00, hb01, hk, hown, hdz, hv, hbl⟩ := hrel
      by_cases hkL : k < xs.length
      · obtain ⟨dx, hdx'⟩ : ∃ dx, dx = xs.getD k 0 := ⟨_, rfl⟩
        obtain ⟨dy, hdy'⟩ : ∃ dy, dy = ys.getD k 0 := ⟨_, rfl⟩
        have hb1 : 0 ≤ dx ∧ dx ≤ 9999 := by rw [hdx']; exact hdx.getD k
        have hb2 : 0 ≤ dy ∧ dy ≤ 9999 := by rw [hdy']; exact hdy.getD k
        have cx : wr.cell? ⟨b, o + k, none⟩ = some (.int .i64 dx) := by rw [hdx']; exact (hbl.cell (p := ⟨b, o + k, none⟩) hb).trans (HCX.out k hkL)
        have CY := Lib.hid (at_quiet a' c' ys k dy wr (HS'.out.later hbl) (by omega) (by omega) hdy')
        obtain ⟨s, hs⟩ : ∃ s, s = dx - dy - b0 := ⟨_, rfl⟩
        have sb : -10000 ≤ s ∧ s ≤ 9999 := by omega
        have R := Lib.hid (fun (b1 e : Int) => Lless_step (d := s) (b1 := b1) (e := e) hdx hdy hdz hzl.out hb00 hb01 (by rw [hs, hdx', hdy']))
        have s1 : IntKind.i64.wrap (dx - dy) = dx - dy := IntWalk.i64_in _ (by omega)
        have s2 : IntKind.i64.wrap (dx - dy - b0) = s := by rw [hs]; exact IntWalk.i64_in _ (by omega)
        clear hdx' hdy' hs
        by_cases hneg : s < 0
        · have Q := Lib.hid (R.out 1 (s + 10000) (.inl ⟨hneg, rfl, rfl⟩) hv.out)
          go_wp2
          go_quiet ((go_at_call 84; exact Calls.quiet_of_same (CY.out _)))
          clear s1 s2
          have hown2 := own_drewN hown nq
          have hbl2 := below_drewN hbl nq
          go_wp2_with (at_builtin; refine wpList_append_own _ rfl (.tmp 28) (.tmp 30) 48 rfl w.heap.size 3 i0 (.int .i64 0) 1 8 Tryz.underlying48 hi hz0 hz1 hz2 rfl (by decide) _ _ _ rfl (hown2.alloc _) ⟨(wr.drewN nq).heap.size, 0, none⟩ 1 1 [.int .i64 _] rfl rfl (cell_one_new _ _ _) (by intro u hu; simp at hu; subst hu; rfl) (by have := hzl.out; unfold maxLen; omega) (by have := hzl.out; omega) (by have := hbl.size; simp; omega) ?_; intro v' w1 hown' hgrow hnil; clear hnil)
          have hB := (hbl2.alloc (Nat.le_trans hbl2.size (Nat.le_refl _)) _).grown hgrow (by have := hbl.size; simp; omega) (fun j hj => (hown2.lt j hj).1)
          go_roundw
          case rel => exact ⟨k + 1, zs ++ [s + 10000], 1, by go_num, rfl, Lib.hid (by simp [hzl.out]), Q.out.2.1, Q.out.2.2.1, by omega, by simpa using hown', Q.out.1, Lib.hid Q.out.2.2.2, hB⟩
          case measure => simp [intOf]; omega
        · have Q := Lib.hid (R.out 0 s (.inr ⟨by omega, rfl, rfl⟩) hv.out)
          go_wp2
          go_quiet ((go_at_call 84; exact Calls.quiet_of_same (CY.out _)))
          clear s1 s2
          have hown2 := own_drewN hown nq
          have hbl2 := below_drewN hbl nq
          go_wp2_with (at_builtin; refine wpList_append_own _ rfl (.tmp 28) (.tmp 30) 48 rfl w.heap.size 3 i0 (.int .i64 0) 1 8 Tryz.underlying48 hi hz0 hz1 hz2 rfl (by decide) _ _ _ rfl (hown2.alloc _) ⟨(wr.drewN nq).heap.size, 0, none⟩ 1 1 [.int .i64 _] rfl rfl (cell_one_new _ _ _) (by intro u hu; simp at hu; subst hu; rfl) (by have := hzl.out; unfold maxLen; omega) (by have := hzl.out; omega) (by have := hbl.size; simp; omega) ?_; intro v' w1 hown' hgrow hnil; clear hnil)
          have hB := (hbl2.alloc (Nat.le_trans hbl2.size (Nat.le_refl _)) _).grown hgrow (by have := hbl.size; simp; omega) (fun j hj => (hown2.lt j hj).1)
          go_roundw
          case rel => exact ⟨k + 1, zs ++ [s], 0, by go_num, rfl, Lib.hid (by simp [hzl.out]), Q.out.2.1, Q.out.2.2.1, by omega, by simpa using hown', Q.out.1, Lib.hid Q.out.2.2.2, hB⟩
          case measure => simp [intOf]; omega
      · obtain rfl : k = xs.length := by omega
        have E := Lib.hid (Lless_end hdz hzl.out hb00 (by rw [HM.out, HN.out]; omega) hly hv.out)
        have HV := Lib.hid (show Lval xs - Lval ys = ((m - n : Nat) : Int) from by rw [HM.out, HN.out]; omega)
        obtain ⟨a2, c2, rfl, hS2, hn2⟩ := own_sl hown
        have T := Lib.hid (ptrim_any _ _ _ wr hS2 hdz (by have := hzl.out; omega))
        have HS2 := Lib.hid hS2
        clear hown hS2
        go_wp2_with fail
        refine T.out.mono ?_
        rintro e w2 ⟨k2, rfl, hk2, ht2, rfl⟩
        go_wp2
        go_ret
        exact outK_of HS2.out hk2 ht2.out (by rw [E.out, HV.out]) rfl hbl hn2

end Go.Proofs.YtebejllehbpahaaGreatDoor

/- A list of limbs times a small number, and a small number more. -/
namespace Go.Proofs.YtebejllehbpahaaGreatDoor
open Go.RowKit Go.Proofs.ArM

set_option maxHeartbeats 3200000 in
set_option maxRecDepth 100000 in
theorem psmall_any (a : Option Addr) (c : Nat) (xs : List Int) (m : Nat) (f ad : Int) (w : World) (h : Sl w.heap.size w a c xs) (hx : xs = Ldigs m) (hf0 : 0 ≤ f) (hf1 : f ≤ 9999) (ha0 : 0 ≤ ad) (ha1 : ad ≤ 9999) (hlx : xs.length ≤ 100000) :
    Calls Tryz.prog 49 #[.slice a xs.length c, .int .i64 f, .int .i64 ad] w (OutK w (m * f + ad).toNat) := by
  have hdx : LDig xs := by rw [hx]; exact ldig_digs _
  have HM := Lib.hid (show Lval xs = (m : Int) from by rw [hx, Lval_digs])
  have hp := Int.mul_nonneg (show (0 : Int) ≤ (m : Int) by omega) hf0
  have HP := Lib.hid (show (((m * f + ad).toNat : Nat) : Int) = (m : Int) * f + ad from by omega)
  have HS := Lib.hid h
  clear hx hp
  obtain ⟨i0, hi, hz0, hz1, hz2⟩ := info_parts Tryz.info3
  have base : ∃ b o, (0 < xs.length → a = some ⟨b, o, none⟩) ∧ (0 < xs.length → b < w.heap.size) ∧ Hid (∀ j, j < xs.length → w.cell? ⟨b, o + j, none⟩ = some (.int .i64 (xs.getD j 0))) := by
    rcases h with ⟨_, rfl, _⟩ | ⟨b, o, rfl, hI⟩
    · exact ⟨0, 0, by simp, by simp, Lib.hid (by simp)⟩
    · exact ⟨b, o, fun _ => rfl, fun _ => hI.cell.1, Lib.hid hI.cell.2.2.2.2⟩
  obtain ⟨b, o, hab, hbw, HCX⟩ := base
  have HCM := HS.out.cap
  unfold maxLen at HCM
  have HAB := Lib.hid hab
  have HBW := Lib.hid hbw
  clear h hab hbw
  go_enter Tryz.func49, Tryz.ntmps49
  go_wp2_with fail
  go_loopw [7, 8, 15] (fun v cy i wr => ∃ (k : Nat) (zs : List Int) (c0 : Int), i = .int .i64 k ∧ cy = .int .i64 c0 ∧ Hid (zs.length = k) ∧ 0 ≤ c0 ∧ c0 ≤ 9999 ∧ k ≤ xs.length ∧
      wr.ownsRow w.heap.size 3 1 v zs.length (zs.map (Value.int .i64)) ∧ LDig zs ∧ Hid (Lval zs + Lp10 k * c0 = Lval (xs.take k) * f + ad) ∧ Below w.heap.size w wr)
    (fun _ _ i _ => xs.length - (intOf i).toNat)
  case atStart => exact ⟨0, [], ad, rfl, rfl, Lib.hid rfl, ha0, ha1, by omega, ⟨rfl, .inl ⟨rfl, rfl⟩⟩, LDig.nil, Lib.hid (by simp [Lval, Lp10]), Below.refl _ _⟩
  case round =>
    obtain ⟨k, zs, c0, rfl, rfl, hzl, hc0, hc1, hk, hown, hdz, hv, hbl⟩ := hrel
    by_cases hkL : k < xs.length
    · obtain rfl := HAB.out (by omega)
      have hb := HBW.out (by omega)
      obtain ⟨dx, hdx'⟩ : ∃ dx, dx = xs.getD k 0 := ⟨_, rfl⟩
      have hb1 : 0 ≤ dx ∧ dx ≤ 9999 := by rw [hdx']; exact hdx.getD k
      have cx : wr.cell? ⟨b, o + k, none⟩ = some (.int .i64 dx) := by rw [hdx']; exact (hbl.cell (p := ⟨b, o + k, none⟩) hb).trans (HCX.out k hkL)
      have p0 : 0 ≤ dx * f := Int.mul_nonneg hb1.1 hf0
      have p1 : dx * f ≤ 99980001 := Int.le_trans (Int.mul_le_mul_of_nonneg_right hb1.2 hf0) (by omega)
      have R := Lib.hid (Lsmall_step (s := dx * f + c0) hdx hdz hzl.out hc0 hc1 hf0 hf1 (by rw [hdx']) hv.out)
      clear hdx'
      go_wp2_with (at_builtin; refine wpList_append_own _ rfl (.tmp 24) (.tmp 27) 48 rfl w.heap.size 3 i0 (.int .i64 0) 1 8 Tryz.underlying48 hi hz0 hz1 hz2 rfl (by decide) _ _ _ rfl (hown.alloc _) ⟨wr.heap.size, 0, none⟩ 1 1 [.int .i64 _] rfl rfl (cell_one_new _ _ _) (by intro u hu; simp at hu; subst hu; rfl) (by have := hzl.out; unfold maxLen; omega) (by have := hzl.out; omega) (by have := hbl.size; simp; omega) ?_; intro v' w1 hown' hgrow hnil; clear hnil)
      have hB := (hbl.alloc (Nat.le_trans hbl.size (Nat.le_refl _)) _).grown hgrow (by have := hbl.size; simp; omega) (fun j hj => (hown.lt j hj).1)
      go_roundw
      case rel => exact ⟨k + 1, zs ++ [(dx * f + c0) % 10000], (dx * f + c0) / 10000, by go_num, by first | rfl | go_num, Lib.hid (by simp [hzl.out]), R.out.2.2.2.1, R.out.2.2.2.2.1, by omega, by simpa using hown', R.out.1, Lib.hid R.out.2.2.2.2.2, hB⟩
      case measure => simp [intOf]; omega
    · obtain rfl : k = xs.length := by omega
      have E := Lib.hid (Lplus_end hdz hzl.out hc0 hc1 hv.out)
      have HV := Lib.hid (show Lval (xs.take xs.length) * f + ad = (((m * f + ad).toNat : Nat) : Int) from by
        rw [Ltake_of_ge (Nat.le_refl _), HM.out, HP.out])
      go_wp2_with (at_builtin; refine wpList_append_own _ rfl (.tmp 32) (.tmp 34) 48 rfl w.heap.size 3 i0 (.int .i64 0) 1 8 Tryz.underlying48 hi hz0 hz1 hz2 rfl (by decide) _ _ _ rfl (hown.alloc _) ⟨wr.heap.size, 0, none⟩ 1 1 [.int .i64 _] rfl rfl (cell_one_new _ _ _) (by intro u hu; simp at hu; subst hu; rfl) (by have := hzl.out; unfold maxLen; omega) (by have := hzl.out; omega) (by have := hbl.size; simp; omega) ?_; intro v' w1 hown' hgrow hnil; clear hnil; obtain ⟨g2, cap2, rfl, hg2⟩ := own_shape hown' (by omega))
      have hB := (hbl.alloc (Nat.le_trans hbl.size (Nat.le_refl _)) _).grown hgrow (by have := hbl.size; simp; omega) (fun j hj => (hown.lt j hj).1)
      have hS2 : Sl w1.heap.size w1 (some ⟨g2, 0, none⟩) cap2 (zs ++ [c0]) := sl_of_row (by simpa using hown')
      have hl2 : zs.length + 1 = (zs ++ [c0]).length := by simp
      have T := Lib.hid (ptrim_any _ _ _ w1 hS2 E.out.1 (by have := hzl.out; simp; omega))
      rw [← hl2] at T
      have HS2 := Lib.hid hS2
      clear hl2 hown' hS2
      go_wp2_with fail
      refine T.out.mono ?_
      rintro e w2 ⟨k2, rfl, hk2, ht2, rfl⟩
      go_wp2
      go_ret
      exact outK_of HS2.out hk2 ht2.out (by rw [E.out.2, HV.out]) rfl hB (new_at hg2)
end Go.Proofs.YtebejllehbpahaaGreatDoor

/- A copy of a list of limbs. -/
namespace Go.Proofs.YtebejllehbpahaaGreatDoor
open Go.RowKit Go.Proofs.ArM

def OutCl (w : World) (xs : List Int) (e : Ending) (w' : World) : Prop :=
  ∃ a c, e = .returned (.slice a xs.length c) ∧ Sl w'.heap.size w' a c xs ∧ Below w.heap.size w w' ∧ Hid (∀ p, a = some p → w.heap.size ≤ p.block)

set_option maxHeartbeats 1600000 in
set_option maxRecDepth 100000 in
theorem pclone_any (a : Option Addr) (c : Nat) (xs : List Int) (w : World) (h : Sl w.heap.size w a c xs) (hl : xs.length ≤ 100000) :
    Calls Tryz.prog 74 #[.slice a xs.length c] w (OutCl w xs) := by
  obtain ⟨i0, hi, hz0, hz1, hz2⟩ := info_parts Tryz.info3
  have hn := fun (x : Option Addr) (l k : Nat) (wx : World) => Lib.run_eql_slice_nil (P := Tryz.prog) wx 48 3 x l k 0 0 Tryz.underlying48
  rcases h with ⟨rfl, rfl, rfl⟩ | ⟨b, o, rfl, hI⟩
  · go_enter Tryz.func74, Tryz.ntmps74
    go_wp2
    go_ret
    exact ⟨none, 0, rfl, .nil, Below.refl _ _, Lib.hid new_none⟩
  · have hI0 := World.ownsRow_lit (base := w.heap.size) (e := 3) (size := 1) w #[] 0 (Nat.le_refl _) (by unfold maxLen; omega) rfl
    have hba : Below w.heap.size w (w.alloc (.cells #[] 3)) := (Below.refl _ _).alloc (Nat.le_refl _) _
    have HN := Lib.hid (hI.later hba).news
    have HL0 := Lib.hid (show (xs.map (Value.int .i64)).length = xs.length * 1 from by simp)
    have hcb := hI.cell.1
    go_enter Tryz.func74, Tryz.ntmps74
    go_wp2_with (at_builtin; (refine wpList_append_own _ rfl (.tmp 5) (.tmp 6) 48 rfl w.heap.size 3 i0 (.int .i64 0) 1 8 Tryz.underlying48 hi hz0 hz1 hz2 rfl (by decide) (.slice (some ⟨w.heap.size, 0, none⟩) 0 0) 0 [] rfl hI0 ⟨b, o, none⟩ xs.length c (xs.map (Value.int .i64)) rfl HL0.out HN.out (ints_one xs) (by unfold maxLen; omega) (by omega) (by simp) ?_); intro v' w1 hown' hgrow hnil; clear hnil; obtain ⟨a2, c2, rfl, hS2, hn2⟩ := own_sl (xs := xs) (by simpa using hown'))
    have hB := hba.grown hgrow (by simp) (fun j hj => by simp [Value.ownBlock] at hj; omega)
    go_wp2
    go_ret
    exact ⟨a2, c2, rfl, hS2, hB, Lib.hid hn2⟩
end Go.Proofs.YtebejllehbpahaaGreatDoor

/- The product of two lists of limbs. -/
namespace Go.Proofs.YtebejllehbpahaaGreatDoor
open Go.RowKit Go.Proofs.ArM

/-- block g holds the ints os in an array -/
def Arr (g : Nat) (w : World) (os : List Int) : Prop := os.length = 250 ∧ w.heap[g]? = some (.cells (os.map (Value.int .i64)).toArray 121 (0, 0))

theorem Arr.cell {g : Nat} {w : World} {os : List Int} (h : Arr g w os) (j : Nat) (hj : j < 250) : w.cell? ⟨g, j, none⟩ = some (.int .i64 (os.getD j 0)) := by
  have := h.1
  simp [World.cell?, h.2, List.getD, show j < os.length by omega]
theorem Arr.frozen {g : Nat} {w : World} {os : List Int} (h : Arr g w os) (j : Nat) : w.frozen? ⟨g, j, none⟩ = false := by
  simp [World.frozen?, h.2]
theorem Arr.set {g : Nat} {w : World} {os : List Int} (h : Arr g w os) (j : Nat) (d : Int) : Arr g (w.setCell ⟨g, j, none⟩ (.int .i64 d)) (os.set j d) := by
  refine ⟨by rw [List.length_set]; exact h.1, ?_⟩
  rw [heap_setCell_same w g j _ _ _ h.2]
  congr 2
  apply Array.toList_inj.1
  rw [Array.toList_setIfInBounds, List.map_set]
theorem Arr.lt {g : Nat} {w : World} {os : List Int} (h : Arr g w os) : g < w.heap.size := (Array.getElem?_eq_some_iff.1 h.2).1
theorem Arr.sl {g : Nat} {w : World} {os : List Int} (h : Arr g w os) : Sl w.heap.size w (some ⟨g, 0, none⟩) 250 os := by
  refine .mk ⟨g, 0, 250, rfl, by rw [h.1]; exact Nat.le_refl _, by unfold maxLen; omega, h.lt, fun j hj => ?_⟩
  rw [Nat.zero_add]
  exact h.cell j (by have := h.1; omega)

theorem zeros_arr : Tryz.zeroCells121 = ((List.replicate 250 (0 : Int)).map (Value.int .i64)).toArray := by kernel_rfl
theorem arr_new (w : World) : Arr w.heap.size (w.alloc (.cells Tryz.zeroCells121 121)) (List.replicate 250 0) :=
  ⟨List.length_replicate, by rw [heap_alloc_new, zeros_arr]⟩

theorem getD_replicate0 (n j : Nat) : (List.replicate n (0 : Int)).getD j 0 = 0 := by
  by_cases h : j < n <;> simp [List.getD, h]

/-- the place behind a row of products takes the carry -/
theorem Ltimes_end {os xs ys : List Int} {i : Nat} {c0 : Int} (ho : LDig os) (h0 : 0 ≤ c0) (h9 : c0 ≤ 9999) (hj : i + ys.length < os.length) (hz : os.getD (i + ys.length) 0 = 0)
    (hv : Lval os + Lp10 (i + ys.length) * c0 = Lval (xs.take i) * Lval ys + Lp10 i * (xs.getD i 0 * Lval (ys.take ys.length))) :
    LDig (os.set (i + ys.length) c0) ∧ Lval (os.set (i + ys.length) c0) = Lval (xs.take (i + 1)) * Lval ys := by
  refine ⟨ho.set _ ⟨h0, h9⟩, ?_⟩
  rw [Lval_set _ _ _ hj, hz, Int.sub_zero, hv, Ltake_of_ge (Nat.le_refl _), Lval_take_succ, Int.add_mul, Int.mul_assoc]

theorem base_of {n : Nat} {w : World} {a : Option Addr} {c : Nat} {xs : List Int} (h : Sl n w a c xs) : ∃ b o, (0 < xs.length → a = some ⟨b, o, none⟩) ∧ (0 < xs.length → b < n) ∧ Hid (∀ j, j < xs.length → w.cell? ⟨b, o + j, none⟩ = some (.int .i64 (xs.getD j 0))) := by
  rcases h with ⟨_, rfl, _⟩ | ⟨b, o, rfl, hI⟩
  · exact ⟨0, 0, by simp, by simp, Lib.hid (by simp)⟩
  · exact ⟨b, o, fun _ => rfl, fun _ => hI.cell.1, Lib.hid hI.cell.2.2.2.2⟩

set_option maxHeartbeats 6400000 in
set_option maxRecDepth 100000 in
theorem ptimes_any (a a' : Option Addr) (c c' : Nat) (xs ys : List Int) (m n : Nat) (w : World) (h : Sl w.heap.size w a c xs) (h' : Sl w.heap.size w a' c' ys) (hx : xs = Ldigs m) (hy : ys = Ldigs n) (hlx : xs.length ≤ 125) (hly : ys.length ≤ 125) :
    Calls Tryz.prog 81 #[.slice a xs.length c, .slice a' ys.length c'] w (OutK w (m * n)) := by
  have hdx : LDig xs := by rw [hx]; exact ldig_digs _
  have hdy : LDig ys := by rw [hy]; exact ldig_digs _
  have HM := Lib.hid (show Lval xs = (m : Int) from by rw [hx, Lval_digs])
  have HN := Lib.hid (show Lval ys = (n : Int) from by rw [hy, Lval_digs])
  obtain ⟨b, o, hab, hbw, HCX⟩ := base_of h
  obtain ⟨b', o', hab', hbw', HCY⟩ := base_of h'
  have hcx := h.cap
  have hcy := h'.cap
  unfold maxLen at hcx hcy
  have HAB := Lib.hid hab
  have HBW := Lib.hid hbw
  have HAB' := Lib.hid hab'
  have HBW' := Lib.hid hbw'
  clear hx hy h h' hab hbw hab' hbw'
  go_enter Tryz.func81, Tryz.ntmps81
  go_wp2_with fail
  obtain ⟨W, hW⟩ : ∃ W, W = w.alloc (.cells Tryz.zeroCells121 121) := ⟨_, rfl⟩
  rw [← hW]
  have hA0 : Arr w.heap.size W (List.replicate 250 0) := by rw [hW]; exact arr_new w
  have hbW : Below w.heap.size w W := by rw [hW]; exact (Below.refl _ _).alloc (Nat.le_refl _) _
  clear hW
  have HA0 := Lib.hid hA0
  clear hA0
  go_loopw [14] (fun i wr => ∃ (k : Nat) (os : List Int), i = .int .i64 k ∧ k ≤ xs.length ∧ Hid (Arr w.heap.size wr os) ∧ LDig os ∧ Hid (Lval os = Lval (xs.take k) * Lval ys) ∧ Hid (∀ j, k + ys.length ≤ j → os.getD j 0 = 0) ∧ Below w.heap.size w wr)
    (fun i _ => xs.length - (intOf i).toNat)
  case atStart => exact ⟨0, _, rfl, Nat.zero_le _, HA0, Ldig_replicate 250, Lib.hid (by rw [Lval_replicate]; simp [Lval]), Lib.hid (fun j _ => getD_replicate0 250 j), hbW⟩
  case round =>
    obtain ⟨i, os, rfl, hi1, hown, hdo, hv, hz, hbl⟩ := hrel
    clear HA0 hbW
    by_cases hA : i < xs.length
    · obtain rfl := HAB.out (by omega)
      have hb := HBW.out (by omega)
      obtain ⟨dx, hdx'⟩ : ∃ dx, dx = xs.getD i 0 := ⟨_, rfl⟩
      have hdx0 : 0 ≤ dx ∧ dx ≤ 9999 := by rw [hdx']; exact hdx.getD i
      have cx : wr.cell? ⟨b, o + i, none⟩ = some (.int .i64 dx) := by rw [hdx']; exact (hbl.cell (p := ⟨b, o + i, none⟩) hb).trans (HCX.out i hA)
      have HX := Lib.hid hdx'
      clear hdx'
      go_wp2_with fail
      obtain ⟨wo, rfl⟩ : ∃ wo : World, wo = wr := ⟨_, rfl⟩
      clear cx
      go_loopw [8, 21] (fun cy k wr => ∃ (kk : Nat) (os : List Int) (c0 : Int), k = .int .i64 kk ∧ cy = .int .i64 c0 ∧ 0 ≤ c0 ∧ c0 ≤ 9999 ∧ kk ≤ ys.length ∧
          Hid (Arr w.heap.size wr os) ∧ LDig os ∧ Hid (Lval os + Lp10 (i + kk) * c0 = Lval (xs.take i) * Lval ys + Lp10 i * (xs.getD i 0 * Lval (ys.take kk))) ∧ Hid (∀ j, i + ys.length ≤ j → os.getD j 0 = 0) ∧ Below w.heap.size w wr)
        (fun _ k _ => ys.length - (intOf k).toNat)
      case atStart => exact ⟨0, os, 0, rfl, rfl, by omega, by omega, by omega, hown, hdo, Lib.hid (by rw [hv.out]; simp [Lval]), hz, hbl⟩
      case round =>
        obtain ⟨k, os2, c0, rfl, rfl, hc0, hc9, hk1, hown2, hdo2, hv2, hz2, hbl2⟩ := hrel
        by_cases hB : k < ys.length
        · obtain rfl := HAB'.out (by omega)
          have hb' := HBW'.out (by omega)
          obtain ⟨dy, hdy'⟩ : ∃ dy, dy = ys.getD k 0 := ⟨_, rfl⟩
          obtain ⟨dz, hdz'⟩ : ∃ dz, dz = os2.getD (i + k) 0 := ⟨_, rfl⟩
          have hdy0 : 0 ≤ dy ∧ dy ≤ 9999 := by rw [hdy']; exact hdy.getD k
          have hdz0 : 0 ≤ dz ∧ dz ≤ 9999 := by rw [hdz']; exact hdo2.getD _
          have p0 : 0 ≤ dx * dy := Int.mul_nonneg hdx0.1 hdy0.1
          have p81 : dx * dy ≤ 99980001 := Int.le_trans (Int.mul_le_mul_of_nonneg_right hdx0.2 hdy0.1) (by omega)
          have hik : i + k < 250 := by omega
          have cz : wr.cell? ⟨w.heap.size, i + k, none⟩ = some (.int .i64 dz) := by rw [hdz']; exact hown2.out.cell _ hik
          have fz := hown2.out.frozen (i + k)
          have cy : wr.cell? ⟨b', o' + k, none⟩ = some (.int .i64 dy) := by rw [hdy']; exact (hbl2.cell (p := ⟨b', o' + k, none⟩) hb').trans (HCY.out k hB)
          have HT := Lib.hid (Ltimes_step (t := dz + dx * dy + c0) hdo2 hdx hdy (by have := hown2.out.1; omega) hc0 hc9 (by rw [hdz', HX.out, hdy']; omega) hv2.out)
          clear hdy' hdz'
          go_wp2
          have st := hown2.out.set (i + k) ((dz + dx * dy + c0) % 10000)
          go_roundw
          case rel => exact ⟨k + 1, os2.set (i + k) ((dz + dx * dy + c0) % 10000), (dz + dx * dy + c0) / 10000, by go_num, by first | rfl | go_num, HT.out.2.1, HT.out.2.2.1, by omega, Lib.hid st, HT.out.1, Lib.hid HT.out.2.2.2, Lib.hid (fun j hj => by rw [LgetD_set_ne (by omega)]; exact hz2.out j hj), hbl2.setCell (Nat.le_refl _) _⟩
          case measure => simp [intOf]; omega
        · obtain rfl : k = ys.length := by omega
          have hik : i + ys.length < 250 := by omega
          have HE := Lib.hid (Ltimes_end hdo2 hc0 hc9 (by have := hown2.out.1; omega) (hz2.out _ (Nat.le_refl _)) hv2.out)
          have cz := hown2.out.cell _ hik
          rw [hz2.out _ (Nat.le_refl _)] at cz
          have fz := hown2.out.frozen (i + ys.length)
          go_wp2
          have st := hown2.out.set (i + ys.length) c0
          go_roundw
          case rel => exact ⟨i + 1, os2.set (i + ys.length) c0, by go_num, by omega, Lib.hid st, HE.out.1, Lib.hid HE.out.2, Lib.hid (fun j hj => by rw [LgetD_set_ne (by omega)]; exact hz2.out j (by omega)), hbl2.setCell (Nat.le_refl _) _⟩
          case measure => simp [intOf]; omega
    · obtain rfl : i = xs.length := by omega
      have hS := hown.out.sl
      have HL := Lib.hid hown.out.1
      have T := Lib.hid (ptrim_any (some ⟨w.heap.size, 0, none⟩) 250 os wr hS hdo (by rw [HL.out]; omega))
      have HS := Lib.hid hS
      have hv' := hv.out
      rw [Ltake_of_ge (Nat.le_refl _), HM.out, HN.out] at hv'
      have HV := Lib.hid (show Lval os = ((m * n : Nat) : Int) from by rw [hv']; exact (Int.natCast_mul m n).symm)
      rw [HL.out] at T
      clear hv' hS
      go_wp2_with fail
      refine T.out.mono ?_
      rintro e w2 ⟨k2, rfl, hk2, ht2, rfl⟩
      have hlk : (os.take k2).length = k2 := by rw [List.length_take, Nat.min_eq_left hk2]
      have K := Lib.hid (pclone_any (some ⟨w.heap.size, 0, none⟩) 250 (os.take k2) wr (HS.out.take hk2) (by rw [hlk]; have := HL.out; omega))
      rw [hlk] at K
      have HLK := Lib.hid hlk
      clear hlk
      go_wp2_with fail
      refine K.out.mono ?_
      rintro e w3 ⟨a3, c3, rfl, hS3, hb3, hn3⟩
      have hbz := hbl.trans (hb3.mono hbl.size)
      have H3 := Lib.hid (show os.take k2 = Ldigs (m * n) from by rw [ht2.out, HV.out, Int.toNat_natCast])
      have HB := Lib.hid hbl.size
      go_wp2
      go_ret
      exact ⟨a3, c3, os.take k2, by rw [HLK.out]; rfl, hS3, H3, hbz, Lib.hid (fun p hp => Nat.le_trans HB.out (hn3.out p hp))⟩
end Go.Proofs.YtebejllehbpahaaGreatDoor

/- The estimate of a limb of a quotient. -/
namespace Go.Proofs.YtebejllehbpahaaGreatDoor
open Go.RowKit Go.Proofs.ArM

theorem at_neg (a : Option Addr) (c : Nat) (xs : List Int) (i : Int) (w : World) (h : Sl w.heap.size w a c xs) (hi : i < 0) (hi0 : -1000000 ≤ i) (hl : xs.length ≤ 1000000) :
    Calls Tryz.prog 84 #[.slice a xs.length c, .int .i64 i] w (fun e w' => e = .returned (.int .i64 0) ∧ w = w') := by
  have := at_any a c xs i w h (by omega) hi0 hl
  rwa [if_pos hi] at this

/-- at the place before the last but one, where there may be none -/
theorem at_two (a : Option Addr) (c : Nat) (xs : List Int) (n : Nat) (d : Int) (w : World) (h : Sl w.heap.size w a c xs) (h0 : 0 < n) (hk : n ≤ 1000000) (hl : xs.length ≤ 1000000) (h1 : n = 1 → d = 0) (h2 : 2 ≤ n → d = xs.getD (n - 2) 0) :
    Calls Tryz.prog 84 #[.slice a xs.length c, .int .i64 ((n : Int) - 2)] w (fun e w' => e = .returned (.int .i64 d) ∧ w = w') := by
  rcases Nat.lt_or_ge n 2 with hn | hn
  · obtain rfl : n = 1 := by omega
    rw [h1 rfl]
    exact at_neg a c xs _ w h (by omega) (by omega) hl
  · have := at_nat a c xs (n - 2) d w h (by omega) hl (h2 hn)
    rwa [show ((n - 2 : Nat) : Int) = (n : Int) - 2 from by omega] at this

def OutEst (w : World) (x y : Int) (e : Ending) (w' : World) : Prop := ∃ q : Int, e = .returned (.int .i64 q) ∧ 0 ≤ q ∧ q * y ≤ x ∧ w = w'

set_option maxHeartbeats 3200000 in
set_option maxRecDepth 100000 in
theorem pest_any (a a' : Option Addr) (c c' : Nat) (xs ys : List Int) (w : World) (h : Sl w.heap.size w a c xs) (h' : Sl w.heap.size w a' c' ys) (hx : LDig xs) (hy : LDig ys) (h0 : 0 < ys.length) (hyl : ys.length ≤ 100000) (hxl : xs.length ≤ ys.length + 1) :
    Calls Tryz.prog 75 #[.slice a xs.length c, .slice a' ys.length c'] w (OutEst w (Lval xs) (Lval ys)) := by
  obtain ⟨n, hn⟩ : ∃ n, n = ys.length := ⟨_, rfl⟩
  rw [← hn] at h0 hyl hxl ⊢
  obtain ⟨x0, hx0⟩ : ∃ x0, x0 = xs.getD n 0 := ⟨_, rfl⟩
  obtain ⟨x1, hx1⟩ : ∃ x1, x1 = xs.getD (n - 1) 0 := ⟨_, rfl⟩
  obtain ⟨x2, hx2⟩ : ∃ x2, x2 = if n < 2 then 0 else xs.getD (n - 2) 0 := ⟨_, rfl⟩
  obtain ⟨y1, hy1⟩ : ∃ y1, y1 = ys.getD (n - 1) 0 := ⟨_, rfl⟩
  obtain ⟨y2, hy2⟩ : ∃ y2, y2 = if n < 2 then 0 else ys.getD (n - 2) 0 := ⟨_, rfl⟩
  have A0 := Lib.hid (at_nat a c xs n x0 w h (by omega) (by omega) hx0)
  have A1 := at_nat a c xs (n - 1) x1 w h (by omega) (by omega) hx1
  have A2 := Lib.hid (at_two a c xs n x2 w h h0 (by omega) (by omega) (fun e => by rw [hx2, if_pos (by omega)]) (fun e => by rw [hx2, if_neg (by omega)]))
  have B1 := at_nat a' c' ys (n - 1) y1 w h' (by omega) (by omega) hy1
  have B2 := Lib.hid (at_two a' c' ys n y2 w h' h0 (by omega) (by omega) (fun e => by rw [hy2, if_pos (by omega)]) (fun e => by rw [hy2, if_neg (by omega)]))
  rw [← hn] at B1 B2
  rw [show ((n - 1 : Nat) : Int) = (n : Int) - 1 from by omega] at A1 B1
  have A1 := Lib.hid A1
  have B1 := Lib.hid B1
  have R := Lib.hid (Lestimate_le (n := n) (x2 := x2) (y2 := y2) (est := ((x0 * 10000 + x1) * 10000 + x2) / (y1 * 10000 + y2 + 1)) hx hy hn.symm h0 hxl (fun e => by rw [hx2, if_neg (by omega)]) (fun e => by rw [hx2, if_pos (by omega)]) (fun e => by rw [hy2, if_neg (by omega)]) (fun e => by rw [hy2, if_pos (by omega)]) (by rw [hx0, hx1, hy1]))
  have b0 : 0 ≤ x0 ∧ x0 ≤ 9999 := by rw [hx0]; exact hx.getD _
  have b1 : 0 ≤ x1 ∧ x1 ≤ 9999 := by rw [hx1]; exact hx.getD _
  have c1 : 0 ≤ y1 ∧ y1 ≤ 9999 := by rw [hy1]; exact hy.getD _
  have b2 : 0 ≤ x2 ∧ x2 ≤ 9999 := by
    rw [hx2]; split
    · omega
    · exact hx.getD _
  have c2 : 0 ≤ y2 ∧ y2 ≤ 9999 := by
    rw [hy2]; split
    · omega
    · exact hy.getD _
  have HN := Lib.hid hn
  clear hx0 hx1 hx2 hy1 hy2 hn h h'
  go_enter Tryz.func75, Tryz.ntmps75
  go_wp2_with fail
  refine A0.out.mono ?_
  rintro e w2 ⟨rfl, rfl⟩
  go_wp2_with fail
  refine A1.out.mono ?_
  rintro e w2 ⟨rfl, rfl⟩
  go_wp2_with fail
  refine A2.out.mono ?_
  rintro e w2 ⟨rfl, rfl⟩
  go_wp2_with fail
  refine B1.out.mono ?_
  rintro e w2 ⟨rfl, rfl⟩
  go_wp2_with fail
  refine B2.out.mono ?_
  rintro e w2 ⟨rfl, rfl⟩
  go_wp2
  go_ret
  exact ⟨_, rfl, R.out.1, R.out.2, rfl⟩
end Go.Proofs.YtebejllehbpahaaGreatDoor

/- One list of limbs behind another one; the rest of a list. -/
namespace Go.Proofs.YtebejllehbpahaaGreatDoor
open Go.RowKit Go.Proofs.ArM

theorem app_sl {ops : Array Oper} {rest : List Oper} {o : Oper} {a : Act} {w : World} {Q : Exit → Act → World → Prop} (hgd : o.guard = none) (s x : Operand) (t : TypeId)
    (ho : o.op = .call { callee := .builtin .append, args := #[s, x], argTypes := #[t, t] }) (ht : Tryz.prog.underlying t = some (.slice 3))
    (base n : Nat) (v : Value) (xs : List Int) (hs : a.eval s = v) (hown : w.ownsRow base 3 1 v n (xs.map (Value.int .i64)))
    (N m c : Nat) (ax : Option Addr) (ys : List Int) (hx : a.eval x = .slice ax m c) (hm : m = ys.length) (hS : Sl N w ax c ys) (h1 : n + ys.length ≤ 1000000) (hbase : base ≤ w.heap.size)
    (h : ∀ v' w', w'.ownsRow base 3 1 v' (n + ys.length) ((xs ++ ys).map (Value.int .i64)) → w.grownBy w' v.ownBlock → wpList Tryz.prog ops Q rest (a.put o.dst v') w') : wpList Tryz.prog ops Q (o :: rest) a w := by
  obtain ⟨i0, hi, hz0, hz1, hz2⟩ := info_parts Tryz.info3
  subst hm
  rcases hS with ⟨rfl, rfl, rfl⟩ | ⟨b, of, rfl, hI⟩
  · refine wpList_append_own_none hgd s x t ho base 3 i0 1 ht hi v n _ hs hown hx (h v w ?_ (World.grownBy.refl w _))
    simpa using hown
  · refine wpList_append_own _ hgd s x t ho base 3 i0 (.int .i64 0) 1 8 ht hi hz0 hz1 hz2 rfl (by decide) v n _ hs hown ⟨b, of, none⟩ ys.length c (ys.map (Value.int .i64)) hx (by simp) hI.news (ints_one ys) (by unfold maxLen; omega) (by omega) hbase (fun v' w' h2 h3 _ => h v' w' (by rw [List.map_append]; exact h2) h3)

/-- the rest of a list -/
theorem drop_sl {n : Nat} {w : World} {a : Option Addr} {c S : Nat} {xs : List Int} (h : Sl n w a c xs) (hS : S ≤ xs.length) :
    ∃ a2, Hid (∀ wx, (Instr.slice 48 (.slice a xs.length c) (some (.int .i64 (S : Int))) none none).run Tryz.prog wx = .ok (.slice a2 (xs.length - S) (c - S)) wx) ∧ Sl n w a2 (c - S) (xs.drop S) := by
  have hcap := h.cap
  refine ⟨if c = S then a else a.map (·.add S), Lib.hid (fun wx => ?_), ?_⟩
  · rw [run_slice_l _ 48 a xs.length c (by kernel_rfl) .i64 (S : Int) (by omega) (by omega)]
    have hz : (sizeOf (Tryz.prog.elem 48)).run Tryz.prog wx = .ok 1 wx := by kernel_rfl
    rw [hz]
    simp [Result.andThen, sliced]
  · rcases h with ⟨rfl, rfl, rfl⟩ | ⟨b, o, rfl, hI⟩
    · have : S = 0 := by simpa using hS
      subst this
      simpa using Sl.nil
    · by_cases hc : c = S
      · have hl : xs.drop S = [] := List.drop_eq_nil_of_le (by omega)
        rw [if_pos hc, hl, hc, Nat.sub_self]
        exact .mk ⟨b, o, 0, rfl, by simp, by unfold maxLen; omega, hI.cell.1, fun j hj => by simp at hj⟩
      · rw [if_neg hc]
        have hadd : (Option.map (fun x : Addr => x.add S) (some ⟨b, o, none⟩)) = some ⟨b, o + S, none⟩ := by
          simp only [Option.map_some, Option.some.injEq]
          unfold Addr.add; split <;> simp_all
        rw [hadd]
        refine .mk ⟨b, o + S, c - S, by rw [List.length_drop], by rw [List.length_drop]; omega, by omega, hI.cell.1, fun j hj => ?_⟩
        rw [List.length_drop] at hj
        have := hI.cell.2.2.2.2 (S + j) (by omega)
        rw [show o + S + j = o + (S + j) from by omega, this]
        simp [List.getD, List.getElem?_drop]

theorem own_cell {w : World} {base g n cap : Nat} {qs : List Int} (h : w.ownsRow base 3 1 (.slice (some ⟨g, 0, none⟩) n cap) n (qs.map (Value.int .i64))) (j : Nat) (hj : j < qs.length) : w.cell? ⟨g, j, none⟩ = some (.int .i64 (qs.getD j 0)) := by
  have := (ints_of_row h).cell.2.2.2.2 j hj
  rwa [Nat.zero_add] at this

theorem own_store {w : World} {base g n cap : Nat} {qs : List Int} (h : w.ownsRow base 3 1 (.slice (some ⟨g, 0, none⟩) n cap) n (qs.map (Value.int .i64))) (j : Nat) (d : Int) :
    (w.setCell ⟨g, j, none⟩ (.int .i64 d)).ownsRow base 3 1 (.slice (some ⟨g, 0, none⟩) n cap) n ((qs.set j d).map (Value.int .i64)) := by
  have := (h.stored j (.int .i64 d)).1
  rwa [← List.map_set] at this

end Go.Proofs.YtebejllehbpahaaGreatDoor
