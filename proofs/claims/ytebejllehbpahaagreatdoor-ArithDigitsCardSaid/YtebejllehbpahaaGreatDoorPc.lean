/- Quotients, powers and signs. -/
import Derived.Test.YtebejllehbpahaaGreatDoorPb
import Derived.Lib.RabinKarpLaws
import Derived.Test.YtebejllehbpahaaGreatDoorPa
/- The quotient and the remainder of two lists of limbs. -/
namespace Go.Proofs.YtebejllehbpahaaGreatDoor
open Go.RowKit Go.Proofs.ArM

/-- a quotient and a remainder -/
def OutDv (w : World) (m n : Nat) (e : Ending) (w' : World) : Prop :=
  ∃ a c qs a' c' rs, e = .returned (.tuple #[.slice a qs.length c, .slice a' rs.length c']) ∧ Sl w'.heap.size w' a c qs ∧ Sl w'.heap.size w' a' c' rs ∧ Hid (qs = Ldigs (m / n)) ∧ Hid (rs = Ldigs (m % n)) ∧ Below w.heap.size w w'

theorem pcmp_lt (a a' : Option Addr) (c c' : Nat) (xs ys : List Int) (m n : Nat) (w : World) (h : Sl w.heap.size w a c xs) (h' : Sl w.heap.size w a' c' ys) (hx : xs = Ldigs m) (hy : ys = Ldigs n) (hlx : xs.length ≤ 1000000) (hly : ys.length ≤ 1000000) :
    ∃ v : Int, (m < n → v < 0) ∧ (n ≤ m → 0 ≤ v) ∧ Calls Tryz.prog 63 #[.slice a xs.length c, .slice a' ys.length c'] w (OutV w (.int .i64 v)) := by
  have hmx : Lval xs = (m : Int) := by rw [hx, Lval_digs]
  have hmy : Lval ys = (n : Int) := by rw [hy, Lval_digs]
  refine ⟨_, ?_, ?_, pcmp_any a a' c c' xs ys w h h' (by rw [hx]; exact Lcanon_digs _) (by rw [hy]; exact Lcanon_digs _) hlx hly⟩
  · intro hl
    rw [hmx, hmy, LordZ_lt (by omega)]; omega
  · intro hl
    rw [hmx, hmy]
    rcases Nat.lt_or_ge n m with h1 | h1
    · rw [LordZ_gt (by omega)]; omega
    · rw [LordZ_eq (by omega)]; omega

set_option maxHeartbeats 12800000 in
set_option maxRecDepth 100000 in
theorem pdiv_any (a a' : Option Addr) (c c' : Nat) (xs ys : List Int) (m n : Nat) (w : World) (h : Sl w.heap.size w a c xs) (h' : Sl w.heap.size w a' c' ys) (hx : xs = Ldigs m) (hy : ys = Ldigs n) (hn0 : 0 < n) (hlx : xs.length ≤ 10000) (hly : ys.length ≤ 10000) :
    Calls Tryz.prog 58 #[.slice a xs.length c, .slice a' ys.length c'] w (OutDv w m n) := by
  obtain ⟨i0, hi, hz0, hz1, hz2⟩ := info_parts Tryz.info3
  have hdx : LDig xs := by rw [hx]; exact ldig_digs _
  have hdy : LDig ys := by rw [hy]; exact ldig_digs _
  have HXC := Lib.hid (show LCanon xs from by rw [hx]; exact Lcanon_digs _)
  have HYC := Lib.hid (show LCanon ys from by rw [hy]; exact Lcanon_digs _)
  have HM := Lib.hid (show Lval xs = (m : Int) from by rw [hx, Lval_digs])
  have HN := Lib.hid (show Lval ys = (n : Int) from by rw [hy, Lval_digs])
  have hy0 : 0 < ys.length := by rw [hy]; exact Ldigs_ne hn0
  have HY := Lib.hid hy
  obtain ⟨S, hS⟩ : ∃ S, S = xs.length + 1 - ys.length := ⟨_, rfl⟩
  have hSx : S ≤ xs.length := by omega
  obtain ⟨ad, HSL, hD⟩ := drop_sl h hSx
  have HS := Lib.hid hS
  have hS1 : S ≤ 10000 := by omega
  have HSX := Lib.hid hSx
  have hmax : max (0 : Int) ((xs.length : Int) - (ys.length : Int) + 1) = (S : Int) := by omega
  obtain ⟨b, o, hab, hbw, HCX⟩ := base_of h
  have HAB := Lib.hid hab
  have HBW := Lib.hid hbw
  have HCAP := Lib.hid h.cap
  have HSY := Lib.hid h'
  have HD := Lib.hid hD
  have hsl := HSL.out
  clear hx hy h h' hab hbw hSx hS hD HSL
  go_enter Tryz.func58, Tryz.ntmps58
  go_wp2_with (at_make; refine wpList_make_full _ rfl _ _ 48 rfl w.heap.size 3 i0 (.int .i64 0) 1 Tryz.underlying48 hi hz0 hz1 _ _ _ _ S rfl rfl rfl rfl (by rw [hz2]; omega) (by unfold maxLen; omega) (Nat.le_refl _) ?_; intro w1 hown1 hgrow1)
  have hos0 : (madeCells (Value.int .i64 0).cells (S * 1)).toList = (List.replicate S (0 : Int)).map (Value.int .i64) := by
    rw [Nat.mul_one, show (Value.int .i64 0).cells = #[Value.int .i64 0] from rfl, toList_madeCells_one]; simp
  rw [hos0] at hown1
  clear hos0
  have hbl1 : Below w.heap.size w w1 := (Below.refl _ _).grown hgrow1 (Nat.le_refl _) (fun j hj => by cases hj)
  have hsz1 : w.heap.size < w1.heap.size := (hown1.lt w.heap.size rfl).2
  have K0 := pclone_any ad (c - S) (xs.drop S) w1 (HD.out.later hbl1) (by rw [List.length_drop]; omega)
  rw [List.length_drop] at K0
  have K := Lib.hid K0
  clear K0
  clear hsl hmax hgrow1
  refine K.out.mono ?_
  rintro e w2 ⟨a3, c3, rfl, hS3, hb3, hn3⟩
  have hown2 := own_below hown1 hb3 (fun k hk => by cases hk; exact hsz1)
  have hbl2 := hbl1.trans (hb3.mono (Nat.le_of_lt hsz1))
  have HN3 := Lib.hid (fun p hp => Nat.lt_of_lt_of_le hsz1 (hn3.out p hp))
  have HSZ1 := Lib.hid hsz1
  clear hown1 hbl1 hb3 hsz1 hn3
  go_wp2_with fail
  go_loopw [8, 9] (fun r i wr => ∃ (k R : Nat) (ar : Option Addr) (cr : Nat) (rs qs : List Int), i = .int .i64 ((k : Int) - 1) ∧ k ≤ S ∧ r = .slice ar rs.length cr ∧ Sl wr.heap.size wr ar cr rs ∧ Hid (∀ p, ar = some p → w.heap.size < p.block) ∧ Hid (rs = Ldigs R) ∧ R < n ∧
      wr.ownsRow w.heap.size 3 1 (.slice (some ⟨w.heap.size, 0, none⟩) S S) S (qs.map (Value.int .i64)) ∧ Hid (qs.length = S) ∧ LDig qs ∧ Hid (∀ j, j < k → qs.getD j 0 = 0) ∧ Hid (Lval qs * n + Lp10 k * R = Lp10 k * Lval (xs.drop k)) ∧ Below w.heap.size w wr)
    (fun _ i _ => (intOf i + 1).toNat)
  case atStart =>
    have hdl : (xs.drop S).length < ys.length := by rw [List.length_drop, HS.out]; omega
    have hlt := Llen_lt (hdx.drop S) HYC.out hdl
    have hnn := Lval_nonneg (hdx.drop S)
    rw [HN.out] at hlt
    exact ⟨S, (Lval (xs.drop S)).toNat, a3, c3, xs.drop S, List.replicate S 0, rfl, Nat.le_refl _, by simp, hS3, HN3, Lib.hid (Leq_digs (Lcanon_drop HXC.out S)), by omega, hown2, Lib.hid (by simp), Ldig_replicate S, Lib.hid (fun j _ => getD_replicate0 S j),
      Lib.hid (by rw [Lval_replicate, Int.zero_mul, Int.toNat_of_nonneg hnn]; omega), hbl2⟩
  case round =>
    obtain ⟨k, R, ar, cr, rs, qs, rfl, hk, rfl, hSr, hnr, hrs, hRn, hown, hql, hdq, hqz, hmath, hbl⟩ := hrel
    clear hS3 HN3 hown2 hbl2
    rcases Nat.eq_zero_or_pos k with rfl | hk0
    · have hqn := Lval_nonneg hdq
      have HQV := Lib.hid (Ldiv_end (A := m) (B := n) (Q := Lval qs) (R := R) (by have h := hmath.out; simp only [Lp10, Int.one_mul, List.drop_zero] at h; rw [h, HM.out]) (by omega) (by omega))
      have hSq := sl_of_row hown
      have T0 := ptrim_any (some ⟨w.heap.size, 0, none⟩) S qs wr hSq hdq (by rw [hql.out]; omega)
      rw [hql.out] at T0
      have T := Lib.hid T0
      have HSQ := Lib.hid hSq
      have HSR := Lib.hid hSr
      clear T0 hSq hSr hown hqn
      go_wp2_with fail
      refine T.out.mono ?_
      rintro e w3 ⟨k2, rfl, hk2, ht2, rfl⟩
      have HLK := Lib.hid (show (qs.take k2).length = k2 from by rw [List.length_take, Nat.min_eq_left hk2])
      go_wp2
      go_ret2
      exact ⟨_, _, qs.take k2, _, _, rs, by rw [HLK.out]; rfl, HSQ.out.take hk2, HSR.out, Lib.hid (by rw [ht2.out, HQV.out.1, Int.toNat_natCast]), Lib.hid (by rw [hrs.out]; congr 1; have := HQV.out.2; omega), hbl⟩
    · obtain ⟨j, rfl⟩ : ∃ j, k = j + 1 := ⟨k - 1, by omega⟩
      have hj : ((j + 1 : Nat) : Int) - 1 = (j : Int) := by omega
      rw [hj]
      clear hj
      have hjx : j < xs.length := by have := HSX.out; omega
      obtain rfl := HAB.out (by omega)
      have hb := HBW.out (by omega)
      have hcap := HCAP.out
      unfold maxLen at hcap
      obtain ⟨dx, hdx'⟩ : ∃ dx, dx = xs.getD j 0 := ⟨_, rfl⟩
      have hdx0 : 0 ≤ dx ∧ dx ≤ 9999 := by rw [hdx']; exact hdx.getD j
      have cx : wr.cell? ⟨b, o + j, none⟩ = some (.int .i64 dx) := by rw [hdx']; exact (hbl.cell (p := ⟨b, o + j, none⟩) hb).trans (HCX.out j hjx)
      have HX := Lib.hid hdx'
      have hrl : rs.length ≤ 10000 := by
        have h1 : rs.length ≤ ys.length := by
          have h2 := HY.out
          rw [hrs.out, h2]
          exact Ldigs_len (Int.lt_of_le_of_lt (show (R : Int) ≤ n by omega) (Ldigs_lt n))
        omega
      have HO := Lib.hid (World.ownsRow_lit (base := wr.heap.size) (e := 3) (size := 1) wr #[.int .i64 dx] 1 (Nat.le_refl _) (by unfold maxLen; omega) rfl)
      have hb1c : Below wr.heap.size wr (wr.alloc (.cells #[.int .i64 dx] 3)) := (Below.refl _ _).alloc (Nat.le_refl _) _
      have HB1 := Lib.hid hb1c
      have HSR := Lib.hid (hSr.later hb1c)
      clear hb1c hSr hdx'
      go_wp2_with (at_builtin; refine app_sl rfl (.tmp 33) (.tmp 34) 48 rfl Tryz.underlying48 wr.heap.size 1 (.slice (some ⟨wr.heap.size, 0, none⟩) 1 1) [dx] rfl HO.out _ rs.length cr ar rs rfl rfl HSR.out (by omega) (by simp) ?_; intro v' w4 hown' hgrow; obtain ⟨g2, cap2, rfl, hg2⟩ := own_shape hown' (by omega))
      have hbg : Below wr.heap.size wr w4 := HB1.out.grown hgrow (by simp) (fun k hk => by simp [Value.ownBlock] at hk; omega)
      have hwr : w.heap.size < wr.heap.size := (hown.lt w.heap.size rfl).2
      have hown4 := own_below hown hbg (fun k hk => by cases hk; exact hwr)
      have hbl4 := hbl.trans (hbg.mono hbl.size)
      have hS4 : Sl w4.heap.size w4 (some ⟨g2, 0, none⟩) cap2 (dx :: rs) := sl_of_row (by simpa using hown')
      have HG2 := Lib.hid (show w.heap.size < g2 from by omega)
      have hld : LDig (dx :: rs) := LDig.cons hdx0 (by rw [hrs.out]; exact ldig_digs _)
      have HLD := Lib.hid (show Lval (dx :: rs) = dx + 10000 * (R : Int) from by rw [hrs.out]; exact Lcons_val dx R)
      have T0 := ptrim_any (some ⟨g2, 0, none⟩) cap2 (dx :: rs) w4 hS4 hld (by simp; omega)
      have hl8 : (dx :: rs).length = 1 + rs.length := by simp; omega
      rw [hl8] at T0
      have T := Lib.hid T0
      clear T0
      have HS4 := Lib.hid hS4
      clear hown hbg hbl hown' hgrow hS4 hld hl8 hg2 hwr
      refine T.out.mono ?_
      rintro e w5 ⟨k2, rfl, hk2, ht2, rfl⟩
      have hlk : ((dx :: rs).take k2).length = k2 := by rw [List.length_take, Nat.min_eq_left hk2]
      have hS5 := HS4.out.take hk2
      obtain ⟨R1, hR1⟩ : ∃ R1 : Nat, R1 = (dx + 10000 * (R : Int)).toNat := ⟨_, rfl⟩
      have HR1 := Lib.hid (show ((R1 : Nat) : Int) = dx + 10000 * (R : Int) from by rw [hR1]; omega)
      have ht3 : (dx :: rs).take k2 = Ldigs R1 := by rw [ht2.out, HLD.out, hR1]
      obtain ⟨rs1, hrs1⟩ : ∃ rs1, rs1 = (dx :: rs).take k2 := ⟨_, rfl⟩
      rw [← hrs1] at hlk hS5 ht3
      subst hlk
      have HT3 := Lib.hid ht3
      have HS5 := Lib.hid hS5
      have hR1n : (R1 : Int) < 10000 * n := by have := HR1.out; omega
      have hl1 : rs1.length ≤ ys.length + 1 := by
        rw [ht3]
        apply Ldigs_len
        have h1 := Ldigs_lt n
        rw [← HY.out] at h1
        have h2 := Lp10_pos ys.length
        rw [Lp10]
        omega
      have hv1 : Lval rs1 = (R1 : Int) := by rw [ht3, Lval_digs]
      have E0 := pest_any (some ⟨g2, 0, none⟩) a' cap2 c' rs1 ys w4 hS5 (HSY.out.later hbl4) (by rw [ht3]; exact ldig_digs _) hdy hy0 (by omega) hl1
      rw [hv1, HN.out] at E0
      have E := Lib.hid E0
      clear E0
      have HR1N := Lib.hid hR1n
      clear hk2 hrs1 ht2 ht3 hS5 hR1 hv1 hR1n HS4
      go_wp2_with fail
      refine E.out.mono ?_
      rintro e w5 ⟨q0, rfl, hq0, hq1, rfl⟩
      have hq9 : q0 ≤ 9999 := by
        have hR1n := HR1N.out
        apply Classical.byContradiction
        intro hc
        have : 10000 * (n : Int) ≤ q0 * n := Int.mul_le_mul_of_nonneg_right (by omega) (by omega)
        omega
      have HQ1 := Lib.hid hq1
      have hql2 := hql.out
      have cz : w4.cell? ⟨w.heap.size, j, none⟩ = some (.int .i64 0) := by
        have h1 := own_cell hown4 j (by omega)
        rwa [hqz.out j (by omega)] at h1
      have fz := hown4.frozenAt j
      have hjS : j < S := by omega
      have hown5 := own_store hown4 j q0
      have hbl5 := hbl4.setCell (p := ⟨w.heap.size, j, none⟩) (Nat.le_refl _) (.int .i64 q0)
      clear hql2
      go_wp2_with fail
      have hS5' : Sl (w4.setCell ⟨w.heap.size, j, none⟩ (.int .i64 q0)).heap.size (w4.setCell ⟨w.heap.size, j, none⟩ (.int .i64 q0)) (some ⟨g2, 0, none⟩) cap2 rs1 := by
        have := HS5.out.set (g := w.heap.size) (j := j) (u := .int .i64 q0) (fun p hp => by cases hp; have := HG2.out; exact Nat.ne_of_gt this)
        simpa using this
      obtain ⟨w5, hw5⟩ : ∃ w5, w5 = w4.setCell ⟨w.heap.size, j, none⟩ (.int .i64 q0) := ⟨_, rfl⟩
      rw [← hw5] at hown5 hbl5 hS5' ⊢
      clear hw5 cz fz hown4 hbl4
      have HS6 := Lib.hid hS5'
      have PS := Lib.hid (psmall_any a' c' ys n q0 0 w5 (HSY.out.later hbl5) HY.out hq0 hq9 (by omega) (by omega) (by omega))
      clear hS5'
      refine PS.out.mono ?_
      rintro e w6 ⟨a6, c6, ts, rfl, hS6, hts, hb6, hn6⟩
      have hw5s : w.heap.size < w5.heap.size := (hown5.lt w.heap.size rfl).2
      have hown6 := own_below hown5 hb6 (fun k hk => by cases hk; exact hw5s)
      have hbl6 := hbl5.trans (hb6.mono hbl5.size)
      obtain ⟨Q0, hQ0⟩ : ∃ Q0 : Nat, q0 = (Q0 : Int) := ⟨q0.toNat, by omega⟩
      subst hQ0
      have hTS : ((n : Int) * (Q0 : Int) + 0).toNat = n * Q0 := by rw [Int.add_zero, ← Int.natCast_mul, Int.toNat_natCast]
      rw [hTS] at hts
      have hle : n * Q0 ≤ R1 := by
        have h1 := HQ1.out
        rw [← Int.natCast_mul] at h1
        rw [Nat.mul_comm]; omega
      have HLE := Lib.hid hle
      have PL := Lib.hid (pless_any (some ⟨g2, 0, none⟩) a6 cap2 c6 rs1 ts R1 (n * Q0) w6 (HS6.out.later hb6) hS6 HT3.out hts.out hle (by omega))
      clear hTS hle hS6 hown5 hbl5 hb6
      go_wp2_with fail
      refine PL.out.mono ?_
      rintro e w7 ⟨a7, c7, us, rfl, hS7, hus, hb7, hn7⟩
      have hw6s : w.heap.size < w6.heap.size := (hown6.lt w.heap.size rfl).2
      have hown7 := own_below hown6 hb7 (fun k hk => by cases hk; exact hw6s)
      have hbl7 := hbl6.trans (hb7.mono hbl6.size)
      have HN7 := Lib.hid (fun p hp => Nat.lt_of_lt_of_le hw6s (hn7.out p hp))
      clear hown6 hbl6 hb7 hn7 hn6
      go_wp2_with fail
      go_loopg [8] (R1 - n * Q0) (fun R2 r wx => ∃ (cc : Nat) (ar : Option Addr) (cr : Nat) (rz : List Int), r = .slice ar rz.length cr ∧ Sl wx.heap.size wx ar cr rz ∧ Hid (∀ p, ar = some p → w.heap.size < p.block) ∧ Hid (rz = Ldigs R2) ∧ Hid (cc * n + R2 = R1) ∧
          wx.ownsRow w.heap.size 3 1 (.slice (some ⟨w.heap.size, 0, none⟩) S S) S ((qs.set j (cc : Int)).map (Value.int .i64)) ∧ Below w.heap.size w wx)
      case atStart => exact ⟨Q0, a7, c7, us, rfl, hS7, HN7, hus, Lib.hid (by have := HLE.out; rw [Nat.mul_comm Q0 n]; omega), hown7, hbl7⟩
      case round =>
        obtain ⟨cc, az, cz, rz, rfl, hSz, hnz, hrz, hcc, hownz, hblz⟩ := hrel
        clear hS7 HN7 hown7 hbl7
        have hrzl : rz.length ≤ ys.length + 1 := by
          rw [hrz.out]
          apply Ldigs_len
          have h1 := Ldigs_lt n
          rw [← HY.out] at h1
          have h2 := Lp10_pos ys.length
          have h3 := HR1N.out
          have h4 := hcc.out
          have h5 := Nat.zero_le (cc * n)
          rw [Lp10]
          omega
        obtain ⟨v, hvl, hvg, hC⟩ := pcmp_lt az a' cz c' rz ys gk n wr hSz (HSY.out.later hblz) hrz.out HY.out (by omega) (by omega)
        have C := Lib.hid hC
        have HC9 := Lib.hid (show (cc : Int) ≤ 9999 from Ldiv_limb (B := n) (R := R) (d := dx) (R2 := gk) (by omega) (by omega) hdx0.2 (by have := HR1.out; have h4 := hcc.out; rw [← this, ← h4]; simp) (by omega))
        have HSZ := Lib.hid hSz
        clear hC hSz
        by_cases hlt : gk < n
        · have hv0 := hvl hlt
          have HRB := Lib.hid (Ldiv_step (B := n) (R := R) (R2 := gk) (c := cc) hjx (by have := hql.out; omega) (hqz.out j (by omega)) hmath.out (by have := HR1.out; have h4 := hcc.out; rw [← HX.out, ← this, ← h4]; simp))
          have HLT := Lib.hid hlt
          clear hvl hvg hlt
          go_wp2_with fail
          refine C.out.mono ?_
          rintro e w8 ⟨rfl, hb8⟩
          have hzs : w.heap.size < wr.heap.size := (hownz.lt w.heap.size rfl).2
          have hownz8 := own_below hownz hb8 (fun k hk => by cases hk; exact hzs)
          have hblz8 := hblz.trans (hb8.mono hblz.size)
          have hSz8 := HSZ.out.later hb8
          clear hownz hblz hb8
          go_wp2
          go_roundw
          case rel => exact ⟨j, gk, az, cz, rz, qs.set j (cc : Int), by go_num, by omega, rfl, hSz8, hnz, hrz, HLT.out, hownz8, Lib.hid (by rw [List.length_set]; exact hql.out), hdq.set j ⟨by omega, HC9.out⟩, Lib.hid (fun i hi => by rw [LgetD_set_ne (by omega)]; exact hqz.out i (by omega)), HRB, hblz8⟩
          case measure => simp [intOf]
        · have hv0 := hvg (by omega)
          have HGE := Lib.hid (show n ≤ gk by omega)
          clear hvl hvg hlt
          go_wp2_with fail
          refine C.out.mono ?_
          rintro e w8 ⟨rfl, hb8⟩
          have hzs : w.heap.size < wr.heap.size := (hownz.lt w.heap.size rfl).2
          have hownz8 := own_below hownz hb8 (fun k hk => by cases hk; exact hzs)
          have hblz8 := hblz.trans (hb8.mono hblz.size)
          have hSz8 := HSZ.out.later hb8
          have PL2 := Lib.hid (pless_any az a' cz c' rz ys gk n w8 hSz8 (HSY.out.later hblz8) hrz.out HY.out HGE.out (by omega))
          clear hownz hblz hb8 hSz8 hzs
          go_wp2_with fail
          refine PL2.out.mono ?_
          rintro e w9 ⟨a9, c9, vs, rfl, hS9, hvs, hb9, hn9⟩
          have hw8s : w.heap.size < w8.heap.size := (hownz8.lt w.heap.size rfl).2
          have hown9 := own_below hownz8 hb9 (fun k hk => by cases hk; exact hw8s)
          have hbl9 := hblz8.trans (hb9.mono hblz8.size)
          have HN9 := Lib.hid (fun p hp => Nat.lt_of_lt_of_le hw8s (hn9.out p hp))
          have hql2 := hql.out
          have cq : w9.cell? ⟨w.heap.size, j, none⟩ = some (.int .i64 (cc : Int)) := by
            have h1 := own_cell hown9 j (by rw [List.length_set]; omega)
            rwa [LgetD_set_same (by omega)] at h1
          have fq := hown9.frozenAt j
          have hjS : j < S := by omega
          have hc9 : cc ≤ 9999 := by have := HC9.out; omega
          have hown10 := own_store hown9 j ((cc + 1 : Nat) : Int)
          rw [List.set_set] at hown10
          have hbl10 := hbl9.setCell (p := ⟨w.heap.size, j, none⟩) (Nat.le_refl _) (.int .i64 ((cc + 1 : Nat) : Int))
          have hS10 : Sl (w9.setCell ⟨w.heap.size, j, none⟩ (.int .i64 ((cc + 1 : Nat) : Int))).heap.size (w9.setCell ⟨w.heap.size, j, none⟩ (.int .i64 ((cc + 1 : Nat) : Int))) a9 c9 vs := by
            have := hS9.set (g := w.heap.size) (j := j) (u := .int .i64 ((cc + 1 : Nat) : Int)) (fun p hp => Nat.ne_of_gt (HN9.out p hp))
            simpa using this
          clear hql2 hown9 hbl9 hownz8 hblz8 hb9 hS9
          go_wp2
          go_roundg (gk - n)
          case measure => have := HGE.out; omega
          case rel => exact ⟨cc + 1, a9, c9, vs, rfl, hS10, HN9, hvs, Lib.hid (by have := HGE.out; have h4 := hcc.out; rw [Nat.succ_mul]; omega), hown10, hbl10⟩
end Go.Proofs.YtebejllehbpahaaGreatDoor

/- The power of a list of limbs. -/
namespace Go.Proofs.YtebejllehbpahaaGreatDoor
open Go.RowKit Go.Proofs.ArM

theorem bitLenAux_lt : ∀ (f x : Nat), x < 2 ^ f → x < 2 ^ Lib.bitLenAux f x
  | 0, x, h => h
  | f + 1, x, h => by
    rw [Lib.bitLenAux]
    split
    · rename_i h0; subst h0; exact Nat.two_pow_pos _
    · rw [Nat.pow_succ] at h
      have := bitLenAux_lt f (x / 2) (by omega)
      rw [Nat.add_comm, Nat.pow_succ]
      omega

theorem len_any (k : Nat) (hk : k ≤ 9223372036854775807) : ∃ L : Nat, L ≤ 63 ∧ k / 2 ^ L = 0 ∧ ∀ w, Calls Tryz.prog 80 #[.int .u64 (k : Int)] w fun e w' => e = .returned (.int .i64 (L : Int)) ∧ w = w' := by
  refine ⟨Lib.bitLen k, Lib.bitLen_le k 63 (by omega) (by omega), Nat.div_eq_of_lt (bitLenAux_lt 64 k (by omega)), fun w => ?_⟩
  exact (Tryz.bits_Len (k : Int) w (by omega) (by omega)).mono fun _ _ h => ⟨h.1, h.2.symm⟩

/-- a power, or word that it is too large -/
def OutPw (w : World) (p : Nat) (e : Ending) (w' : World) : Prop :=
  (∃ a c zs, e = .returned (.tuple #[.slice a zs.length c, .bool true]) ∧ Sl w'.heap.size w' a c zs ∧ Hid (zs = Ldigs p) ∧ zs.length ≤ 125 ∧ Below w.heap.size w w') ∨
  (e = .returned (.tuple #[.slice none 0 0, .bool false]) ∧ Hid (125 < (Ldigs p).length) ∧ Below w.heap.size w w')

theorem Ldigs_mono {m n : Nat} (h : m ≤ n) : (Ldigs m).length ≤ (Ldigs n).length :=
  Ldigs_len (Int.lt_of_le_of_lt (show (m : Int) ≤ n by omega) (Ldigs_lt n))

/-- a power of a beginning of the exponent is not greater -/
theorem pow_head {m k s : Nat} {q : Nat} (hq : q ≤ k / 2 ^ s) (h : 125 < (Ldigs (m ^ q)).length) : 125 < (Ldigs (m ^ k)).length := by
  have hqk : q ≤ k := Nat.le_trans hq (Nat.div_le_self _ _)
  rcases Nat.eq_zero_or_pos m with rfl | hm
  · exfalso
    rcases Nat.eq_zero_or_pos q with rfl | h0
    · have : (Ldigs (0 ^ 0)).length ≤ 1 := Ldigs_len (by decide)
      omega
    · rw [Nat.zero_pow h0, Ldigs_zero] at h
      simp at h
  · exact Nat.lt_of_lt_of_le h (Ldigs_mono (Nat.pow_le_pow_right hm hqk))

theorem bit_at (k s : Nat) (hk : k ≤ 9223372036854775807) : bits BinOp.and IntKind.i64 ((k : Int) / 2 ^ s) 1 = ((k / 2 ^ s % 2 : Nat) : Int) := by
  have h := Go.Proofs.and_one (k / 2 ^ s) (Nat.lt_of_le_of_lt (Nat.div_le_self _ _) (by omega))
  rwa [Int.natCast_ediv, Int.natCast_pow] at h

theorem tl_val (a : Option Addr) (l c : Nat) (v : Bool) (h : decide (125 < l) = v) (w : World) :
    Calls Tryz.prog 50 #[.slice a l c] w (fun e w' => e = .returned (.bool v) ∧ w = w') := by
  subst h; exact tooLarge_any a l c w

theorem half_pow (m k s : Nat) : m ^ (k / 2 ^ (s + 1)) * m ^ (k / 2 ^ (s + 1)) = m ^ (2 * (k / 2 ^ (s + 1))) := by
  rw [← Nat.pow_add]; congr 1; omega
theorem half_bit (k s : Nat) : 2 * (k / 2 ^ (s + 1)) + k / 2 ^ s % 2 = k / 2 ^ s := by
  rw [Nat.pow_succ, ← Nat.div_div_eq_div_mul]; omega

set_option maxHeartbeats 6400000 in
set_option maxRecDepth 100000 in
theorem ppow_any (a : Option Addr) (c : Nat) (xs : List Int) (m k : Nat) (w : World) (h : Sl w.heap.size w a c xs) (hx : xs = Ldigs m) (hk : k ≤ 9223372036854775807) (hlx : xs.length ≤ 125) :
    Calls Tryz.prog 60 #[.slice a xs.length c, .int .i64 (k : Int)] w (OutPw w (m ^ k)) := by
  obtain ⟨L, hL, hkL, hC⟩ := len_any k hk
  have C := Lib.hid hC
  have HKL := Lib.hid hkL
  have HX := Lib.hid hx
  have HS := Lib.hid h
  have h1 : Ldigs 1 = [1] := by rw [Ldigs_pos (by omega)]; simp [Ldigs_zero]
  have hone : Ints (w.alloc (.cells #[.int .i64 1] 3)).heap.size (w.alloc (.cells #[.int .i64 1] 3)) (.slice (some ⟨w.heap.size, 0, none⟩) ([1] : List Int).length 1) [1] :=
    ints_of_row (base := w.heap.size) (World.ownsRow_lit w #[.int .i64 1] 1 (Nat.le_refl _) (by decide) rfl)
  have HONE := Lib.hid hone
  have H1 := Lib.hid h1
  clear hC hkL hx h hone h1
  go_enter Tryz.func60, Tryz.ntmps60
  go_wp2_with fail
  refine (C.out _).mono ?_
  rintro e w2 ⟨rfl, rfl⟩
  go_wp2_with fail
  go_loopw [6, 7] (fun p i wr => ∃ (t : Nat) (ap : Option Addr) (cp : Nat) (ps : List Int), i = .int .i64 ((t : Int) - 1) ∧ t ≤ L ∧ p = .slice ap ps.length cp ∧ Sl wr.heap.size wr ap cp ps ∧ Hid (ps = Ldigs (m ^ (k / 2 ^ t))) ∧ ps.length ≤ 125 ∧ Below w.heap.size w wr)
    (fun _ i _ => (intOf i + 1).toNat)
  case atStart => exact ⟨L, _, 1, [1], rfl, Nat.le_refl _, rfl, .mk HONE.out, Lib.hid (by rw [HKL.out, Nat.pow_zero, H1.out]), by simp, (Below.refl _ _).alloc (Nat.le_refl _) _⟩
  case round =>
    obtain ⟨t, ap, cp, ps, rfl, ht, rfl, hSp, hps, hpl, hbl⟩ := hrel
    rcases Nat.eq_zero_or_pos t with rfl | ht0
    · have HP := Lib.hid (show ps = Ldigs (m ^ k) from by have := hps.out; simpa using this)
      go_wp2
      go_ret2
      exact .inl ⟨ap, cp, ps, rfl, hSp, HP, hpl, hbl⟩
    · obtain ⟨s, rfl⟩ : ∃ s, t = s + 1 := ⟨t - 1, by omega⟩
      have hs : ((s + 1 : Nat) : Int) - 1 = (s : Int) := by omega
      rw [hs]
      clear hs
      have X := Lib.hid (ptimes_any ap ap cp cp ps ps _ _ wr hSp hSp hps.out hps.out hpl hpl)
      have HB := half_bit k s
      obtain ⟨q, hq⟩ : ∃ q, q = k / 2 ^ s := ⟨_, rfl⟩
      have hbit := bit_at k s hk
      rw [half_pow] at X
      rw [← hq] at HB hbit
      have HQ := Lib.hid hq
      have HH := Lib.hid HB
      clear hSp hq HB
      rcases (show q % 2 = 1 ∨ q % 2 = 0 by omega) with h2 | h2
      · rw [h2] at hbit
        have H2 := Lib.hid h2
        clear h2
        have hbit1 : bits BinOp.and IntKind.i64 ((k : Int) / 2 ^ s) 1 = 1 := hbit
        clear hbit
        go_wp2_with fail
        refine X.out.mono ?_
        rintro e w3 ⟨a3, c3, zs, rfl, hS3, hzs, hb3, hn3⟩
        have hbl3 := hbl.trans (hb3.mono hbl.size)
        by_cases hlg : 125 < zs.length
        · have T := Lib.hid (tl_val a3 zs.length c3 true (decide_eq_true hlg))
          have HF := Lib.hid (pow_head (m := m) (k := k) (s := s) (q := 2 * (k / 2 ^ (s + 1))) (by have := HH.out; have := HQ.out; omega) (by rw [← hzs.out]; exact hlg))
          clear hlg
          go_wp2_with fail
          refine (T.out _).mono ?_
          rintro e w4 ⟨rfl, rfl⟩
          go_wp2_with fail
          refine (T.out _).mono ?_
          rintro e w4 ⟨rfl, rfl⟩
          go_wp2
          go_ret2
          exact .inr ⟨rfl, HF, hbl3⟩
        · have T := Lib.hid (tl_val a3 zs.length c3 false (decide_eq_false hlg))
          have X2 := Lib.hid (ptimes_any a3 a c3 c zs xs _ _ w3 hS3 (HS.out.later hbl3) hzs.out HX.out (by omega) hlx)
          clear hlg
          go_wp2_with fail
          refine (T.out _).mono ?_
          rintro e w4 ⟨rfl, rfl⟩
          go_wp2_with fail
          refine X2.out.mono ?_
          rintro e w5 ⟨a5, c5, vs, rfl, hS5, hvs, hb5, hn5⟩
          have hbl5 := hbl3.trans (hb5.mono hbl3.size)
          have HV := Lib.hid (show vs = Ldigs (m ^ (k / 2 ^ s)) from by
            rw [hvs.out, ← Nat.pow_succ]
            congr 2
            have h1 := HH.out
            have h2 := H2.out
            have h3 := HQ.out
            omega)
          by_cases hlg : 125 < vs.length
          · have T2 := Lib.hid (tl_val a5 vs.length c5 true (decide_eq_true hlg))
            have HF := Lib.hid (pow_head (m := m) (k := k) (s := s) (q := k / 2 ^ s) (Nat.le_refl _) (by rw [← HV.out]; exact hlg))
            clear hlg
            go_wp2_with fail
            refine (T2.out _).mono ?_
            rintro e w4 ⟨rfl, rfl⟩
            go_wp2
            go_ret2
            exact .inr ⟨rfl, HF, hbl5⟩
          · have T2 := Lib.hid (tl_val a5 vs.length c5 false (decide_eq_false hlg))
            have hvl : vs.length ≤ 125 := by omega
            clear hlg
            go_wp2_with fail
            refine (T2.out _).mono ?_
            rintro e w4 ⟨rfl, rfl⟩
            go_wp2
            go_roundw
            case rel => exact ⟨s, a5, c5, vs, rfl, by omega, rfl, hS5, HV, hvl, hbl5⟩
            case measure => simp [intOf]
      · rw [h2] at hbit
        have H2 := Lib.hid h2
        clear h2
        have hbit1 : bits BinOp.and IntKind.i64 ((k : Int) / 2 ^ s) 1 = 0 := hbit
        clear hbit
        go_wp2_with fail
        refine X.out.mono ?_
        rintro e w3 ⟨a3, c3, zs, rfl, hS3, hzs, hb3, hn3⟩
        have hbl3 := hbl.trans (hb3.mono hbl.size)
        have HV := Lib.hid (show zs = Ldigs (m ^ (k / 2 ^ s)) from by
          rw [hzs.out]
          congr 2
          have h1 := HH.out
          have h2 := H2.out
          have h3 := HQ.out
          omega)
        by_cases hlg : 125 < zs.length
        · have T := Lib.hid (tl_val a3 zs.length c3 true (decide_eq_true hlg))
          have HF := Lib.hid (pow_head (m := m) (k := k) (s := s) (q := k / 2 ^ s) (Nat.le_refl _) (by rw [← HV.out]; exact hlg))
          clear hlg
          go_wp2_with fail
          refine (T.out _).mono ?_
          rintro e w4 ⟨rfl, rfl⟩
          go_wp2
          go_ret2
          exact .inr ⟨rfl, HF, hbl3⟩
        · have T := Lib.hid (tl_val a3 zs.length c3 false (decide_eq_false hlg))
          have hzl : zs.length ≤ 125 := by omega
          clear hlg
          go_wp2_with fail
          refine (T.out _).mono ?_
          rintro e w4 ⟨rfl, rfl⟩
          go_wp2
          go_roundw
          case rel => exact ⟨s, a3, c3, zs, rfl, by omega, rfl, hS3, HV, hzl, hbl3⟩
          case measure => simp [intOf]
end Go.Proofs.YtebejllehbpahaaGreatDoor

/- The quotient and the remainder of a list of limbs and a small number. -/
namespace Go.Proofs.YtebejllehbpahaaGreatDoor
open Go.RowKit Go.Proofs.ArM

/-- a quotient and a small remainder -/
def OutDs (w : World) (m d : Nat) (e : Ending) (w' : World) : Prop :=
  ∃ a c qs, e = .returned (.tuple #[.slice a qs.length c, .int .i64 ((m % d : Nat) : Int)]) ∧ Sl w'.heap.size w' a c qs ∧ Hid (qs = Ldigs (m / d)) ∧ Below w.heap.size w w'

theorem small_quot {R dx d : Int} (h0 : 0 ≤ R) (h1 : R < d) (hd : d ≤ 9999) (hx0 : 0 ≤ dx) (hx1 : dx ≤ 9999) :
    0 ≤ R * 10000 + dx ∧ R * 10000 + dx ≤ 99989999 ∧ 0 ≤ (R * 10000 + dx) / d ∧ (R * 10000 + dx) / d ≤ 9999 ∧ 0 ≤ (R * 10000 + dx) % d ∧ (R * 10000 + dx) % d < d ∧ (R * 10000 + dx) / d * d + (R * 10000 + dx) % d = dx + 10000 * R := by
  have hdp : 0 < d := by omega
  have e1 : (R * 10000 + dx) / d * d + (R * 10000 + dx) % d = dx + 10000 * R := by
    have := Int.mul_ediv_add_emod (R * 10000 + dx) d
    rw [Int.mul_comm] at this
    omega
  have r0 := Int.emod_nonneg (R * 10000 + dx) (by omega : d ≠ 0)
  have r1 := Int.emod_lt_of_pos (R * 10000 + dx) hdp
  exact ⟨by omega, by omega, Int.ediv_nonneg (by omega) (by omega), Ldiv_limb h0 h1 hx1 e1 r0, r0, r1, e1⟩

set_option maxHeartbeats 6400000 in
set_option maxRecDepth 100000 in
theorem pds_any (a : Option Addr) (c : Nat) (xs : List Int) (m d : Nat) (w : World) (h : Sl w.heap.size w a c xs) (hx : xs = Ldigs m) (hd0 : 0 < d) (hd1 : d ≤ 9999) (hlx : xs.length ≤ 10000) :
    Calls Tryz.prog 44 #[.slice a xs.length c, .int .i64 (d : Int)] w (OutDs w m d) := by
  obtain ⟨i0, hi, hz0, hz1, hz2⟩ := info_parts Tryz.info3
  have hdx : LDig xs := by rw [hx]; exact ldig_digs _
  have HM := Lib.hid (show Lval xs = (m : Int) from by rw [hx, Lval_digs])
  obtain ⟨S, hS⟩ : ∃ S, S = xs.length := ⟨_, rfl⟩
  have hS1 : S ≤ 10000 := by omega
  rw [← hS]
  have HS := Lib.hid hS
  obtain ⟨b, o, hab, hbw, HCX⟩ := base_of h
  rw [← hS] at hab hbw
  have HAB := Lib.hid hab
  have HBW := Lib.hid hbw
  have HCAP := Lib.hid h.cap
  have hdi : (d : Int) ≠ 0 := by omega
  clear hx h hab hbw hS hlx
  go_enter Tryz.func44, Tryz.ntmps44
  go_wp2_with (at_make; refine wpList_make_full _ rfl _ _ 48 rfl w.heap.size 3 i0 (.int .i64 0) 1 Tryz.underlying48 hi hz0 hz1 _ _ _ _ S rfl rfl rfl rfl (by rw [hz2]; omega) (by unfold maxLen; omega) (Nat.le_refl _) ?_; intro w1 hown1 hgrow1)
  have hos0 : (madeCells (Value.int .i64 0).cells (S * 1)).toList = (List.replicate S (0 : Int)).map (Value.int .i64) := by
    rw [Nat.mul_one, show (Value.int .i64 0).cells = #[Value.int .i64 0] from rfl, toList_madeCells_one]; simp
  rw [hos0] at hown1
  clear hos0
  have hbl1 : Below w.heap.size w w1 := (Below.refl _ _).grown hgrow1 (Nat.le_refl _) (fun j hj => by cases hj)
  clear hgrow1
  go_loopw [7, 8] (fun r i wr => ∃ (k : Nat) (R : Int) (qs : List Int), i = .int .i64 ((k : Int) - 1) ∧ k ≤ S ∧ r = .int .i64 R ∧ 0 ≤ R ∧ R < d ∧
      wr.ownsRow w.heap.size 3 1 (.slice (some ⟨w.heap.size, 0, none⟩) S S) S (qs.map (Value.int .i64)) ∧ Hid (qs.length = S) ∧ LDig qs ∧ Hid (∀ j, j < k → qs.getD j 0 = 0) ∧ Hid (Lval qs * d + Lp10 k * R = Lp10 k * Lval (xs.drop k)) ∧ Below w.heap.size w wr)
    (fun _ i _ => (intOf i + 1).toNat)
  case atStart =>
    exact ⟨S, 0, List.replicate S 0, rfl, Nat.le_refl _, rfl, Int.le_refl _, by omega, hown1, Lib.hid (by simp), Ldig_replicate S, Lib.hid (fun j _ => getD_replicate0 S j),
      Lib.hid (by rw [Lval_replicate, HS.out, List.drop_length]; simp [Lval]), hbl1⟩
  case round =>
    obtain ⟨k, R, qs, rfl, hk, rfl, hR0, hR1, hown, hql, hdq, hqz, hmath, hbl⟩ := hrel
    clear hown1 hbl1
    rcases Nat.eq_zero_or_pos k with rfl | hk0
    · have HQV := Lib.hid (Ldiv_end (A := m) (B := d) (Q := Lval qs) (R := R) (by have h := hmath.out; simp only [Lp10, Int.one_mul, List.drop_zero] at h; rw [h, HM.out]) hR0 hR1)
      have hSq := sl_of_row hown
      have T0 := ptrim_any (some ⟨w.heap.size, 0, none⟩) S qs wr hSq hdq (by rw [hql.out]; omega)
      rw [hql.out] at T0
      have T := Lib.hid T0
      have HSQ := Lib.hid hSq
      clear T0 hSq hown
      go_wp2_with fail
      refine T.out.mono ?_
      rintro e w3 ⟨k2, rfl, hk2, ht2, rfl⟩
      have HLK := Lib.hid (show (qs.take k2).length = k2 from by rw [List.length_take, Nat.min_eq_left hk2])
      go_wp2
      go_ret2
      exact ⟨_, _, qs.take k2, by rw [HLK.out, ← HQV.out.2]; rfl, HSQ.out.take hk2, Lib.hid (by rw [ht2.out, HQV.out.1, Int.toNat_natCast]), hbl⟩
    · obtain ⟨j, rfl⟩ : ∃ j, k = j + 1 := ⟨k - 1, by omega⟩
      have hj : ((j + 1 : Nat) : Int) - 1 = (j : Int) := by omega
      rw [hj]
      clear hj
      have hjS : j < S := by omega
      obtain rfl := HAB.out (by omega)
      have hb := HBW.out (by omega)
      have hcap := HCAP.out
      rw [← HS.out] at hcap
      unfold maxLen at hcap
      obtain ⟨dx, hdx'⟩ : ∃ dx, dx = xs.getD j 0 := ⟨_, rfl⟩
      have hdx0 : 0 ≤ dx ∧ dx ≤ 9999 := by rw [hdx']; exact hdx.getD j
      have cx : wr.cell? ⟨b, o + j, none⟩ = some (.int .i64 dx) := by rw [hdx']; exact (hbl.cell (p := ⟨b, o + j, none⟩) hb).trans (HCX.out j (by rw [← HS.out]; omega))
      obtain ⟨q1, q2, q3, q4, q5, q6, q7⟩ := small_quot (d := (d : Int)) hR0 hR1 (by omega) hdx0.1 hdx0.2
      have HRB := Lib.hid (Ldiv_step (xs := xs) (qs := qs) (i := j) (B := d) (R := R) (R2 := (R * 10000 + dx) % d) (c := (R * 10000 + dx) / d) (by rw [← HS.out]; omega) (by have := hql.out; omega) (hqz.out j (by omega)) hmath.out (by rw [← hdx']; exact q7))
      clear hdx' q7
      have cz : wr.cell? ⟨w.heap.size, j, none⟩ = some (.int .i64 0) := by
        have h1 := own_cell hown j (by have := hql.out; omega)
        rwa [hqz.out j (by omega)] at h1
      have fz := hown.frozenAt j
      obtain ⟨T, hT⟩ : ∃ T, R * 10000 + dx = T := ⟨_, rfl⟩
      rw [hT] at q1 q2 q3 q4 q5 q6 HRB
      have hown5 := own_store hown j (T / d)
      have hbl5 := hbl.setCell (p := ⟨w.heap.size, j, none⟩) (Nat.le_refl _) (.int .i64 (T / d))
      have HQ := Lib.hid (show LDig (qs.set j (T / d)) from hdq.set j ⟨q3, q4⟩)
      clear hown hbl
      go_wp2
      go_roundw
      case rel => exact ⟨j, T % d, qs.set j (T / d), by go_num, by omega, rfl, q5, q6, hown5, Lib.hid (by rw [List.length_set]; exact hql.out), HQ.out, Lib.hid (fun i hi => by rw [LgetD_set_ne (by omega)]; exact hqz.out i (by omega)), HRB, hbl5⟩
      case measure => simp [intOf]
end Go.Proofs.YtebejllehbpahaaGreatDoor

/- A box of two cells. -/
namespace Go.Proofs.YtebejllehbpahaaGreatDoor
open Go.RowKit Go.Proofs.ArM

theorem cells2 {W : World} {g : Nat} {p q : Value} {t : TypeId} (h : W.heap[g]? = some (.cells #[p, q] t (0, 0))) :
    W.cell? ⟨g, 0, none⟩ = some p ∧ W.cell? ⟨g, 1, none⟩ = some q ∧ W.frozen? ⟨g, 0, none⟩ = false ∧ W.frozen? ⟨g, 1, none⟩ = false := by
  refine ⟨?_, ?_, ?_, ?_⟩ <;> simp [World.cell?, World.frozen?, h]

theorem set2 {W : World} {g : Nat} {p q u : Value} {t : TypeId} (h : W.heap[g]? = some (.cells #[p, q] t (0, 0))) : (W.setCell ⟨g, 1, none⟩ u).heap[g]? = some (.cells #[p, u] t (0, 0)) := by
  have := heap_setCell_same W g 1 #[p, q] t u h
  simpa using this

theorem set2' {W : World} {g : Nat} {p q u : Value} {t : TypeId} (h : W.heap[g]? = some (.cells #[p, q] t (0, 0))) : (W.setCell ⟨g, 0, none⟩ u).heap[g]? = some (.cells #[u, q] t (0, 0)) := by
  have := heap_setCell_same W g 0 #[p, q] t u h
  simpa using this

theorem set2o {W : World} {g k j : Nat} {u : Value} {o : Option Obj} (h : W.heap[k]? = o) (hk : k ≠ g) : (W.setCell ⟨g, j, none⟩ u).heap[k]? = o := by
  rw [← h]; exact Below.heap_setCell W ⟨g, j, none⟩ u k hk

theorem res_end {w wz : World} {b o c g k : Nat} {ds : List Int} {n : Int} {s : Bool} {u v : Value} (hI : Ints wz.heap.size wz (.slice (some ⟨b, o, none⟩) ds.length c) ds) (hg : b ≠ g) (hd : ds = digs k) (hk : k = n.natAbs) (hs : s = decide (n < 0))
    (hb : Below w.heap.size w wz) (hgw : w.heap.size ≤ g) : OutZ w n (.returned (.agg #[.bool s, .slice (some ⟨b, o, none⟩) ds.length c])) ((wz.setCell ⟨g, 0, none⟩ u).setCell ⟨g, 1, none⟩ v) := by
  refine ⟨b, o, c, ds, by rw [hs], ?_, Lib.hid (by rw [hd, hk]), (hb.setCell hgw _).setCell hgw _⟩
  have h := (hI.set (j := 0) (u := u) hg).set (j := 1) (u := v) hg
  simpa using h

theorem res_q {w : World} {g : Nat} {p q : Value} (h0 : w.cell? ⟨g, 0, none⟩ = some p) (h1 : w.cell? ⟨g, 1, none⟩ = some q) (u v : Value) :
    (w.setCell ⟨g, 0, none⟩ u).cell? ⟨g, 0, none⟩ = some u ∧ ((w.setCell ⟨g, 0, none⟩ u).setCell ⟨g, 1, none⟩ v).cell? ⟨g, 1, none⟩ = some v :=
  ⟨World.cell?_setCell_same w ⟨g, 0, none⟩ u h0, World.cell?_setCell_same (w.setCell ⟨g, 0, none⟩ u) ⟨g, 1, none⟩ v ((World.cell?_setCell_other _ _ _ _ (by simp)).trans h1)⟩

end Go.Proofs.YtebejllehbpahaaGreatDoor

/- Integers with their sign: signs. -/
namespace Go.Proofs.YtebejllehbpahaaGreatDoor
open Go.RowKit Go.Proofs.ArM

/-- an integer, as the program keeps it -/
def OutZi (w : World) (n : Int) (e : Ending) (w' : World) : Prop :=
  ∃ a c ds, e = .returned (.agg #[.bool (decide (n < 0)), .slice a ds.length c]) ∧ Sl w'.heap.size w' a c ds ∧ Hid (ds = Ldigs n.natAbs) ∧ Below w.heap.size w w'

/-- the same, of a list that was handed in -/
def OutSg (a : Option Addr) (c l : Nat) (w : World) (n : Int) (e : Ending) (w' : World) : Prop :=
  e = .returned (.agg #[.bool (decide (n < 0)), .slice a l c]) ∧ Below w.heap.size w w'

theorem zi_end {w wz : World} {a : Option Addr} {c g : Nat} {ds : List Int} {n : Int} {s : Bool} {u v : Value} (hS : Sl wz.heap.size wz a c ds) (hg : ∀ p, a = some p → p.block ≠ g) (hd : ds = Ldigs n.natAbs) (hs : s = decide (n < 0))
    (hb : Below w.heap.size w wz) (hgw : w.heap.size ≤ g) : OutZi w n (.returned (.agg #[.bool s, .slice a ds.length c])) ((wz.setCell ⟨g, 0, none⟩ u).setCell ⟨g, 1, none⟩ v) := by
  refine ⟨a, c, ds, by rw [hs], ?_, Lib.hid hd, (hb.setCell hgw _).setCell hgw _⟩
  have h := (hS.set (j := 0) (u := u) hg).set (j := 1) (u := v) hg
  simpa using h

theorem isz_val (a : Option Addr) (l c : Nat) (v : Bool) (h : decide (l = 0) = v) (w : World) :
    Calls Tryz.prog 43 #[.slice a l c] w (fun e w' => e = .returned (.bool v) ∧ w = w') := by
  subst h; exact isZero_any a l c w

theorem Ldigs_len0 {n : Nat} : (Ldigs n).length = 0 ↔ n = 0 := by
  constructor
  · intro h
    rcases Nat.eq_zero_or_pos n with h0 | h0
    · exact h0
    · have := Ldigs_ne h0; omega
  · rintro rfl; rw [Ldigs_zero]; rfl

set_option maxHeartbeats 3200000 in
set_option maxRecDepth 100000 in
theorem psigned_any (mi : Bool) (a : Option Addr) (c : Nat) (xs : List Int) (k : Nat) (w : World) (hx : xs = Ldigs k) :
    Calls Tryz.prog 51 #[.bool mi, .slice a xs.length c] w (OutSg a c xs.length w (if mi then -(k : Int) else k)) := by
  have hlen : xs.length = 0 ↔ k = 0 := by rw [hx]; exact Ldigs_len0
  have HLEN := Lib.hid hlen
  clear hx hlen
  cases mi
  · go_enter Tryz.func51, Tryz.ntmps51
    go_wp2
    refine bodyPost_ret (v := .agg #[.bool false, .slice a xs.length c]) (by simp [results, Tryz.results51, go_sem]) rfl ?_
    have hb : Below w.heap.size w (w.alloc (.cells #[.bool false, .slice a xs.length c] 50)) := (Below.refl _ _).alloc (Nat.le_refl _) _
    exact ⟨by rw [show decide ((k : Int) < 0) = false from decide_eq_false (by omega)], hb⟩
  · by_cases h0 : k = 0
    · have T := Lib.hid (isz_val a xs.length c true (decide_eq_true (HLEN.out.2 h0)))
      have H0 := Lib.hid h0
      clear h0
      go_enter Tryz.func51, Tryz.ntmps51
      go_wp2_with fail
      refine (T.out _).mono ?_
      rintro e w2 ⟨rfl, rfl⟩
      go_wp2
      refine bodyPost_ret (v := .agg #[.bool false, .slice a xs.length c]) (by simp [results, Tryz.results51, go_sem]) rfl ?_
      have hb : Below w.heap.size w (w.alloc (.cells #[.bool false, .slice a xs.length c] 50)) := (Below.refl _ _).alloc (Nat.le_refl _) _
      have h0 := H0.out
      subst h0
      exact ⟨by simp, hb⟩
    · have T := Lib.hid (isz_val a xs.length c false (decide_eq_false (fun h => h0 (HLEN.out.1 h))))
      have H0 := Lib.hid h0
      clear h0
      go_enter Tryz.func51, Tryz.ntmps51
      go_wp2_with fail
      refine (T.out _).mono ?_
      rintro e w2 ⟨rfl, rfl⟩
      go_wp2
      refine bodyPost_ret (v := .agg #[.bool true, .slice a xs.length c]) (by simp [results, Tryz.results51, go_sem]) rfl ?_
      have hb : Below w.heap.size w (w.alloc (.cells #[.bool true, .slice a xs.length c] 50)) := (Below.refl _ _).alloc (Nat.le_refl _) _
      have h0 := H0.out
      exact ⟨by rw [show decide (-(k : Int) < 0) = true from decide_eq_true (by omega)], hb⟩

theorem psign_z (s : Bool) (a : Option Addr) (c : Nat) (xs : List Int) (k : Nat) (n : Int) (w : World) (hx : xs = Ldigs k) (hn : n = if s then -(k : Int) else k) :
    Calls Tryz.prog 51 #[.bool s, .slice a xs.length c] w (OutSg a c xs.length w n) := by
  rw [hn]; exact psigned_any s a c xs k w hx

set_option maxHeartbeats 3200000 in
set_option maxRecDepth 100000 in
theorem pneg_any (a : Option Addr) (c : Nat) (xs : List Int) (n : Int) (w : World) (h : Sl w.heap.size w a c xs) (hx : xs = Ldigs n.natAbs) :
    Calls Tryz.prog 40 #[.agg #[.bool (decide (n < 0)), .slice a xs.length c]] w (OutZi w (-n)) := by
  obtain ⟨s, hs⟩ : ∃ s, s = decide (n < 0) := ⟨_, rfl⟩
  rw [← hs]
  have HX := Lib.hid hx
  have HS := Lib.hid h
  have hsg : -n = if (!s) = true then -((n.natAbs : Nat) : Int) else ((n.natAbs : Nat) : Int) := by
    rw [hs]
    by_cases h0 : n < 0
    · simp [h0]; omega
    · simp [h0]; omega
  obtain ⟨W, hW⟩ : ∃ W, W = (w.alloc (.cells #[.bool s, .slice a xs.length c] 50)).alloc (.cells #[.bool false, .slice none 0 0] 50) := ⟨_, rfl⟩
  have hbW : Below w.heap.size w W := by rw [hW]; exact (((Below.refl _ _).alloc (Nat.le_refl _) _).alloc (by simp) _)
  have hc := cells2 (W := W) (g := w.heap.size + 1) (p := .bool false) (q := .slice none 0 0) (t := 50) (by
    rw [hW]
    have := heap_alloc_new (w.alloc (.cells #[.bool s, .slice a xs.length c] 50)) (.cells #[.bool false, .slice none 0 0] 50)
    simpa using this)
  have hsz : w.heap.size + 1 < W.heap.size := by rw [hW]; simp
  have G := Lib.hid (psign_z (!s) a c xs n.natAbs (-n) W hx hsg)
  have HW := Lib.hid hW
  have HC := Lib.hid hc
  clear hx h hs hsg hW hc
  go_enter Tryz.func40, Tryz.ntmps40
  go_wp2_with fail
  rw [← HW.out]
  refine G.out.mono ?_
  rintro e w2 ⟨rfl, hb2⟩
  have y0 := (hb2.cell (p := ⟨w.heap.size + 1, 0, none⟩) hsz).trans HC.out.1
  have y1 := (hb2.cell (p := ⟨w.heap.size + 1, 1, none⟩) hsz).trans HC.out.2.1
  have y2 := (hb2.frozen (p := ⟨w.heap.size + 1, 0, none⟩) hsz).trans HC.out.2.2.1
  have y3 := (hb2.frozen (p := ⟨w.heap.size + 1, 1, none⟩) hsz).trans HC.out.2.2.2
  obtain ⟨s3, hs3⟩ : ∃ s3, s3 = decide (-n < 0) := ⟨_, rfl⟩
  rw [← hs3]
  have HS3 := Lib.hid hs3
  clear hs3
  have q0 := fun u => (res_q y0 y1 u u).1
  have q1 := fun u v => (res_q y0 y1 u v).2
  have hbz := hbW.trans (hb2.mono hbW.size)
  go_wp2
  refine bodyPost_ret (v := .agg #[.bool s3, .slice a xs.length c]) (by simp [results, Tryz.results40, go_sem, q0, q1]) rfl ?_
  exact zi_end (HS.out.later hbz) (fun p hp => by have := HS.out.lt p hp; omega) (by rw [HX.out]; congr 1; omega) HS3.out hbz (by omega)
end Go.Proofs.YtebejllehbpahaaGreatDoor

/- Integers with their sign: the order. -/
namespace Go.Proofs.YtebejllehbpahaaGreatDoor
open Go.RowKit Go.Proofs.ArM

theorem ord_nn {m n : Int} (h1 : false = decide (m < 0)) (h2 : false = decide (n < 0)) : LordZ ((m.natAbs : Nat) : Int) ((n.natAbs : Nat) : Int) = ordZ m n := by
  simp only [false_eq_decide_iff] at h1 h2
  rw [show ((m.natAbs : Nat) : Int) = m by omega, show ((n.natAbs : Nat) : Int) = n by omega]; rfl
theorem ord_pp {m n : Int} (h1 : true = decide (m < 0)) (h2 : true = decide (n < 0)) : LordZ ((n.natAbs : Nat) : Int) ((m.natAbs : Nat) : Int) = ordZ m n := by
  simp only [true_eq_decide_iff] at h1 h2
  rcases Int.lt_trichotomy m n with h | h | h
  · rw [LordZ_lt (by omega), ordZ_lt h]
  · rw [LordZ_eq (by omega), ordZ_eq h]
  · rw [LordZ_gt (by omega), ordZ_gt h]
theorem ord_pn {m n : Int} (h1 : true = decide (m < 0)) (h2 : false = decide (n < 0)) : (-1 : Int) = ordZ m n := by
  simp only [true_eq_decide_iff, false_eq_decide_iff] at h1 h2
  rw [ordZ_lt (by omega)]
theorem ord_np {m n : Int} (h1 : false = decide (m < 0)) (h2 : true = decide (n < 0)) : (1 : Int) = ordZ m n := by
  simp only [true_eq_decide_iff, false_eq_decide_iff] at h1 h2
  rw [ordZ_gt (by omega)]

set_option maxHeartbeats 6400000 in
set_option maxRecDepth 100000 in
theorem pord_any (a a' : Option Addr) (c c' : Nat) (xs ys : List Int) (m n : Int) (w : World) (h : Sl w.heap.size w a c xs) (h' : Sl w.heap.size w a' c' ys) (hx : xs = Ldigs m.natAbs) (hy : ys = Ldigs n.natAbs) (hlx : xs.length ≤ 1000000) (hly : ys.length ≤ 1000000) :
    Calls Tryz.prog 31 #[.agg #[.bool (decide (m < 0)), .slice a xs.length c], .agg #[.bool (decide (n < 0)), .slice a' ys.length c']] w (OutV w (.int .i64 (ordZ m n))) := by
  obtain ⟨s, hs⟩ : ∃ s, s = decide (m < 0) := ⟨_, rfl⟩
  obtain ⟨t, ht⟩ : ∃ t, t = decide (n < 0) := ⟨_, rfl⟩
  rw [← hs, ← ht]
  have hmx : Lval xs = ((m.natAbs : Nat) : Int) := by rw [hx, Lval_digs]
  have hmy : Lval ys = ((n.natAbs : Nat) : Int) := by rw [hy, Lval_digs]
  have hcx : LCanon xs := by rw [hx]; exact Lcanon_digs _
  have hcy : LCanon ys := by rw [hy]; exact Lcanon_digs _
  have C1 := Lib.hid (fun (w' : World) (hb : Below w.heap.size w w') => pcmp_any a a' c c' xs ys w' (h.later hb) (h'.later hb) hcx hcy hlx hly)
  have C2 := Lib.hid (fun (w' : World) (hb : Below w.heap.size w w') => pcmp_any a' a c' c ys xs w' (h'.later hb) (h.later hb) hcy hcx hly hlx)
  rw [hmx, hmy] at C1 C2
  clear hmx hmy hcx hcy h h' hx hy
  cases s <;> cases t
  · have HO := Lib.hid (ord_nn hs ht)
    clear hs ht
    rw [HO.out] at C1
    go_enter Tryz.func31, Tryz.ntmps31
    go_wp2_with fail
    refine (C1.out _ (((Below.refl _ _).alloc (Nat.le_refl _) _).alloc (by simp) _)).mono ?_
    rintro e w2 ⟨rfl, hb2⟩
    go_wp2
    go_ret
    exact ⟨rfl, (((Below.refl _ _).alloc (Nat.le_refl _) _).alloc (by simp) _).trans (hb2.mono (by simp; omega))⟩
  · have HO := Lib.hid (ord_np hs ht)
    clear hs ht
    go_enter Tryz.func31, Tryz.ntmps31
    go_wp2
    go_ret
    exact ⟨by rw [← HO.out]; rfl, ((Below.refl _ _).alloc (Nat.le_refl _) _).alloc (by simp) _⟩
  · have HO := Lib.hid (ord_pn hs ht)
    clear hs ht
    go_enter Tryz.func31, Tryz.ntmps31
    go_wp2
    go_ret
    exact ⟨by rw [← HO.out]; rfl, ((Below.refl _ _).alloc (Nat.le_refl _) _).alloc (by simp) _⟩
  · have HO := Lib.hid (ord_pp hs ht)
    clear hs ht
    rw [HO.out] at C2
    go_enter Tryz.func31, Tryz.ntmps31
    go_wp2_with fail
    refine (C2.out _ (((Below.refl _ _).alloc (Nat.le_refl _) _).alloc (by simp) _)).mono ?_
    rintro e w2 ⟨rfl, hb2⟩
    go_wp2
    go_ret
    exact ⟨rfl, (((Below.refl _ _).alloc (Nat.le_refl _) _).alloc (by simp) _).trans (hb2.mono (by simp; omega))⟩
end Go.Proofs.YtebejllehbpahaaGreatDoor
