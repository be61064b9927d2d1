/- The reference: texts of ints, ints, numbers. -/
import Derived.Test.YtebejllehbpahaaGreatDoorZa
import Derived.Test.YtebejllehbpahaaGreatDoorPu
import Derived.Test.YtebejllehbpahaaGreatDoorZc
import Derived.Test.YtebejllehbpahaaGreatDoorZd
import Derived.Deep.RegionHeld3
/- The reference's text of an int. -/
namespace Go.Proofs.YtebejllehbpahaaGreatDoor
open Go.RowKit Go.Proofs.ArM

theorem one_byte (w : World) (b : UInt8) : (convert 79 9 (.slice (some ⟨w.heap.size, 0, none⟩) 1 1)).run Tryz.prog (w.alloc (.cells #[.int .u8 (b.toNat : Int)] 5)) = .ok (.string ⟨#[b]⟩) (w.alloc (.cells #[.int .u8 (b.toNat : Int)] 5)) :=
  run_convert_bytes_back _ 79 9 5 ⟨w.heap.size, 0, none⟩ 1 [b] Tryz.underlying79 Tryz.underlying5 Tryz.underlying9 (fun j hj => by
    obtain rfl : j = 0 := by simp at hj; omega
    have hadd : (⟨w.heap.size, 0, none⟩ : Addr).add 0 = ⟨w.heap.size, 0, none⟩ := by unfold Addr.add; split <;> simp_all
    rw [hadd, World.cell?_alloc_at _ _ _ _ (by simp)]; rfl)

theorem bytes_cons (b : UInt8) (l : List UInt8) : (⟨#[b]⟩ : ByteArray) ++ ⟨l.toArray⟩ = ⟨(b :: l).toArray⟩ := by
  apply ByteArray.ext
  simp [ByteArray.data_append]

theorem digs_text {K : Nat} (h : K ≠ 0) : (digs K).reverse.map dch = (digs (K / 10)).reverse.map dch ++ [dch ((K % 10 : Nat) : Int)] := by
  rw [digs_pos h]; simp

set_option maxHeartbeats 3200000 in
set_option maxRecDepth 100000 in
theorem rtext_pos (N : Nat) (w : World) (h0 : 0 < N) (h1 : N ≤ 9223372036854775807) :
    Calls Tryz.prog 25 #[.int .i64 (N : Int)] w (OutV w (.string ⟨(numT (N : Int)).toArray⟩)) := by
  have HN := Lib.hid (show numT (N : Int) = (digs N).reverse.map dch from by
    rw [numT, decide_eq_false (by omega), Int.natAbs_natCast, textOf, if_neg (by rw [digs_pos (by omega)]; simp)]; rfl)
  have hN0 : (N : Int) ≠ 0 := by omega
  have hNn : ¬ (N : Int) < 0 := by omega
  have HL := Lib.hid (show (digs N).length ≤ 19 from digs_len (by have e : p10 19 = 10000000000000000000 := rfl; rw [e]; omega))
  go_enter Tryz.func25, Tryz.ntmps25
  go_wp2_with fail
  go_loopw [3, 4, 5] (fun out k d wr => ∃ (K : Nat) (bs : List UInt8) (t : ByteArray), k = .int .i64 (K : Int) ∧ K ≤ N ∧ out = .string t ∧ Hid (t = ⟨bs.toArray⟩) ∧ Hid ((digs N).reverse.map dch = (digs K).reverse.map dch ++ bs) ∧ Below w.heap.size w wr) (fun _ k _ _ => (intOf k).toNat)
  case atStart => exact ⟨N, [], _, rfl, Nat.le_refl _, rfl, Lib.hid rfl, Lib.hid (by simp), Below.refl _ _⟩
  case round =>
    obtain ⟨K, bs, t, rfl, hK, rfl, ht, hbs, hbl⟩ := hrel
    by_cases hk0 : K = 0
    · subst hk0
      have HB := Lib.hid (show numT (N : Int) = bs from by rw [HN.out, hbs.out, digs_zero]; simp)
      go_wp2
      go_ret
      exact ⟨by rw [HB.out, ← ht.out]; rfl, hbl⟩
    · have hki : (K : Int) ≠ 0 := by omega
      obtain ⟨r, hr⟩ : ∃ r, r = K % 10 := ⟨_, rfl⟩
      have hr4 : (K : Int) % 10 = (r : Int) := by omega
      have hr9 : (r : Int) ≤ 9 := by omega
      have hrn : ¬ (r : Int) < 0 := by omega
      obtain ⟨Q, hQ⟩ : ∃ Q, Q = K / 10 := ⟨_, rfl⟩
      have hq4 : (K : Int) / 10 = (Q : Int) := by omega
      have hQK : Q < K := by omega
      have hd := dch_toNat (d := (r : Int)) ⟨by omega, hr9⟩
      have hcv := one_byte wr (dch (r : Int))
      rw [hd] at hcv
      obtain ⟨b1, hb1⟩ : ∃ b1 : ByteArray, b1 = ⟨#[dch (r : Int)]⟩ := ⟨_, rfl⟩
      have hb1s : b1.size = 1 := by rw [hb1]; rfl
      rw [← hb1] at hcv
      have HB1 := Lib.hid hb1
      have HS := Lib.hid (digs_text hk0)
      rw [← hr, ← hQ] at HS
      have HBL := Lib.hid (show bs.length ≤ 19 from by
        have := congrArg List.length hbs.out
        simp at this
        have := HL.out
        omega)
      have hts : t.size ≤ 19 := by rw [ht.out]; simpa [ByteArray.size] using HBL.out
      clear hd hr hb1 hQ
      go_wp2
      go_roundw
      case rel => exact ⟨Q, dch (r : Int) :: bs, b1 ++ t, by go_num, by omega, rfl, Lib.hid (by rw [HB1.out, ht.out, bytes_cons]), Lib.hid (by rw [hbs.out, HS.out]; simp), hbl.alloc hbl.size _⟩
      case measure => simp [intOf]; omega
set_option maxHeartbeats 3200000 in
set_option maxRecDepth 100000 in
theorem rtext_neg (N : Nat) (w : World) (h0 : 0 < N) (h1 : N ≤ 9223372036854775808) :
    Calls Tryz.prog 25 #[.int .i64 (-(N : Int))] w (OutV w (.string ⟨(numT (-(N : Int))).toArray⟩)) := by
  have HN := Lib.hid (show numT (-(N : Int)) = 45 :: (digs N).reverse.map dch from by
    rw [numT, decide_eq_true (by omega), Int.natAbs_neg, Int.natAbs_natCast, textOf, if_neg (by rw [digs_pos (by omega)]; simp)]; rfl)
  obtain ⟨n, hn⟩ : ∃ n, n = -(N : Int) := ⟨_, rfl⟩
  rw [← hn] at HN ⊢
  have hn0 : n < 0 := by omega
  have hn1 : -9223372036854775808 ≤ n := by omega
  have hnz : n ≠ 0 := by omega
  have HL := Lib.hid (show (digs N).length ≤ 19 from digs_len (by have e : p10 19 = 10000000000000000000 := rfl; rw [e]; omega))
  go_enter Tryz.func25, Tryz.ntmps25
  go_wp2_with fail
  go_loopw [3, 4, 5] (fun out k d wr => ∃ (K : Nat) (kz : Int) (bs : List UInt8) (t : ByteArray), k = .int .i64 kz ∧ kz = -(K : Int) ∧ K ≤ N ∧ out = .string t ∧ Hid (t = ⟨bs.toArray⟩) ∧ Hid ((digs N).reverse.map dch = (digs K).reverse.map dch ++ bs) ∧ Below w.heap.size w wr) (fun _ k _ _ => (-intOf k).toNat)
  case atStart => exact ⟨N, n, [], _, rfl, hn, Nat.le_refl _, rfl, Lib.hid rfl, Lib.hid (by simp), Below.refl _ _⟩
  case round =>
    obtain ⟨K, kz, bs, t, rfl, hkz, hK, rfl, ht, hbs, hbl⟩ := hrel
    have HBL := Lib.hid (show bs.length ≤ 19 from by
      have := congrArg List.length hbs.out
      simp at this
      have := HL.out
      omega)
    have hts : t.size ≤ 19 := by rw [ht.out]; simpa [ByteArray.size] using HBL.out
    have HKZ := Lib.hid hkz
    by_cases hk0 : K = 0
    · have hkz0 : kz = 0 := by omega
      have HB := Lib.hid (show (⟨(numT n).toArray⟩ : ByteArray) = (⟨#[45]⟩ : ByteArray) ++ t from by rw [HN.out, hbs.out, hk0, digs_zero, ht.out, bytes_cons]; simp)
      subst hkz0
      clear hkz hn
      obtain ⟨b1, hb1⟩ : ∃ b1 : ByteArray, b1 = ⟨#[45]⟩ := ⟨_, rfl⟩
      have hb1s : (⟨#[45]⟩ : ByteArray).size = 1 := rfl
      go_wp2
      go_ret
      exact ⟨by rw [HB.out]; rfl, hbl⟩
    · have hki : kz ≠ 0 := by omega
      obtain ⟨r, hr⟩ : ∃ r, r = K % 10 := ⟨_, rfl⟩
      have hr9 : (r : Int) ≤ 9 := by omega
      obtain ⟨Q, hQ⟩ : ∃ Q, Q = K / 10 := ⟨_, rfl⟩
      have hrz : kz.tmod 10 = -(r : Int) := by rw [hkz, Int.neg_tmod, Int.tmod_eq_emod_of_nonneg (by omega)]; omega
      have hqz : kz.tdiv 10 = -(Q : Int) := by rw [hkz, Int.neg_tdiv, Int.tdiv_eq_ediv_of_nonneg (by omega)]; omega
      have hQK : Q < K := by omega
      have hkl : -9223372036854775808 ≤ kz := by omega
      have hku : kz < 0 := by omega
      have hd := dch_toNat (d := (r : Int)) ⟨by omega, hr9⟩
      have hcv := one_byte wr (dch (r : Int))
      rw [hd] at hcv
      obtain ⟨b1, hb1⟩ : ∃ b1 : ByteArray, b1 = ⟨#[dch (r : Int)]⟩ := ⟨_, rfl⟩
      have hb1s : b1.size = 1 := by rw [hb1]; rfl
      rw [← hb1] at hcv
      have HB1 := Lib.hid hb1
      have HS := Lib.hid (digs_text hk0)
      rw [← hr, ← hQ] at HS
      have hmeas : (-(-(Q : Int))).toNat < (-kz).toNat := by omega
      clear hd hr hb1 hQ hkz hn
      rcases Nat.eq_zero_or_pos r with hr0 | hr0
      · subst hr0
        have hrz0 : kz.tmod 10 = 0 := by rw [hrz]; rfl
        rw [show (48 : Int) + ((0 : Nat) : Int) = 48 from rfl] at hcv
        clear hrz
        go_wp2
        go_roundw
        case rel => exact ⟨Q, -(Q : Int), dch ((0 : Nat) : Int) :: bs, b1 ++ t, rfl, rfl, by omega, rfl, Lib.hid (by rw [HB1.out, ht.out, bytes_cons]), Lib.hid (by rw [hbs.out, HS.out]; simp), hbl.alloc hbl.size _⟩
        case measure => simpa [intOf] using hmeas
      · have hrn : -(r : Int) < 0 := by omega
        go_wp2
        go_roundw
        case rel => exact ⟨Q, -(Q : Int), dch (r : Int) :: bs, b1 ++ t, rfl, rfl, by omega, rfl, Lib.hid (by rw [HB1.out, ht.out, bytes_cons]), Lib.hid (by rw [hbs.out, HS.out]; simp), hbl.alloc hbl.size _⟩
        case measure => simpa [intOf] using hmeas

set_option maxHeartbeats 3200000 in
set_option maxRecDepth 100000 in
theorem rtext_any (n : Int) (w : World) (h0 : -9223372036854775808 ≤ n) (h1 : n ≤ 9223372036854775807) :
    Calls Tryz.prog 25 #[.int .i64 n] w (OutV w (.string ⟨(numT n).toArray⟩)) := by
  rcases Int.lt_trichotomy n 0 with h | h | h
  · obtain ⟨N, hN⟩ : ∃ N : Nat, n = -(N : Int) := ⟨n.natAbs, by omega⟩
    subst hN
    exact rtext_neg N w (by omega) (by omega)
  · subst h
    go_enter Tryz.func25, Tryz.ntmps25
    go_wp2
    go_ret
    exact ⟨by rw [show numT 0 = [48] from by simp [numT, textOf, digs_zero]]; rfl, Below.refl _ _⟩
  · obtain ⟨N, hN⟩ : ∃ N : Nat, n = (N : Int) := ⟨n.natAbs, by omega⟩
    subst hN
    exact rtext_pos N w (by omega) (by omega)
end Go.Proofs.YtebejllehbpahaaGreatDoor

/- The reference's int of a number. -/
namespace Go.Proofs.YtebejllehbpahaaGreatDoor
open Go.RowKit Go.Proofs.ArM

theorem out_val {m : Int} {k : Nat} (h : 9223372036854775808 < val ((digs m.natAbs).drop k)) : ¬ (-9223372036854775808 ≤ m ∧ m ≤ 9223372036854775807) := by
  have hd : Dig (digs m.natAbs) := (canon_digs _).1
  have h3 : val ((digs m.natAbs).drop k) ≤ val (digs m.natAbs) := by
    have e : digs m.natAbs = (digs m.natAbs).take k ++ (digs m.natAbs).drop k := (List.take_append_drop k _).symm
    have e2 := congrArg val e
    rw [val_append] at e2
    have n1 := val_nonneg (show Dig ((digs m.natAbs).take k) from fun x hx => hd x (List.mem_of_mem_take hx))
    have n2 := val_nonneg (hd.drop k)
    have n3 := p10_pos ((digs m.natAbs).take k).length
    have n4 : 1 * val ((digs m.natAbs).drop k) ≤ p10 ((digs m.natAbs).take k).length * val ((digs m.natAbs).drop k) := Int.mul_le_mul_of_nonneg_right (by omega) n2
    omega
  rw [val_digs] at h3
  omega

theorem long_out {s : List UInt8} (hv : validB s = true) (hl : 20 < s.length) : ¬ (-9223372036854775808 ≤ numOf s ∧ numOf s ≤ 9223372036854775807) := by
  intro h
  have e := (valid_text hv).1
  have hlen : (digs (numOf s).natAbs).length ≤ 19 := digs_len (by have e : p10 19 = 10000000000000000000 := rfl; rw [e]; omega)
  have e2 := congrArg List.length e
  rw [numT, textOf] at e2
  split at e2
  · simp at e2; omega
  · rw [List.length_append, List.length_map, List.length_reverse] at e2
    split at e2 <;> simp at e2 <;> omega

set_option maxHeartbeats 6400000 in
set_option maxRecDepth 100000 in
theorem rint_any (s : ByteArray) (w : World) (hs : s.size ≤ 1000000) :
    Calls Tryz.prog 23 #[.string s] w (OutN w (intR s.data.toList)) := by
  have V0 := fun w => valid_any s w (by omega)
  cases hv : validB s.data.toList
  · rw [hv] at V0
    have V := Lib.hid V0
    have hr := Lib.hid (show intR s.data.toList = (0, 2) from by rw [intR, hv]; rfl)
    clear V0 hv
    go_enter Tryz.func23, Tryz.ntmps23
    go_wp2_with fail
    refine (V.out w).mono ?_
    rintro e w2 ⟨rfl, hb2⟩
    go_wp2
    go_ret2
    exact outN_of (by rw [hr.out]) (by rw [hr.out]) hb2
  · rw [hv] at V0
    have V := Lib.hid V0
    have hlen : s.data.toList.length = s.size := Array.length_toList
    by_cases hl : 20 < s.size
    · have hr := Lib.hid (show intR s.data.toList = (0, 7) from by rw [intR, hv, if_pos rfl, if_neg (long_out hv (by omega))])
      have hl2 : (20 : Int) < (s.size : Int) := by omega
      clear V0 hv hlen
      go_enter Tryz.func23, Tryz.ntmps23
      go_wp2_with fail
      refine (V.out w).mono ?_
      rintro e w2 ⟨rfl, hb2⟩
      go_wp2
      go_ret2
      exact outN_of (by rw [hr.out]) (by rw [hr.out]) hb2
    · have hl2 : ¬ (20 : Int) < (s.size : Int) := by omega
      have HV := Lib.hid hv
      obtain ⟨m, hm⟩ : ∃ m, m = numOf s.data.toList := ⟨_, rfl⟩
      have hr := Lib.hid (show intR s.data.toList = (if -9223372036854775808 ≤ m ∧ m ≤ 9223372036854775807 then (m, 0) else (0, 7)) from by rw [intR, hv, if_pos rfl, hm])
      have HM := Lib.hid hm
      have HTX := Lib.hid (show s = ⟨(numT m).toArray⟩ from by
        rw [hm, ← (valid_text hv).1])
      have HL500 := Lib.hid (show (digs m.natAbs).length ≤ 500 from by rw [hm]; exact num_len hv)
      clear V0 hv hlen hm
      go_enter Tryz.func23, Tryz.ntmps23
      go_wp2_with fail
      refine (V.out w).mono ?_
      rintro e w2 ⟨rfl, hb2⟩
      go_wp2_with fail
      refine (of_any s w2 HV.out).mono ?_
      rintro e w3 ⟨b3, o3, c3, ds, rfl, hI3, hd3, hb3⟩
      rw [← HM.out] at hd3 ⊢
      obtain ⟨sg, hsg⟩ : ∃ sg, sg = decide (m < 0) := ⟨_, rfl⟩
      rw [← hsg]
      have HSG := Lib.hid hsg
      clear hsg
      have hbl3 := hb2.trans (hb3.mono hb2.size)
      obtain ⟨W, hW⟩ : ∃ W, W = w3.alloc (.cells #[.bool sg, .slice (some ⟨b3, o3, none⟩) ds.length c3] 54) := ⟨_, rfl⟩
      have hbW : Below w.heap.size w W := by rw [hW]; exact hbl3.alloc hbl3.size _
      have hW0 : W.cell? ⟨w3.heap.size, 0, none⟩ = some (.bool sg) := by rw [hW, World.cell?_alloc_at _ _ _ _ rfl]; rfl
      have hW1 : W.cell? ⟨w3.heap.size, 1, none⟩ = some (.slice (some ⟨b3, o3, none⟩) ds.length c3) := by rw [hW, World.cell?_alloc_at _ _ _ _ rfl]; rfl
      have hIW : Ints W.heap.size W (.slice (some ⟨b3, o3, none⟩) ds.length c3) ds := by rw [hW]; exact hI3.later ((Below.refl _ _).alloc (Nat.le_refl _) _)
      have hWs : W.heap.size = w3.heap.size + 1 := by rw [hW]; simp
      have HW := Lib.hid hW
      have hdl : ds.length ≤ 500 := by rw [hd3.out]; exact HL500.out
      have hdg : Dig ds := by rw [hd3.out]; exact (canon_digs _).1
      obtain ⟨hbb, _, hcc, hcm, hcx⟩ := hIW.cell
      unfold maxLen at hcm
      clear hb2 hb3 hI3 hbl3 hW hIW
      go_wp2_with fail
      rw [← HW.out]
      go_loopw [5, 6] (fun n i wr => ∃ (k : Nat) (z : Int), i = .int .i64 ((k : Int) - 1) ∧ k ≤ ds.length ∧ n = .int .i64 z ∧ Hid (z = -val (ds.drop k)) ∧ -9223372036854775808 ≤ z ∧ z ≤ 0 ∧ W = wr) (fun _ i _ => (intOf i + 1).toNat)
      case atStart => exact ⟨ds.length, 0, rfl, Nat.le_refl _, rfl, Lib.hid (by rw [List.drop_length]; rfl), by omega, by omega, by first | rfl | trivial⟩
      case round =>
        obtain ⟨k, z, rfl, hk, rfl, hz, hz1, hz2, rfl⟩ := hrel
        rcases Nat.eq_zero_or_pos k with rfl | hk0
        · have HZ := Lib.hid (show z = -(m.natAbs : Int) from by rw [hz.out, List.drop_zero, hd3.out, val_digs])
          cases sg
          · have hm0 : ¬ m < 0 := by have := HSG.out; simpa using this.symm
            by_cases hmin : z = -9223372036854775808
            · have HR := Lib.hid (show intR s.data.toList = (0, 7) from by rw [hr.out, if_neg (by have := HZ.out; omega)])
              subst hmin
              go_wp2
              go_ret2
              exact outN_of (by rw [HR.out]) (by rw [HR.out]) hbW
            · have hmz : -z = m := by have := HZ.out; omega
              have HR := Lib.hid (show intR s.data.toList = (m, 0) from by rw [hr.out, if_pos (by omega)])
              have TX0 := fun w => rtext_any m w (by omega) (by omega)
              rw [← HTX.out] at TX0
              have TX := Lib.hid TX0
              clear TX0
              go_wp2_with fail
              refine (TX.out _).mono ?_
              rintro e w4 ⟨rfl, hb4⟩
              go_wp2
              go_ret2
              exact outN_of (by rw [HR.out]) (by rw [HR.out]) (hbW.trans (hb4.mono hbW.size))
          · have hm0 : m < 0 := by have := HSG.out; simpa using this.symm
            have hmz : z = m := by have := HZ.out; omega
            have HR := Lib.hid (show intR s.data.toList = (m, 0) from by rw [hr.out, if_pos (by omega)])
            have TX0 := fun w => rtext_any m w (by omega) (by omega)
            rw [← HTX.out] at TX0
            have TX := Lib.hid TX0
            clear TX0
            subst hmz
            go_wp2_with fail
            refine (TX.out _).mono ?_
            rintro e w4 ⟨rfl, hb4⟩
            go_wp2
            go_ret2
            exact outN_of (by rw [HR.out]) (by rw [HR.out]) (hbW.trans (hb4.mono hbW.size))
        · obtain ⟨j, rfl⟩ : ∃ j, k = j + 1 := ⟨k - 1, by omega⟩
          have hj : ((j + 1 : Nat) : Int) - 1 = (j : Int) := by omega
          rw [hj]
          clear hj
          obtain ⟨d, hd⟩ : ∃ d, d = ds.getD j 0 := ⟨_, rfl⟩
          have hd0 : 0 ≤ d ∧ d ≤ 9 := by rw [hd]; exact hdg.getD j
          have cx : W.cell? ⟨b3, o3 + j, none⟩ = some (.int .i64 d) := by rw [hd]; exact hcx j (by omega)
          have HV := Lib.hid (show val (ds.drop j) = d - 10 * z from by rw [val_drop ds j (by omega), ← hd, hz.out]; omega)
          have HO := Lib.hid (fun (h : 9223372036854775808 < d - 10 * z) => (out_val (m := m) (k := j) (by rw [← hd3.out, HV.out]; exact h)))
          clear hd
          by_cases h1 : z < -922337203685477581
          · have HR := Lib.hid (show intR s.data.toList = (0, 7) from by rw [hr.out, if_neg (HO.out (by omega))])
            go_wp2
            go_ret2
            exact outN_of (by rw [HR.out]) (by rw [HR.out]) hbW
          · by_cases h2 : z = -922337203685477581
            · have HR := Lib.hid (show intR s.data.toList = (0, 7) from by rw [hr.out, if_neg (HO.out (by omega))])
              subst h2
              have hw1 : wrap64 (-9223372036854775810) = 9223372036854775806 := by decide +kernel
              have hw2 : wrap64 (9223372036854775806 - d) = 9223372036854775806 - d := by
                rcases (show d = 0 ∨ d = 1 ∨ d = 2 ∨ d = 3 ∨ d = 4 ∨ d = 5 ∨ d = 6 ∨ d = 7 ∨ d = 8 ∨ d = 9 by omega) with h | h | h | h | h | h | h | h | h | h <;> (rw [h]; decide +kernel)
              have hw3 : 0 < 9223372036854775806 - d := by omega
              go_wp2
              go_ret2
              exact outN_of (by rw [HR.out]) (by rw [HR.out]) hbW
            · by_cases h3 : z * 10 - d < -9223372036854775808
              · have HR := Lib.hid (show intR s.data.toList = (0, 7) from by rw [hr.out, if_neg (HO.out (by omega))])
                obtain rfl : z = -922337203685477580 := by omega
                obtain rfl : d = 9 := by omega
                have hw1 : wrap64 (-9223372036854775809) = 9223372036854775807 := by decide +kernel
                go_wp2
                go_ret2
                exact outN_of (by rw [HR.out]) (by rw [HR.out]) hbW
              · have h4 : ¬ 0 < z * 10 - d := by omega
                have h5 : -922337203685477580 ≤ z := by omega
                have h6 : -9223372036854775808 ≤ z * 10 - d := by omega
                go_wp2
                go_roundw
                case rel => exact ⟨j, z * 10 - d, rfl, by omega, rfl, Lib.hid (by rw [HV.out]; omega), h6, by omega, by first | rfl | trivial⟩
                case measure => simp [intOf]
end Go.Proofs.YtebejllehbpahaaGreatDoor

/- The reference's number of digits to a base. -/
namespace Go.Proofs.YtebejllehbpahaaGreatDoor
open Go.RowKit Go.Proofs.ArM

set_option maxHeartbeats 12800000 in
set_option maxRecDepth 100000 in
theorem rnumber_any (a : Option Addr) (c : Nat) (l : List Int) (n : Int) (w : World) (h : SlE w.heap.size w a c l) :
    Calls Tryz.prog 21 #[.slice a l.length c, .int .i64 n] w (OutT w (numR l n)) := by
  have HC := Lib.hid h.cap
  obtain ⟨b, o, hab, hbw, HCX⟩ := base_ofE h
  have HAB := Lib.hid hab
  have HBW := Lib.hid hbw
  have hcl := HC.out
  unfold maxLen at hcl
  clear h hab hbw
  by_cases hbad : n < 2 ∨ 1000 < n
  · have hr := Lib.hid (show numR l n = ([], 4) from by rw [numR, if_pos hbad])
    rcases hbad with h1 | h1
    · go_enter Tryz.func21, Tryz.ntmps21
      go_wp2
      go_ret2
      exact outT_of (by rw [hr.out]) (by rw [hr.out]) (Below.refl _ _)
    · have h2 : ¬ n < 2 := by omega
      go_enter Tryz.func21, Tryz.ntmps21
      go_wp2
      go_ret2
      exact outT_of (by rw [hr.out]) (by rw [hr.out]) (Below.refl _ _)
  · have h2 : ¬ n < 2 := by omega
    have h3 : ¬ 1000 < n := by omega
    by_cases hlen : 2000 < l.length
    · have hr := Lib.hid (show numR l n = ([], 5) from by rw [numR, if_neg hbad, if_pos hlen])
      have hlen2 : (2000 : Int) < (l.length : Int) := by omega
      clear hbad
      go_enter Tryz.func21, Tryz.ntmps21
      go_wp2
      go_ret2
      exact outT_of (by rw [hr.out]) (by rw [hr.out]) (Below.refl _ _)
    · have hr := Lib.hid (show numR l n = (if badDig n l then ([], 4) else resB (fb n.toNat 0 l : Nat)) from by rw [numR, if_neg hbad, if_neg hlen])
      have hlen2 : ¬ (2000 : Int) < (l.length : Int) := by omega
      clear hbad
      go_enter Tryz.func21, Tryz.ntmps21
      go_wp2_with fail
      go_loopw [6] (fun i wr => ∃ k : Nat, i = .int .i64 (k : Int) ∧ k ≤ l.length ∧ Hid (∀ j, j < k → 0 ≤ l.getD j 0 ∧ l.getD j 0 < n) ∧ w = wr) (fun i _ => l.length - (intOf i).toNat)
      case atStart => exact ⟨0, rfl, Nat.zero_le _, Lib.hid (fun j hj => by omega), by first | rfl | trivial⟩
      case round =>
        obtain ⟨k, rfl, hk, hok, rfl⟩ := hrel
        by_cases hkl : k < l.length
        · obtain rfl := HAB.out (by omega)
          have hb := HBW.out (by omega)
          obtain ⟨d, hd⟩ : ∃ d, d = l.getD k 0 := ⟨_, rfl⟩
          have cx : w.cell? ⟨b, o + k, none⟩ = some (.int .i64 d) := by rw [hd]; exact HCX.out k hkl
          have HD := Lib.hid hd
          clear hd
          by_cases hd0 : d < 0
          · have HR := Lib.hid (show numR l n = ([], 4) from by rw [hr.out, if_pos (bad_at hkl (.inl (by rw [← HD.out]; exact hd0)))])
            go_wp2
            go_ret2
            exact outT_of (by rw [HR.out]) (by rw [HR.out]) (Below.refl _ _)
          · by_cases hd1 : n ≤ d
            · have HR := Lib.hid (show numR l n = ([], 4) from by rw [hr.out, if_pos (bad_at hkl (.inr (by rw [← HD.out]; exact hd1)))])
              go_wp2
              go_ret2
              exact outT_of (by rw [HR.out]) (by rw [HR.out]) (Below.refl _ _)
            · go_wp2
              go_roundw
              case rel => exact ⟨k + 1, by go_num, by omega, Lib.hid (fun j hj => by
                rcases Nat.lt_or_ge j k with h | h
                · exact hok.out j h
                · obtain rfl : j = k := by omega
                  rw [← HD.out]; omega), by first | rfl | trivial⟩
              case measure => simp [intOf]; omega
        · obtain rfl : k = l.length := by omega
          obtain ⟨B, rfl⟩ : ∃ B : Nat, n = (B : Int) := ⟨n.toNat, by omega⟩
          have HR := Lib.hid (show numR l B = resB (fb B 0 l : Nat) from by rw [hr.out, if_neg (by rw [bad_none hok.out]; simp), Int.toNat_natCast])
          clear hr
          have hI0 : Ints (w.alloc (.cells #[] 3)).heap.size (w.alloc (.cells #[] 3)) (.slice (some ⟨w.heap.size, 0, none⟩) ([] : List Int).length 0) [] :=
            ints_of_row (base := w.heap.size) (World.ownsRow_lit w #[] 0 (Nat.le_refl _) (by unfold maxLen; omega) rfl)
          have HI0 := Lib.hid hI0
          clear hI0
          go_wp2_with fail
          go_loopw [7, 8] (fun x i wr => ∃ (k X bx ox cx : Nat) (xs : List Int), i = .int .i64 (k : Int) ∧ k ≤ l.length ∧ x = .slice (some ⟨bx, ox, none⟩) xs.length cx ∧ Hid (Ints wr.heap.size wr (.slice (some ⟨bx, ox, none⟩) xs.length cx) xs) ∧ Hid (xs = digs X) ∧ xs.length ≤ 500 ∧ Hid (fb B X (l.drop k) = fb B 0 l) ∧ Below w.heap.size w wr) (fun _ i _ => l.length - (intOf i).toNat)
          case atStart => exact ⟨0, 0, w.heap.size, 0, 0, [], rfl, Nat.zero_le _, rfl, HI0, Lib.hid digs_zero.symm, by simp, Lib.hid (by simp), (Below.refl _ _).alloc (Nat.le_refl _) _⟩
          case round =>
            obtain ⟨k, X, bx, ox, cx, xs, rfl, hk, rfl, hIx, hxs, hxl, hfb, hbl⟩ := hrel
            by_cases hkl : k < l.length
            · obtain rfl := HAB.out (by omega)
              have hb := HBW.out (by omega)
              obtain ⟨dz, hdz⟩ : ∃ dz, dz = l.getD k 0 := ⟨_, rfl⟩
              have hdd := hok.out k hkl
              rw [← hdz] at hdd
              obtain ⟨D, rfl⟩ : ∃ D : Nat, dz = (D : Int) := ⟨dz.toNat, by omega⟩
              have hc0 : wr.cell? ⟨b, o + k, none⟩ = some (.int .i64 (D : Int)) := by rw [hdz]; exact (hbl.cell (p := ⟨b, o + k, none⟩) hb).trans (HCX.out k hkl)
              have hbr : b < wr.heap.size := Nat.lt_of_lt_of_le hb hbl.size
              have HKC := Lib.hid (fun (w' : World) (hB : Below wr.heap.size wr w') => (hB.cell (p := ⟨b, o + k, none⟩) hbr).trans hc0)
              have HKX := Lib.hid (fun (w' : World) (hB : Below wr.heap.size wr w') => hIx.out.later hB)
              have hdx : Dig xs := by rw [hxs.out]; exact (canon_digs _).1
              have HF := Lib.hid (show fb B (X * B + D) (l.drop (k + 1)) = fb B 0 l from by rw [← hfb.out, fb_drop X hkl, ← hdz, Int.toNat_natCast])
              have h0B : Hid (Below wr.heap.size wr wr.drew) := Lib.hid ((Below.refl _ _).drew)
              clear hdz
              have hD0 : 0 ≤ (D : Int) := by omega
              have HVX := Lib.hid (show val xs = (X : Int) from by rw [hxs.out, val_digs])
              have HTL := Lib.hid (show (digs (X * B)).length ≤ 504 from by
                apply digs_len
                have h1 := digs_lt X
                rw [← hxs.out] at h1
                have h2 := p10_mono hxl
                have h3 : p10 504 = p10 500 * p10 4 := p10_add 500 4
                have h4 : p10 4 = 10000 := rfl
                have h5 : 0 < p10 500 := p10_pos 500
                rw [h3, h4, Int.natCast_mul]
                have h6 : (X : Int) * (B : Int) ≤ (X : Int) * 10000 := Int.mul_le_mul_of_nonneg_left (by omega) (by omega)
                omega)
              have HDL := Lib.hid (show (digs D).length ≤ 4 from by
                apply digs_len
                have h4 : p10 4 = 10000 := rfl
                omega)
              have HBL := Lib.hid (show (digs B).length ≤ 4 from by
                apply digs_len
                have h4 : p10 4 = 10000 := rfl
                omega)
              have hB6 : B ≤ 1000000 := by omega
              have hD6 : D ≤ 1000000 := by omega
              go_wp2_with fail
              go_region_held3 (fun w' => w'.cell? ⟨b, o + k, none⟩ = some (.int .i64 (D : Int)) ∧ Below wr.heap.size wr w')
                (first
                  | with_reducible exact ⟨HKC.out _ h0B.out, h0B.out⟩
                  | with_reducible exact ⟨HKC.out _ hB8.out, hB8.out⟩
                  | with_reducible exact ⟨HKC.out _ hB7.out, hB7.out⟩
                  | with_reducible exact ⟨HKC.out _ hB6'.out, hB6'.out⟩
                  | with_reducible exact ⟨HKC.out _ hB5.out, hB5.out⟩
                  | with_reducible exact ⟨HKC.out _ hB4.out, hB4.out⟩
                  | go_keep)
                (first
                  | (go_at_call 41; refine (trimmed_any false b7 o7 c7 zs _ hI7 hzs.out.1 (by have := hzs.out.2.2; have := HTL7.out; omega)).mono ?_; rintro e w8 ⟨ds, rfl, hI8, hds, hb8'⟩; have HVN := Lib.hid (show (if false = true then -val zs else val zs) = ((X * B + D : Nat) : Int) from by rw [if_neg (by simp), hzs.out.2.1, HVT.out, HVE.out]; omega); rw [HVN.out] at hds ⊢; have hB8 : Hid (Below wr.heap.size wr w8) := Lib.hid (hB7.out.trans (hb8'.mono hB7.out.size)))
                  | (go_at_call 52; refine (plus_any _ _ ts es _ (by first | with_reducible exact hI6 | exact hI6.later hbE) (by first | with_reducible exact hI5 | exact hI5.later hbT | exact hI5.later (hbA.trans (hbT.mono hbA.size))) (by rw [hts.out]; exact (canon_digs _).1) (by rw [hes.out]; exact (canon_digs _).1) (by have := HTL6.out; omega) (by have := HEL5.out; omega)).mono ?_; rintro e w7 ⟨b7, o7, c7, zs, rfl, hI7, hzs, hbP, _⟩; have HTL7 := Lib.hid (show max ts.length es.length ≤ 504 from by have := HTL6.out; have := HEL5.out; omega); have HVT := Lib.hid (show val ts = ((X * B : Nat) : Int) from by rw [hts.out, val_digs, HXB6.out]); have HVE := Lib.hid (show val es = (D : Int) from by rw [hes.out, val_digs]); have hB7 : Hid (Below wr.heap.size wr w7) := Lib.hid ((‹_ ∧ Below wr.heap.size wr _›).2.trans (hbP.mono (‹_ ∧ Below wr.heap.size wr _›).2.size)))
                  | (go_at_call 53; refine (times_any _ _ xs ks _ (HKX.out _ (‹_ ∧ Below wr.heap.size wr _›).2) (by first | with_reducible exact hI4 | exact hI4.later hbE) hdx (by rw [hks.out]; exact (canon_digs _).1) (by omega) (by have := HKL4.out; omega)).mono ?_; rintro e w6 ⟨b6, o6, c6, ts, rfl, hI6, hts, hbT, _⟩; have HXB6 := Lib.hid (show (val xs * val ks).toNat = X * B from by rw [HVX.out, hks.out, val_digs, ← Int.natCast_mul, Int.toNat_natCast]); have HTL6 := Lib.hid (show ts.length ≤ 504 from by rw [hts.out, HXB6.out]; exact HTL.out); have hB6' : Hid (Below wr.heap.size wr w6) := Lib.hid ((‹_ ∧ Below wr.heap.size wr _›).2.trans (hbT.mono (‹_ ∧ Below wr.heap.size wr _›).2.size)))
                  | (go_at_call 47; (with_reducible refine (small_any B _ hB6).mono ?_); rintro e w4 ⟨b4, o4, c4, ks, rfl, hI4, hks, hbA, _⟩; have HKL4 := Lib.hid (show ks.length ≤ 4 from by rw [hks.out]; exact HBL.out); have hB4 : Hid (Below wr.heap.size wr w4) := Lib.hid ((‹_ ∧ Below wr.heap.size wr _›).2.trans (hbA.mono (‹_ ∧ Below wr.heap.size wr _›).2.size)))
                  | (go_at_call 47; (with_reducible refine (small_any D _ hD6).mono ?_); rintro e w5 ⟨b5, o5, c5, es, rfl, hI5, hes, hbE, _⟩; have HEL5 := Lib.hid (show es.length ≤ 4 from by rw [hes.out]; exact HDL.out); have hB5 : Hid (Below wr.heap.size wr w5) := Lib.hid ((‹_ ∧ Below wr.heap.size wr _›).2.trans (hbE.mono (‹_ ∧ Below wr.heap.size wr _›).2.size))))
              all_goals
                have hbl8 := hbl.trans (hB8.out.mono hbl.size)
                have HI8 := Lib.hid hI8
                clear hI4 hI5 hI6 hI7 hI8 hbA hbE hbT hbP hb8'
                by_cases hlg : 500 < ds.length
                · have hlg2 : (500 : Int) < (ds.length : Int) := by omega
                  have HRR := Lib.hid (show numR l B = ([], 7) from by
                    have h1 := fb_ge (b := B) (by omega) (l.drop (k + 1)) (X * B + D)
                    rw [HF.out] at h1
                    have h2 := digs_len (k := (digs (fb B 0 l)).length) (n := X * B + D) (by have := digs_lt (fb B 0 l); omega)
                    have h3 := hds.out
                    rw [Int.natAbs_natCast] at h3
                    rw [← h3] at h2
                    rw [HR.out, resB, if_pos (by rw [Int.natAbs_natCast]; omega)])
                  go_wp2
                  go_ret2
                  exact outT_of (by rw [HRR.out]) (by rw [HRR.out]) hbl8
                · have hlg2 : ¬ (500 : Int) < (ds.length : Int) := by omega
                  have hlg3 : ds.length ≤ 500 := by omega
                  have HDS := Lib.hid (show ds = digs (X * B + D) from by have h3 := hds.out; rwa [Int.natAbs_natCast] at h3)
                  go_wp2
                  go_roundw
                  case rel => exact ⟨k + 1, X * B + D, b7, o7, c7, ds, by go_num, by omega, rfl, HI8, HDS, hlg3, HF, hbl8⟩
                  case measure => simp [intOf]; omega
            · obtain rfl : k = l.length := by omega
              have HX := Lib.hid (show X = fb B 0 l from by have := hfb.out; rwa [List.drop_length, fb] at this)
              have HLX := Lib.hid (show ¬ 500 < (digs (fb B 0 l)).length from by rw [← HX.out, ← hxs.out]; omega)
              have TX := Lib.hid (text_any false bx ox cx xs wr hIx.out (by rw [hxs.out]; exact (canon_digs _).1) (by omega))
              have HT := Lib.hid (show numR l B = (textOf false xs, 0) from by
                rw [HR.out, resB, if_neg (by rw [Int.natAbs_natCast]; exact HLX.out), numT, decide_eq_false (by omega), Int.natAbs_natCast, ← HX.out, ← hxs.out])
              go_wp2_with fail
              refine TX.out.mono ?_
              rintro e w5 ⟨rfl, hb5⟩
              go_wp2
              go_ret2
              exact outT_of (by rw [HT.out]) (by rw [HT.out]) (hbl.trans (hb5.mono hbl.size))
end Go.Proofs.YtebejllehbpahaaGreatDoor
