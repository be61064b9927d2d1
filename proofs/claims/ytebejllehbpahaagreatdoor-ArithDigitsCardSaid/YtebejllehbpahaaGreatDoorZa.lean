/- The reference: limbs and texts. -/
import Derived.Test.YtebejllehbpahaaGreatDoorPa
import Derived.Deep.LoopGhost
import Derived.Laws.IdiomStrings
/- The reference's order of absolute values. -/
namespace Go.Proofs.YtebejllehbpahaaGreatDoor
open Go.RowKit Go.Proofs.ArM

set_option maxHeartbeats 1600000 in
set_option maxRecDepth 100000 in
theorem order_any (va vb : Value) (xs ys : List Int) (w : World) (ha : Ints w.heap.size w va xs) (hb0 : Ints w.heap.size w vb ys) (hx : Canon xs) (hy : Canon ys) (hlx : xs.length ≤ 100000) :
    Calls Tryz.prog 64 #[va, vb] w (OutV w (.int .i64 (ordZ (val xs) (val ys)))) := by
  obtain ⟨b, o, c, rfl, _, _, hb, hcx⟩ := ha
  obtain ⟨b', o', c', rfl, _, _, hb', hcy⟩ := hb0
  rcases Nat.lt_trichotomy xs.length ys.length with hl | hl | hl
  · have hv := Lib.hid (ordZ_lt (len_lt hx.1 hy hl))
    go_enter Tryz.func64, Tryz.ntmps64
    go_wp2
    go_ret
    exact ⟨by rw [hv.out]; rfl, Below.refl _ _⟩
  · have HL := Lib.hid hl
    have h1 : ((xs.length : Int) != ys.length) = false := by rw [hl]; simp
    clear hl
    go_enter Tryz.func64, Tryz.ntmps64
    go_wp2_with fail
    go_loopw [5] (fun i wr => ∃ k : Nat, i = .int .i64 ((k : Int) - 1) ∧ k ≤ xs.length ∧ xs.drop k = ys.drop k ∧ Below w.heap.size w wr) (fun i _ => (intOf i + 1).toNat)
    case atStart => exact ⟨xs.length, rfl, Nat.le_refl _, by rw [List.drop_length, HL.out, List.drop_length], Below.refl _ _⟩
    case round =>
      obtain ⟨k, rfl, hk, hd, hbl⟩ := hrel
      rcases Nat.eq_zero_or_pos k with rfl | hk0
      · simp only [List.drop_zero] at hd
        have hv := Lib.hid (ordZ_eq (congrArg val hd))
        clear hd
        go_wp2
        go_ret
        exact ⟨by rw [hv.out]; rfl, hbl⟩
      · obtain ⟨j, rfl⟩ : ∃ j, k = j + 1 := ⟨k - 1, by omega⟩
        have hj : ((j + 1 : Nat) : Int) - 1 = (j : Int) := by omega
        rw [hj]
        clear hj
        have HD := Lib.hid hd
        clear hd
        obtain ⟨dx, hdx⟩ : ∃ dx, dx = xs.getD j 0 := ⟨_, rfl⟩
        obtain ⟨dy, hdy⟩ : ∃ dy, dy = ys.getD j 0 := ⟨_, rfl⟩
        have cx : wr.cell? ⟨b, o + j, none⟩ = some (.int .i64 dx) := by rw [hdx]; exact (hbl.cell (p := ⟨b, o + j, none⟩) hb).trans (hcx j (by omega))
        have hjy : j < ys.length := by have := HL.out; omega
        have cy : wr.cell? ⟨b', o' + j, none⟩ = some (.int .i64 dy) := by rw [hdy]; exact (hbl.cell (p := ⟨b', o' + j, none⟩) hb').trans (hcy j hjy)
        have HX := Lib.hid hdx
        have HY := Lib.hid hdy
        clear hdx hdy hcx hcy
        have hjx : j < xs.length := by omega
        rcases Int.lt_trichotomy dx dy with hlt | heq | hgt
        · have hv := Lib.hid (ordZ_lt (drop_lt hx.1 hy.1 hjx HL.out HD.out (by rw [← HX.out, ← HY.out]; exact hlt)))
          go_wp2
          go_quiet (fail)
          go_wp2
          go_ret
          exact ⟨by rw [hv.out]; rfl, below_drewN hbl _⟩
        · subst heq
          have hd := Lib.hid (drop_step hjx HL.out HD.out (by rw [← HX.out, ← HY.out]))
          go_wp2
          go_quiet (fail)
          go_wp2
          go_quiet (fail)
          go_wp2
          go_roundw
          case rel => exact ⟨j, rfl, by omega, hd.out, (by first | exact below_drewN hbl _ | exact below_drewN (below_drewN hbl _) _)⟩
          case measure => simp [intOf]
        · have hv := Lib.hid (ordZ_gt (drop_lt hy.1 hx.1 hjy HL.out.symm HD.out.symm (by rw [← HX.out, ← HY.out]; exact hgt)))
          go_wp2
          go_quiet (fail)
          go_wp2
          go_quiet (fail)
          go_wp2
          go_ret
          exact ⟨by rw [hv.out]; rfl, (by first | exact below_drewN hbl _ | exact below_drewN (below_drewN hbl _) _)⟩
  · have hv := Lib.hid (ordZ_gt (len_lt hy.1 hx hl))
    go_enter Tryz.func64, Tryz.ntmps64
    go_wp2
    go_ret
    exact ⟨by rw [hv.out]; rfl, Below.refl _ _⟩

end Go.Proofs.YtebejllehbpahaaGreatDoor

/- The reference's difference of absolute values. -/
namespace Go.Proofs.YtebejllehbpahaaGreatDoor
open Go.RowKit Go.Proofs.ArM

theorem minus_step {xs ys zs : List Int} {k : Nat} {c0 s : Int} (hx : Dig xs) (hy : Dig ys) (hz : Dig zs) (hl : zs.length = k) (h0 : 0 ≤ c0) (h1 : c0 ≤ 1)
    (hs : s = xs.getD k 0 - c0 - ys.getD k 0) (hv : val zs = val (xs.take k) - val (ys.take k) + p10 k * c0) :
    (0 ≤ s → Dig (zs ++ [s]) ∧ val (zs ++ [s]) = val (xs.take (k + 1)) - val (ys.take (k + 1)) + p10 (k + 1) * 0) ∧
    (s < 0 → Dig (zs ++ [s + 10]) ∧ val (zs ++ [s + 10]) = val (xs.take (k + 1)) - val (ys.take (k + 1)) + p10 (k + 1) * 1) := by
  have a := hx.getD k
  have b := hy.getD k
  have e : p10 k * s = p10 k * xs.getD k 0 - p10 k * c0 - p10 k * ys.getD k 0 := by rw [hs, Int.mul_sub, Int.mul_sub]
  refine ⟨fun h => ⟨hz.append (Dig.nil.cons (by omega)), ?_⟩, fun h => ⟨hz.append (Dig.nil.cons (by omega)), ?_⟩⟩
  · rw [val_snoc, hl, val_take_succ, val_take_succ]; omega
  · rw [val_snoc, hl, val_take_succ, val_take_succ, Int.mul_add]; simp only [p10]; omega

set_option maxHeartbeats 1600000 in
set_option maxRecDepth 100000 in
theorem minus_any (va vb : Value) (xs ys : List Int) (w : World) (ha : Ints w.heap.size w va xs) (hb0 : Ints w.heap.size w vb ys) (hx : Dig xs) (hy : Dig ys) (hlx : xs.length ≤ 100000) (hly : ys.length ≤ xs.length) (hle : val ys ≤ val xs) :
    Calls Tryz.prog 65 #[va, vb] w (OutI w (fun zs => Dig zs ∧ val zs = val xs - val ys ∧ zs.length = xs.length)) := by
  obtain ⟨b, o, c, rfl, _, _, hb, hcx⟩ := ha
  obtain ⟨b', o', c', rfl, _, _, hb', hcy⟩ := hb0
  obtain ⟨i0, hi, hz0, hz1, hz2⟩ := info_parts Tryz.info3
  go_enter Tryz.func65, Tryz.ntmps65
  go_wp2_with fail
  go_loopw [5, 6, 7, 8] (fun v cy i _ wr => ∃ (k : Nat) (zs : List Int) (c0 : Int), i = .int .i64 k ∧ cy = .int .i64 c0 ∧ zs.length = k ∧ 0 ≤ c0 ∧ c0 ≤ 1 ∧ k ≤ xs.length ∧
      wr.ownsRow w.heap.size 3 1 v zs.length (zs.map (Value.int .i64)) ∧ Dig zs ∧ val zs = val (xs.take k) - val (ys.take k) + p10 k * c0 ∧ Below w.heap.size w wr ∧ v ≠ .slice none 0 0)
    (fun _ _ i _ _ => 100002 - (intOf i).toNat)
  case atStart => exact ⟨0, [], 0, rfl, rfl, rfl, by omega, by omega, by omega, World.ownsRow_made _ _ _ (Nat.le_refl _) (by decide) rfl, Dig.nil, by simp [val], (Below.refl _ _).alloc (Nat.le_refl _) _, by simp⟩
  case round =>
    obtain ⟨k, zs, c0, rfl, rfl, hzl, hc0, hc1, hk, hown, hdz, hv, hbl, hnn⟩ := hrel
    obtain ⟨dx, hdx⟩ : ∃ dx, dx = xs.getD k 0 := ⟨_, rfl⟩
    obtain ⟨dy, hdy⟩ : ∃ dy, dy = ys.getD k 0 := ⟨_, rfl⟩
    have hdx0 : 0 ≤ dx ∧ dx ≤ 9 := by rw [hdx]; exact hx.getD k
    have hdy0 : 0 ≤ dy ∧ dy ≤ 9 := by rw [hdy]; exact hy.getD k
    have cx : k < xs.length → wr.cell? ⟨b, o + k, none⟩ = some (.int .i64 dx) := fun h => by rw [hdx]; exact (hbl.cell (p := ⟨b, o + k, none⟩) hb).trans (hcx k h)
    have cy : k < ys.length → wr.cell? ⟨b', o' + k, none⟩ = some (.int .i64 dy) := fun h => by rw [hdy]; exact (hbl.cell (p := ⟨b', o' + k, none⟩) hb').trans (hcy k h)
    have HX := Lib.hid hdx
    have HY := Lib.hid hdy
    have HL := Lib.hid hzl
    have HV := Lib.hid hv
    have HN := Lib.hid hnn
    clear hnn hdx hdy hzl hv hcx hcy
    by_cases hA : k < xs.length
    · obtain ⟨s, hs⟩ : ∃ s, s = dx - c0 - dy := ⟨_, rfl⟩
      have HS := Lib.hid (minus_step (s := s) hx hy hdz HL.out hc0 hc1 (by rw [hs, HX.out, HY.out]) HV.out)
      have HE := Lib.hid hs
      clear hs
      have gy : ¬ k < ys.length → dy = 0 := fun h => by rw [HY.out]; exact getD_ge (by omega)
      have GY := Lib.hid gy
      clear gy
      by_cases hB : k < ys.length <;> by_cases hC : s < 0
      · have t1 : dx - c0 - dy < 0 := by rw [← HE.out]; exact hC
        go_wp2_with (at_builtin; refine wpList_append_own _ rfl (.tmp 36) (.tmp 38) 32 rfl w.heap.size 3 i0 (.int .i64 0) 1 8 Tryz.underlying32 hi hz0 hz1 hz2 rfl (by decide) _ _ _ rfl (hown.alloc _) ⟨wr.heap.size, 0, none⟩ 1 1 [.int .i64 _] rfl rfl (cell_one_new _ _ _) (by intro u hu; simp at hu; subst hu; rfl) (by have := HL.out; unfold maxLen; omega) (by have := HL.out; omega) (by have := hbl.size; simp; omega) ?_; intro v' w1 hown' hgrow hnil; have HN' := Lib.hid (show v' ≠ .slice none 0 0 from fun h => absurd (hnil.1 h).2 (by decide)); clear hnil)
        have R := HS.out.2 hC
        have hE : dx - c0 - dy + 10 = s + 10 := by have h1 := HE.out; omega
        have hB2 := (hbl.alloc (Nat.le_trans hbl.size (Nat.le_refl _)) _).grown hgrow (by have := hbl.size; simp; omega) (fun j hj => (hown.lt j hj).1)
        go_roundw
        case rel => exact ⟨k + 1, zs ++ [s + 10], 1, by go_num, rfl, by simp [HL.out], by omega, by omega, by omega, by rw [← hE]; simpa using hown', R.1, R.2, hB2, HN'.out⟩
        case measure => simp [intOf]; omega
      · have t1 : 0 ≤ dx - c0 - dy := by have h1 := HE.out; omega
        go_wp2_with (at_builtin; refine wpList_append_own _ rfl (.tmp 36) (.tmp 38) 32 rfl w.heap.size 3 i0 (.int .i64 0) 1 8 Tryz.underlying32 hi hz0 hz1 hz2 rfl (by decide) _ _ _ rfl (hown.alloc _) ⟨wr.heap.size, 0, none⟩ 1 1 [.int .i64 _] rfl rfl (cell_one_new _ _ _) (by intro u hu; simp at hu; subst hu; rfl) (by have := HL.out; unfold maxLen; omega) (by have := HL.out; omega) (by have := hbl.size; simp; omega) ?_; intro v' w1 hown' hgrow hnil; have HN' := Lib.hid (show v' ≠ .slice none 0 0 from fun h => absurd (hnil.1 h).2 (by decide)); clear hnil)
        have R := HS.out.1 (by omega)
        have hE : dx - c0 - dy = s := by have h1 := HE.out; omega
        have hB2 := (hbl.alloc (Nat.le_trans hbl.size (Nat.le_refl _)) _).grown hgrow (by have := hbl.size; simp; omega) (fun j hj => (hown.lt j hj).1)
        go_roundw
        case rel => exact ⟨k + 1, zs ++ [s], 0, by go_num, rfl, by simp [HL.out], by omega, by omega, by omega, by rw [← hE]; simpa using hown', R.1, R.2, hB2, HN'.out⟩
        case measure => simp [intOf]; omega
      · have t1 : dx - c0 < 0 := by have h1 := HE.out; have h2 := GY.out hB; omega
        go_wp2_with (at_builtin; refine wpList_append_own _ rfl (.tmp 36) (.tmp 38) 32 rfl w.heap.size 3 i0 (.int .i64 0) 1 8 Tryz.underlying32 hi hz0 hz1 hz2 rfl (by decide) _ _ _ rfl (hown.alloc _) ⟨wr.heap.size, 0, none⟩ 1 1 [.int .i64 _] rfl rfl (cell_one_new _ _ _) (by intro u hu; simp at hu; subst hu; rfl) (by have := HL.out; unfold maxLen; omega) (by have := HL.out; omega) (by have := hbl.size; simp; omega) ?_; intro v' w1 hown' hgrow hnil; have HN' := Lib.hid (show v' ≠ .slice none 0 0 from fun h => absurd (hnil.1 h).2 (by decide)); clear hnil)
        have R := HS.out.2 hC
        have hE : dx - c0 + 10 = s + 10 := by have h2 := GY.out hB; have h1 := HE.out; omega
        have hB2 := (hbl.alloc (Nat.le_trans hbl.size (Nat.le_refl _)) _).grown hgrow (by have := hbl.size; simp; omega) (fun j hj => (hown.lt j hj).1)
        go_roundw
        case rel => exact ⟨k + 1, zs ++ [s + 10], 1, by go_num, rfl, by simp [HL.out], by omega, by omega, by omega, by rw [← hE]; simpa using hown', R.1, R.2, hB2, HN'.out⟩
        case measure => simp [intOf]; omega
      · have t1 : 0 ≤ dx - c0 := by have h1 := HE.out; have h2 := GY.out hB; omega
        go_wp2_with (at_builtin; refine wpList_append_own _ rfl (.tmp 36) (.tmp 38) 32 rfl w.heap.size 3 i0 (.int .i64 0) 1 8 Tryz.underlying32 hi hz0 hz1 hz2 rfl (by decide) _ _ _ rfl (hown.alloc _) ⟨wr.heap.size, 0, none⟩ 1 1 [.int .i64 _] rfl rfl (cell_one_new _ _ _) (by intro u hu; simp at hu; subst hu; rfl) (by have := HL.out; unfold maxLen; omega) (by have := HL.out; omega) (by have := hbl.size; simp; omega) ?_; intro v' w1 hown' hgrow hnil; have HN' := Lib.hid (show v' ≠ .slice none 0 0 from fun h => absurd (hnil.1 h).2 (by decide)); clear hnil)
        have R := HS.out.1 (by omega)
        have hE : dx - c0 = s := by have h2 := GY.out hB; have h1 := HE.out; omega
        have hB2 := (hbl.alloc (Nat.le_trans hbl.size (Nat.le_refl _)) _).grown hgrow (by have := hbl.size; simp; omega) (fun j hj => (hown.lt j hj).1)
        go_roundw
        case rel => exact ⟨k + 1, zs ++ [s], 0, by go_num, rfl, by simp [HL.out], by omega, by omega, by omega, by rw [← hE]; simpa using hown', R.1, R.2, hB2, HN'.out⟩
        case measure => simp [intOf]; omega
    · have hk' : k = xs.length := by omega
      subst hk'
      go_wp2
      go_ret
      have h := HV.out
      rw [take_of_ge (Nat.le_refl _), take_of_ge hly] at h
      have hlt := val_lt hdz
      rw [HL.out] at hlt
      have hp := p10_pos xs.length
      have hc : c0 = 0 := by
        apply Classical.byContradiction
        intro hne
        obtain rfl : c0 = 1 := by omega
        omega
      subst hc
      exact outI_mk hown HN.out ⟨hdz, by omega, HL.out⟩ hbl

end Go.Proofs.YtebejllehbpahaaGreatDoor

/- The reference's integers without leading zeros. -/
namespace Go.Proofs.YtebejllehbpahaaGreatDoor
open Go.RowKit Go.Proofs.ArM

theorem trim_out {w W : World} {b o c k m : Nat} {xs : List Int} {s neg : Bool} (hI : Ints w.heap.size w (.slice (some ⟨b, o, none⟩) xs.length c) xs) (hk : k ≤ xs.length) (hv : Canon (xs.take k) ∧ val (xs.take k) = val xs)
    (hn : m = (val xs).toNat) (hneg : s = neg) (hW : Below w.heap.size w W) : TrimZ b o c w s m (.returned (.agg #[.bool neg, .slice (some ⟨b, o, none⟩) k c])) W := by
  have h := eq_digs hv.1
  rw [hv.2, ← hn] at h
  have hI2 := (hI.take hk).later hW
  have hl : (xs.take k).length = k := by rw [List.length_take, Nat.min_eq_left hk]
  exact ⟨xs.take k, by rw [hneg, hl], by rw [hl]; exact hI2, Lib.hid h, hW⟩

set_option maxHeartbeats 1600000 in
set_option maxRecDepth 100000 in
theorem trimmed_any (neg : Bool) (b o c : Nat) (xs : List Int) (w : World) (ha : Ints w.heap.size w (.slice (some ⟨b, o, none⟩) xs.length c) xs) (hx : Dig xs) (_hlx : xs.length ≤ 100000) :
    Calls Tryz.prog 41 #[.agg #[.bool neg, .slice (some ⟨b, o, none⟩) xs.length c]] w (TrimZ b o c w (decide ((if neg then -val xs else val xs) < 0)) (if neg then -val xs else val xs).natAbs) := by
  have hI := ha
  obtain ⟨hb, _, hc, hm, hcx⟩ := ha.cell
  clear ha
  unfold maxLen at hm
  have cb : ∀ j, j < xs.length → ∀ o1 o2, ((w.alloc o1).alloc o2).cell? ⟨b, o + j, none⟩ = some (.int .i64 (xs.getD j 0)) := fun j hj o1 o2 => by
    have hbl := ((Below.refl w.heap.size w).alloc (Nat.le_refl _) o1).alloc (by simp) o2
    exact (hbl.cell (p := ⟨b, o + j, none⟩) hb).trans (hcx j hj)
  have CB := Lib.hid cb
  clear cb hcx
  cases neg
  all_goals
    go_enter Tryz.func41, Tryz.ntmps41
    go_wp2_with fail
    go_loop [3] (fun n => ∃ k : Nat, n = .int .i64 k ∧ k ≤ xs.length ∧ Hid (∀ j, k ≤ j → j < xs.length → xs.getD j 0 = 0)) (fun n => (intOf n).toNat)
    case atStart => exact ⟨xs.length, rfl, Nat.le_refl _, Lib.hid (fun j h1 h2 => by omega)⟩
    case round =>
      obtain ⟨k, rfl, hk, hz⟩ := hrel
      rcases Nat.eq_zero_or_pos k with rfl | hk0
      · have hv := Lib.hid (canon_take hx (n := 0) hk hz.out (.inl rfl))
        go_wp2
        go_region
        all_goals
          go_wp2
          refine bodyPost_ret (v := .agg #[.bool false, .slice (some ⟨b, o, none⟩) 0 c]) (by simp [results, Tryz.results41, go_sem]) rfl ?_
          have hv0 := hv.out
          have hval := val_nonneg hx
          have h0 : val xs = 0 := by rw [← hv0.2]; simp [val]
          exact trim_out hI hk hv0 (by omega) (by simp; omega) (((Below.refl w.heap.size w).alloc (Nat.le_refl _) _).alloc (by simp) _).drew
      · obtain ⟨j, rfl⟩ : ∃ j, k = j + 1 := ⟨k - 1, by omega⟩
        obtain ⟨d, hd⟩ : ∃ d, d = xs.getD j 0 := ⟨_, rfl⟩
        have cd : ∀ o1 o2, ((w.alloc o1).alloc o2).cell? ⟨b, o + j, none⟩ = some (.int .i64 d) := fun o1 o2 => by rw [hd]; exact CB.out j (by omega) o1 o2
        have HD := Lib.hid hd
        clear hd
        have hd9 := hx.getD j
        rw [← HD.out] at hd9
        by_cases h0 : d = 0
        · subst h0
          have hz2 : Hid (∀ j', j ≤ j' → j' < xs.length → xs.getD j' 0 = 0) := Lib.hid (fun j' h1 h2 => by
            rcases Nat.eq_or_lt_of_le h1 with rfl | h3
            · exact HD.out.symm
            · exact hz.out j' h3 h2)
          go_wp2
          go_round
          case rel => exact ⟨j, rfl, by omega, hz2⟩
          case measure => simp [intOf]
        · have hpos : 0 < d := by omega
          have hv := Lib.hid (canon_take hx (n := j + 1) hk hz.out (.inr (by rw [Nat.add_sub_cancel, ← HD.out]; exact h0)))
          go_wp2
          go_region
          all_goals
            go_wp2
            refine bodyPost_ret (v := .agg #[.bool _, .slice (some ⟨b, o, none⟩) (j + 1) c]) (by simp [results, Tryz.results41, go_sem]; rfl) rfl ?_
            have hv0 := hv.out
            have hval := canon_pos hv0.1 (by intro e; have := congrArg List.length e; rw [List.length_take, Nat.min_eq_left hk] at this; simp at this)
            rw [hv0.2] at hval
            exact trim_out hI hk hv0 (by omega) (by simp; omega) (((Below.refl w.heap.size w).alloc (Nat.le_refl _) _).alloc (by simp) _).drew

theorem trimmed_pos (b o c : Nat) (xs : List Int) (w : World) (ha : Ints w.heap.size w (.slice (some ⟨b, o, none⟩) xs.length c) xs) (hx : Dig xs) (hlx : xs.length ≤ 100000) :
    Calls Tryz.prog 41 #[.agg #[.bool false, .slice (some ⟨b, o, none⟩) xs.length c]] w (TrimZ b o c w false (val xs).toNat) :=
  (trimmed_any false b o c xs w ha hx hlx).mono fun _ _ h => by
    have hv := val_nonneg hx
    have e1 : (val xs).natAbs = (val xs).toNat := by omega
    simpa [show ¬ val xs < 0 by omega, e1] using h

theorem trimmed_z (neg : Bool) (b o c : Nat) (xs : List Int) (w : World) (ha : Ints w.heap.size w (.slice (some ⟨b, o, none⟩) xs.length c) xs) (hx : Dig xs) (hlx : xs.length ≤ 100000) :
    Calls Tryz.prog 41 #[.agg #[.bool neg, .slice (some ⟨b, o, none⟩) xs.length c]] w (OutZ w (if neg then -val xs else val xs)) :=
  (trimmed_any neg b o c xs w ha hx hlx).mono fun _ _ ⟨ds, h1, h2, h3, h4⟩ => ⟨b, o, c, ds, h1, h2, h3, h4⟩

end Go.Proofs.YtebejllehbpahaaGreatDoor

/- The reference's sum of absolute values. -/
namespace Go.Proofs.YtebejllehbpahaaGreatDoor
open Go.RowKit Go.Proofs.ArM

theorem plus_step {xs ys zs : List Int} {k : Nat} {c0 s : Int} (hx : Dig xs) (hy : Dig ys) (hz : Dig zs) (hl : zs.length = k) (h0 : 0 ≤ c0) (h1 : c0 ≤ 1)
    (hs : s = c0 + xs.getD k 0 + ys.getD k 0) (hv : val zs + p10 k * c0 = val (xs.take k) + val (ys.take k)) :
    Dig (zs ++ [s % 10]) ∧ 0 ≤ s / 10 ∧ s / 10 ≤ 1 ∧ val (zs ++ [s % 10]) + p10 (k + 1) * (s / 10) = val (xs.take (k + 1)) + val (ys.take (k + 1)) := by
  have a := hx.getD k
  have b := hy.getD k
  refine ⟨hz.append (Dig.nil.cons (by omega)), by omega, by omega, ?_⟩
  rw [val_snoc, hl, val_take_succ, val_take_succ]
  have e : s = 10 * (s / 10) + s % 10 := by omega
  have : p10 k * s = p10 (k + 1) * (s / 10) + p10 k * (s % 10) := by
    have e2 : p10 k * s = p10 k * (10 * (s / 10) + s % 10) := by rw [← e]
    rw [e2, Int.mul_add, ← Int.mul_assoc]; simp only [p10]; rw [Int.mul_comm (p10 k) 10]
  rw [hs] at this e ⊢
  rw [Int.mul_add, Int.mul_add] at this
  omega

set_option maxHeartbeats 1600000 in
set_option maxRecDepth 100000 in
theorem plus_any (va vb : Value) (xs ys : List Int) (w : World) (ha : Ints w.heap.size w va xs) (hb0 : Ints w.heap.size w vb ys) (hx : Dig xs) (hy : Dig ys) (hlx : xs.length ≤ 100000) (hly : ys.length ≤ 100000) :
    Calls Tryz.prog 52 #[va, vb] w (OutI w (fun zs => Dig zs ∧ val zs = val xs + val ys ∧ zs.length ≤ max xs.length ys.length + 1)) := by
  obtain ⟨b, o, c, rfl, _, _, hb, hcx⟩ := ha
  obtain ⟨b', o', c', rfl, _, _, hb', hcy⟩ := hb0
  obtain ⟨i0, hi, hz0, hz1, hz2⟩ := info_parts Tryz.info3
  go_enter Tryz.func52, Tryz.ntmps52
  go_wp2_with fail
  go_loopw [5, 6, 7] (fun v cy i wr => ∃ (k : Nat) (zs : List Int) (c0 : Int), i = .int .i64 k ∧ cy = .int .i64 c0 ∧ zs.length = k ∧ 0 ≤ c0 ∧ c0 ≤ 1 ∧ k ≤ 100001 ∧ k ≤ max xs.length ys.length + 1 ∧
      (k ≤ xs.length ∨ k ≤ ys.length ∨ c0 = 0) ∧
      wr.ownsRow w.heap.size 3 1 v zs.length (zs.map (Value.int .i64)) ∧ Dig zs ∧ val zs + p10 k * c0 = val (xs.take k) + val (ys.take k) ∧ Below w.heap.size w wr ∧ v ≠ .slice none 0 0)
    (fun _ _ i _ => 100002 - (intOf i).toNat)
  case atStart => exact ⟨0, [], 0, rfl, rfl, rfl, by omega, by omega, by omega, by omega, by omega, World.ownsRow_made _ _ _ (Nat.le_refl _) (by decide) rfl, Dig.nil, by simp [val], (Below.refl _ _).alloc (Nat.le_refl _) _, by simp⟩
  case round =>
    obtain ⟨k, zs, c0, rfl, rfl, hzl, hc0, hc1, hk, hkm, hor, hown, hdz, hv, hbl, hnn⟩ := hrel
    obtain ⟨dx, hdx⟩ : ∃ dx, dx = xs.getD k 0 := ⟨_, rfl⟩
    obtain ⟨dy, hdy⟩ : ∃ dy, dy = ys.getD k 0 := ⟨_, rfl⟩
    have hdx0 : 0 ≤ dx ∧ dx ≤ 9 := by rw [hdx]; exact hx.getD k
    have hdy0 : 0 ≤ dy ∧ dy ≤ 9 := by rw [hdy]; exact hy.getD k
    have cx : k < xs.length → wr.cell? ⟨b, o + k, none⟩ = some (.int .i64 dx) := fun h => by rw [hdx]; exact (hbl.cell (p := ⟨b, o + k, none⟩) hb).trans (hcx k h)
    have cy : k < ys.length → wr.cell? ⟨b', o' + k, none⟩ = some (.int .i64 dy) := fun h => by rw [hdy]; exact (hbl.cell (p := ⟨b', o' + k, none⟩) hb').trans (hcy k h)
    have HX := Lib.hid hdx
    have HY := Lib.hid hdy
    have HL := Lib.hid hzl
    have HV := Lib.hid hv
    have HN := Lib.hid hnn
    clear hnn hdx hdy hzl hv hcx hcy
    have HS : ∀ s, s = c0 + dx + dy → _ := fun s hs => plus_step (s := s) hx hy hdz HL.out hc0 hc1 (by rw [hs, HX.out, HY.out]) HV.out
    have HS := Lib.hid HS
    have gx : ¬ k < xs.length → dx = 0 := fun h => by rw [HX.out]; exact getD_ge (by omega)
    have gy : ¬ k < ys.length → dy = 0 := fun h => by rw [HY.out]; exact getD_ge (by omega)
    have GX := Lib.hid gx
    have GY := Lib.hid gy
    clear gx gy
    by_cases hA : k < xs.length <;> by_cases hB : k < ys.length <;> rcases (show c0 = 0 ∨ c0 = 1 by omega) with rfl | rfl
    all_goals
      go_wp2_with (at_builtin; refine wpList_append_own _ rfl (.tmp 45) (.tmp 48) 32 rfl w.heap.size 3 i0 (.int .i64 0) 1 8 Tryz.underlying32 hi hz0 hz1 hz2 rfl (by decide) _ _ _ rfl (hown.alloc _) ⟨wr.heap.size, 0, none⟩ 1 1 [.int .i64 _] rfl rfl (cell_one_new _ _ _) (by intro u hu; simp at hu; subst hu; rfl) (by have := HL.out; unfold maxLen; omega) (by have := HL.out; omega) (by have := hbl.size; simp; omega) ?_; intro v' w1 hown' hgrow hnil; have HN' := Lib.hid (show v' ≠ .slice none 0 0 from fun h => absurd (hnil.1 h).2 (by decide)); clear hnil)
    · have R := HS.out (dx + dy) (by first | omega | (rw [GX.out hA, GY.out hB]; rfl) | (rw [GX.out hA]; omega) | (rw [GY.out hB]; omega))
      have hB := (hbl.alloc (Nat.le_trans hbl.size (Nat.le_refl _)) _).grown hgrow (by have := hbl.size; simp; omega) (fun j hj => (hown.lt j hj).1)
      go_roundw
      case rel => exact ⟨k + 1, zs ++ [(dx + dy) % 10], (dx + dy) / 10, by go_num, by first | rfl | go_num, by simp [HL.out], R.2.1, R.2.2.1, by omega, by omega, by omega, by simpa using hown', R.1, R.2.2.2, hB, HN'.out⟩
      case measure => simp [intOf]; omega
    · have R := HS.out (1 + dx + dy) (by first | omega | (rw [GX.out hA, GY.out hB]; rfl) | (rw [GX.out hA]; omega) | (rw [GY.out hB]; omega))
      have hB := (hbl.alloc (Nat.le_trans hbl.size (Nat.le_refl _)) _).grown hgrow (by have := hbl.size; simp; omega) (fun j hj => (hown.lt j hj).1)
      go_roundw
      case rel => exact ⟨k + 1, zs ++ [(1 + dx + dy) % 10], (1 + dx + dy) / 10, by go_num, by first | rfl | go_num, by simp [HL.out], R.2.1, R.2.2.1, by omega, by omega, by omega, by simpa using hown', R.1, R.2.2.2, hB, HN'.out⟩
      case measure => simp [intOf]; omega
    · have R := HS.out (dx) (by first | omega | (rw [GX.out hA, GY.out hB]; rfl) | (rw [GX.out hA]; omega) | (rw [GY.out hB]; omega))
      have hB := (hbl.alloc (Nat.le_trans hbl.size (Nat.le_refl _)) _).grown hgrow (by have := hbl.size; simp; omega) (fun j hj => (hown.lt j hj).1)
      go_roundw
      case rel => exact ⟨k + 1, zs ++ [(dx) % 10], (dx) / 10, by go_num, by first | rfl | go_num, by simp [HL.out], R.2.1, R.2.2.1, by omega, by omega, by omega, by simpa using hown', R.1, R.2.2.2, hB, HN'.out⟩
      case measure => simp [intOf]; omega
    · have R := HS.out (1 + dx) (by first | omega | (rw [GX.out hA, GY.out hB]; rfl) | (rw [GX.out hA]; omega) | (rw [GY.out hB]; omega))
      have hB := (hbl.alloc (Nat.le_trans hbl.size (Nat.le_refl _)) _).grown hgrow (by have := hbl.size; simp; omega) (fun j hj => (hown.lt j hj).1)
      go_roundw
      case rel => exact ⟨k + 1, zs ++ [(1 + dx) % 10], (1 + dx) / 10, by go_num, by first | rfl | go_num, by simp [HL.out], R.2.1, R.2.2.1, by omega, by omega, by omega, by simpa using hown', R.1, R.2.2.2, hB, HN'.out⟩
      case measure => simp [intOf]; omega
    · have R := HS.out (dy) (by first | omega | (rw [GX.out hA, GY.out hB]; rfl) | (rw [GX.out hA]; omega) | (rw [GY.out hB]; omega))
      have hB := (hbl.alloc (Nat.le_trans hbl.size (Nat.le_refl _)) _).grown hgrow (by have := hbl.size; simp; omega) (fun j hj => (hown.lt j hj).1)
      go_roundw
      case rel => exact ⟨k + 1, zs ++ [(dy) % 10], (dy) / 10, by go_num, by first | rfl | go_num, by simp [HL.out], R.2.1, R.2.2.1, by omega, by omega, by omega, by simpa using hown', R.1, R.2.2.2, hB, HN'.out⟩
      case measure => simp [intOf]; omega
    · have R := HS.out (1 + dy) (by first | omega | (rw [GX.out hA, GY.out hB]; rfl) | (rw [GX.out hA]; omega) | (rw [GY.out hB]; omega))
      have hB := (hbl.alloc (Nat.le_trans hbl.size (Nat.le_refl _)) _).grown hgrow (by have := hbl.size; simp; omega) (fun j hj => (hown.lt j hj).1)
      go_roundw
      case rel => exact ⟨k + 1, zs ++ [(1 + dy) % 10], (1 + dy) / 10, by go_num, by first | rfl | go_num, by simp [HL.out], R.2.1, R.2.2.1, by omega, by omega, by omega, by simpa using hown', R.1, R.2.2.2, hB, HN'.out⟩
      case measure => simp [intOf]; omega
    · go_ret
      have h := HV.out
      rw [take_of_ge (by omega), take_of_ge (by omega)] at h
      exact outI_mk hown HN.out ⟨hdz, by omega, by rw [HL.out]; omega⟩ hbl
    · have R := HS.out (1) (by first | omega | (rw [GX.out hA, GY.out hB]; rfl) | (rw [GX.out hA]; omega) | (rw [GY.out hB]; omega))
      have hB := (hbl.alloc (Nat.le_trans hbl.size (Nat.le_refl _)) _).grown hgrow (by have := hbl.size; simp; omega) (fun j hj => (hown.lt j hj).1)
      go_roundw
      case rel => exact ⟨k + 1, zs ++ [(1) % 10], (1) / 10, by go_num, by first | rfl | go_num, by simp [HL.out], R.2.1, R.2.2.1, by omega, by omega, by omega, by simpa using hown', R.1, R.2.2.2, hB, HN'.out⟩
      case measure => simp [intOf]; omega
end Go.Proofs.YtebejllehbpahaaGreatDoor

/- Three boxes. -/
namespace Go.Proofs.YtebejllehbpahaaGreatDoor
open Go.RowKit Go.Proofs.ArM

/-- the boxes of two integers and of a result, and all that lay before -/
def BoxS (N : Nat) (W w' : World) (p q r t : Value) : Prop :=
  w'.cell? ⟨N, 0, none⟩ = some p ∧ w'.cell? ⟨N, 1, none⟩ = some q ∧ w'.cell? ⟨N + 1, 0, none⟩ = some r ∧ w'.cell? ⟨N + 1, 1, none⟩ = some t ∧ Below (N + 3) W w'

theorem boxS_next {N : Nat} {W wx wy : World} {p q r t : Value} (h : BoxS N W wx p q r t) (hW : N + 3 ≤ W.heap.size) (hb : Below wx.heap.size wx wy) : BoxS N W wy p q r t := by
  obtain ⟨h1, h2, h3, h4, h5⟩ := h
  have hs := h5.size
  exact ⟨(hb.cell (p := ⟨N, 0, none⟩) (by simp; omega)).trans h1, (hb.cell (p := ⟨N, 1, none⟩) (by simp; omega)).trans h2, (hb.cell (p := ⟨N + 1, 0, none⟩) (by simp; omega)).trans h3,
    (hb.cell (p := ⟨N + 1, 1, none⟩) (by simp; omega)).trans h4, h5.trans (hb.mono (by omega))⟩

theorem box_new (w : World) (p q r t : Value) :
    ∃ W, W = ((w.alloc (.cells #[p, q] 54)).alloc (.cells #[r, t] 54)).alloc (.cells #[.bool false, .slice none 0 0] 54) ∧
      w.heap.size + 3 = W.heap.size ∧ Below w.heap.size w W ∧ BoxS w.heap.size W W p q r t ∧
      (W.cell? ⟨w.heap.size + 1 + 1, 0, none⟩ = some (.bool false) ∧ W.cell? ⟨w.heap.size + 1 + 1, 1, none⟩ = some (.slice none 0 0) ∧ W.frozen? ⟨w.heap.size + 1 + 1, 0, none⟩ = false ∧ W.frozen? ⟨w.heap.size + 1 + 1, 1, none⟩ = false) := by
  refine ⟨_, rfl, by simp, (((Below.refl _ _).alloc (Nat.le_refl _) _).alloc (by simp) _).alloc (by simp; omega) _, ⟨?_, ?_, ?_, ?_, Below.refl _ _⟩, ?_, ?_, ?_, ?_⟩
  · rw [World.cell?_alloc_past _ _ _ (by simp; omega), World.cell?_alloc_past _ _ _ (by simp), World.cell?_alloc_at _ _ _ _ rfl]; rfl
  · rw [World.cell?_alloc_past _ _ _ (by simp; omega), World.cell?_alloc_past _ _ _ (by simp), World.cell?_alloc_at _ _ _ _ rfl]; rfl
  · rw [World.cell?_alloc_past _ _ _ (by simp), World.cell?_alloc_at _ _ _ _ (by simp)]; rfl
  · rw [World.cell?_alloc_past _ _ _ (by simp), World.cell?_alloc_at _ _ _ _ (by simp)]; rfl
  · rw [World.cell?_alloc_at _ _ _ _ (by simp)]; rfl
  · rw [World.cell?_alloc_at _ _ _ _ (by simp)]; rfl
  · exact World.frozen?_alloc_at _ _ _ _ (by simp)
  · exact World.frozen?_alloc_at _ _ _ _ (by simp)

end Go.Proofs.YtebejllehbpahaaGreatDoor

/- The reference's product of absolute values. -/
namespace Go.Proofs.YtebejllehbpahaaGreatDoor
open Go.RowKit Go.Proofs.ArM

set_option maxHeartbeats 3200000 in
set_option maxRecDepth 100000 in
theorem times_any (va vb : Value) (xs ys : List Int) (w : World) (ha : Ints w.heap.size w va xs) (hb0 : Ints w.heap.size w vb ys) (hx : Dig xs) (hy : Dig ys) (hlx : xs.length ≤ 10000) (hly : ys.length ≤ 10000) :
    Calls Tryz.prog 53 #[va, vb] w (OutI w (fun zs => zs = digs (val xs * val ys).toNat)) := by
  obtain ⟨b, o, c, rfl, _, _, hb, hcx⟩ := ha
  obtain ⟨b', o', c', rfl, _, _, hb', hcy⟩ := hb0
  obtain ⟨i0, hi, hz0, hz1, hz2⟩ := info_parts Tryz.info3
  obtain ⟨g, hg⟩ : ∃ g, g = w.heap.size := ⟨_, rfl⟩
  obtain ⟨L, hL⟩ : ∃ L, L = xs.length + ys.length + 1 := ⟨_, rfl⟩
  have HG := Lib.hid hg
  have HL := Lib.hid hL
  clear hg hL
  go_enter Tryz.func53, Tryz.ntmps53
  go_wp2_with (at_make; refine wpList_make_full _ rfl _ _ 32 rfl w.heap.size 3 i0 (.int .i64 0) 1 Tryz.underlying32 hi hz0 hz1 _ _ _ _ L rfl rfl (by rw [HL.out]; omega) (by rw [HL.out]; omega) (by rw [hz2, HL.out]; omega) (by rw [HL.out]; unfold maxLen; omega) (Nat.le_refl _) ?_; intro w1 hown1 hgrow1)
  have hos0 : (madeCells (Value.int .i64 0).cells (L * 1)).toList = (List.replicate L (0 : Int)).map (Value.int .i64) := by
    rw [Nat.mul_one, show (Value.int .i64 0).cells = #[Value.int .i64 0] from rfl, toList_madeCells_one]; simp
  rw [hos0] at hown1
  clear hos0
  have hbl1 : Below w.heap.size w w1 := (Below.refl _ _).grown hgrow1 (Nat.le_refl _) (fun j hj => by cases hj)
  go_loopw [6, 7, 8, 9] (fun i _ _ _ wr => ∃ (k : Nat) (os : List Int), i = .int .i64 k ∧ k ≤ xs.length ∧ wr.ownsRow w.heap.size 3 1 (.slice (some ⟨w.heap.size, 0, none⟩) L L) L (os.map (Value.int .i64)) ∧
      os.length = L ∧ Dig os ∧ val os = val (xs.take k) * val ys ∧ Below w.heap.size w wr)
    (fun i _ _ _ _ => xs.length - (intOf i).toNat)
  case atStart => exact ⟨0, _, rfl, Nat.zero_le _, hown1, by simp, dig_replicate L, by rw [val_replicate]; simp [val], hbl1⟩
  case round =>
    obtain ⟨i, os, rfl, hi1, hown, hol, hdo, hv, hbl⟩ := hrel
    obtain ⟨dx, hdx⟩ : ∃ dx, dx = xs.getD i 0 := ⟨_, rfl⟩
    have hdx0 : 0 ≤ dx ∧ dx ≤ 9 := by rw [hdx]; exact hx.getD i
    have HX := Lib.hid hdx
    have HO := Lib.hid hol
    have HV := Lib.hid hv
    clear hdx hol hv
    by_cases hA : i < xs.length
    · go_wp2_with fail
      obtain ⟨wo, rfl⟩ : ∃ wo : World, wo = wr := ⟨_, rfl⟩
      clear hgrow1 hown1 hbl1
      go_loopw [7, 8, 9] (fun cy k _ wr => ∃ (kk : Nat) (os : List Int) (c0 : Int), k = .int .i64 kk ∧ cy = .int .i64 c0 ∧ 0 ≤ c0 ∧ c0 ≤ 9 ∧ kk ≤ ys.length + 1 ∧ (kk ≤ ys.length ∨ c0 = 0) ∧
          wr.ownsRow w.heap.size 3 1 (.slice (some ⟨w.heap.size, 0, none⟩) L L) L (os.map (Value.int .i64)) ∧
          os.length = L ∧ Dig os ∧ val os + p10 (i + kk) * c0 = val (xs.take i) * val ys + p10 i * (xs.getD i 0 * val (ys.take kk)) ∧ Below w.heap.size w wr)
        (fun _ k _ _ => ys.length + 1 - (intOf k).toNat)
      case atStart => exact ⟨0, os, 0, rfl, rfl, by omega, by omega, by omega, by omega, hown, HO.out, hdo, by rw [HV.out]; simp [val], hbl⟩
      case round =>
        obtain ⟨k, os2, c0, rfl, rfl, hc0, hc9, hk1, hor, hown2, hol2, hdo2, hv2, hbl2⟩ := hrel
        obtain ⟨dy, hdy⟩ : ∃ dy, dy = ys.getD k 0 := ⟨_, rfl⟩
        obtain ⟨dz, hdz⟩ : ∃ dz, dz = os2.getD (i + k) 0 := ⟨_, rfl⟩
        have hdy0 : 0 ≤ dy ∧ dy ≤ 9 := by rw [hdy]; exact hy.getD k
        have hdz0 : 0 ≤ dz ∧ dz ≤ 9 := by rw [hdz]; exact hdo2.getD _
        have p0 : 0 ≤ dx * dy := Int.mul_nonneg hdx0.1 hdy0.1
        have p81 : dx * dy ≤ 81 := Int.le_trans (Int.mul_le_mul_of_nonneg_right hdx0.2 hdy0.1) (by omega)
        have hj : k ≤ ys.length → i + k < os2.length := fun h => by rw [hol2, HL.out]; omega
        have cz : k ≤ ys.length → wr.cell? ⟨w.heap.size, i + k, none⟩ = some (.int .i64 dz) := fun h => by
          have h2 := hj h
          rw [hown2.cellAt (i + k) (by omega), hdz]
          simp [List.getD, h2]
        have fz := hown2.frozenAt (i + k)
        have cx : wr.cell? ⟨b, o + i, none⟩ = some (.int .i64 dx) := by rw [HX.out]; exact (hbl2.cell (p := ⟨b, o + i, none⟩) hb).trans (hcx i hA)
        have cy : k < ys.length → wr.cell? ⟨b', o' + k, none⟩ = some (.int .i64 dy) := fun h => by rw [hdy]; exact (hbl2.cell (p := ⟨b', o' + k, none⟩) hb').trans (hcy k h)
        have HT : Hid (∀ t, t = dz + c0 + dx * dy → k ≤ ys.length → Dig (os2.set (i + k) (t % 10)) ∧ 0 ≤ t / 10 ∧ t / 10 ≤ 9 ∧
            val (os2.set (i + k) (t % 10)) + p10 (i + (k + 1)) * (t / 10) = val (xs.take i) * val ys + p10 i * (xs.getD i 0 * val (ys.take (k + 1)))) :=
          Lib.hid (fun t ht hk => times_step hdo2 hx hy (hj hk) hc0 hc9 (by rw [ht, hdz, HX.out, hdy]) hv2)
        have HY := Lib.hid hdy
        have HO2 := Lib.hid hol2
        have HV2 := Lib.hid hv2
        have HJ := Lib.hid hj
        clear hdy hdz hol2 hv2 hj
        have CZ := Lib.hid cz
        have CY := Lib.hid cy
        clear cz cy
        by_cases hB : k < ys.length
        · have cz := CZ.out (by omega)
          have cy := CY.out hB
          have hjL : i + k < L := by rw [HL.out]; omega
          go_wp2
          go_quiet (fail)
          go_wp2
          have R := HT.out (dz + c0 + dx * dy) rfl (by omega)
          have st := (own_drewN hown2 nq).stored (i + k) (.int .i64 ((dz + c0 + dx * dy) % 10))
          rw [← List.map_set] at st
          go_roundw
          case rel => exact ⟨k + 1, os2.set (i + k) ((dz + c0 + dx * dy) % 10), (dz + c0 + dx * dy) / 10, by go_num, rfl, R.2.1, R.2.2.1, by omega, by omega, st.1, by rw [List.length_set]; exact HO2.out, R.1, R.2.2.2, (below_drewN hbl2 nq).setCell (Nat.le_refl _) _⟩
          case measure => simp [intOf]; omega
        · rcases (show c0 = 0 ∨ (0 < c0 ∧ k = ys.length) by omega) with rfl | ⟨hcp, hk⟩
          · go_wp2
            go_roundw
            case rel =>
              refine ⟨i + 1, os2, by go_num, by omega, hown2, HO2.out, hdo2, ?_, hbl2⟩
              have h := HV2.out
              rw [take_of_ge (show ys.length ≤ k by omega)] at h
              rw [val_take_succ, Int.add_mul, Int.mul_assoc]
              omega
            case measure => simp [intOf]; omega
          · have hkl : k ≤ ys.length := by omega
            have hkl2 : ys.length ≤ k := by omega
            have HK := Lib.hid hk
            clear hk
            have cz := CZ.out (by omega)
            have hjL : i + k < L := by rw [HL.out]; omega
            have d0 : dy = 0 := by rw [HY.out]; exact getD_ge hkl2
            subst d0
            go_wp2
            have R := HT.out (dz + c0 + dx * 0) rfl (by omega)
            rw [Int.mul_zero, Int.add_zero] at R
            have st := hown2.stored (i + k) (.int .i64 ((dz + c0) % 10))
            rw [← List.map_set] at st
            have hlast : (dz + c0) / 10 = 0 := by
              have h := R.2.2.2
              rw [HK.out] at h
              exact times_last (i := i) (by rw [HK.out] at R; exact R.1) hx hy hA (by omega) h
            go_roundw
            case rel => exact ⟨k + 1, os2.set (i + k) ((dz + c0) % 10), (dz + c0) / 10, by go_num, rfl, R.2.1, R.2.2.1, by omega, .inr hlast, st.1, by rw [List.length_set]; exact HO2.out, R.1, R.2.2.2, hbl2.setCell (Nat.le_refl _) _⟩
            case measure => simp [intOf]; omega
    · have hie : i = xs.length := by omega
      subst hie
      have hI := ints_of_row hown
      have hol : os.length = L := HO.out
      go_wp2_with fail
      rw [← hol] at hI ⊢
      refine (trimmed_pos _ _ _ os wr hI hdo (by rw [HO.out, HL.out]; omega)).mono ?_
      rintro e w2 ⟨ds, rfl, hI2, hds, hb2⟩
      clear hol
      go_wp2
      go_ret
      have h := HV.out
      rw [take_of_ge (Nat.le_refl _)] at h
      refine outI_of hI2 ?_ (hbl.trans (hb2.mono hbl.size)) (Nat.le_refl _)
      rw [hds.out, h]

end Go.Proofs.YtebejllehbpahaaGreatDoor

/- The reference's division of absolute values. -/
namespace Go.Proofs.YtebejllehbpahaaGreatDoor
open Go.RowKit Go.Proofs.ArM

/-- a quotient and a remainder -/
def OutQ (w : World) (A B : Nat) (e : Ending) (w' : World) : Prop :=
  ∃ b o c qs b' o' c' rs, e = .returned (.tuple #[.slice (some ⟨b, o, none⟩) qs.length c, .slice (some ⟨b', o', none⟩) rs.length c']) ∧
    Ints w'.heap.size w' (.slice (some ⟨b, o, none⟩) qs.length c) qs ∧ Ints w'.heap.size w' (.slice (some ⟨b', o', none⟩) rs.length c') rs ∧ Hid (qs = digs (A / B)) ∧ Hid (rs = digs (A % B)) ∧ Below w.heap.size w w'

set_option maxHeartbeats 3200000 in
set_option maxRecDepth 100000 in
theorem divided_any (b o c b' o' c' : Nat) (xs ys : List Int) (A B : Nat) (w : World) (ha : Ints w.heap.size w (.slice (some ⟨b, o, none⟩) xs.length c) xs) (hb0 : Ints w.heap.size w (.slice (some ⟨b', o', none⟩) ys.length c') ys)
    (hx : Dig xs) (hA : val xs = A) (hB : ys = digs B) (hB0 : 0 < B) (hlx : xs.length ≤ 10000) (hly : ys.length ≤ 10000) :
    Calls Tryz.prog 46 #[.slice (some ⟨b, o, none⟩) xs.length c, .slice (some ⟨b', o', none⟩) ys.length c'] w (OutQ w A B) := by
  obtain ⟨hb, _, _, _, hcx⟩ := ha.cell
  obtain ⟨i0, hi, hz0, hz1, hz2⟩ := info_parts Tryz.info3
  have HA := Lib.hid hA
  have HB := Lib.hid hB
  clear hA hB
  go_enter Tryz.func46, Tryz.ntmps46
  go_wp2_with (at_make; refine wpList_make_full _ rfl _ _ 32 rfl w.heap.size 3 i0 (.int .i64 0) 1 Tryz.underlying32 hi hz0 hz1 _ _ _ _ xs.length rfl rfl rfl rfl (by rw [hz2]; omega) (by unfold maxLen; omega) (Nat.le_refl _) ?_; intro w1 hown1 hgrow1)
  have hos0 : (madeCells (Value.int .i64 0).cells (xs.length * 1)).toList = (List.replicate xs.length (0 : Int)).map (Value.int .i64) := by
    rw [Nat.mul_one, show (Value.int .i64 0).cells = #[Value.int .i64 0] from rfl, toList_madeCells_one]; simp
  rw [hos0] at hown1
  clear hos0
  have hbl1 : Below w.heap.size w w1 := (Below.refl _ _).grown hgrow1 (Nat.le_refl _) (fun j hj => by cases hj)
  have hsz1 : w.heap.size < w1.heap.size := (hown1.lt w.heap.size rfl).2
  go_loopw [7, 8] (fun r i wr => ∃ (k R br or cr : Nat) (rs qs : List Int), i = .int .i64 ((k : Int) - 1) ∧ k ≤ xs.length ∧ r = .slice (some ⟨br, or, none⟩) rs.length cr ∧ Ints wr.heap.size wr (.slice (some ⟨br, or, none⟩) rs.length cr) rs ∧ w.heap.size < br ∧
      Hid (rs = digs R) ∧ R < B ∧ wr.ownsRow w.heap.size 3 1 (.slice (some ⟨w.heap.size, 0, none⟩) xs.length xs.length) xs.length (qs.map (Value.int .i64)) ∧ Hid (qs.length = xs.length ∧ Dig qs ∧ (∀ j, j < k → qs.getD j 0 = 0) ∧
      val qs * B + p10 k * R = p10 k * val (xs.drop k)) ∧ Below w.heap.size w wr)
    (fun _ i _ => (intOf i + 1).toNat)
  case atStart =>
    refine ⟨xs.length, 0, w1.heap.size, 0, 0, [], _, rfl, Nat.le_refl _, rfl, ⟨_, 0, 0, rfl, by simp, by unfold maxLen; omega, by simp, fun j hj => by simp at hj⟩, hsz1, Lib.hid digs_zero.symm, hB0, hown1.alloc _, Lib.hid ⟨by simp, dig_replicate _,
      fun j hj => by simp [List.getD, hj], ?_⟩, hbl1.alloc (Nat.le_of_lt hsz1) _⟩
    rw [val_replicate, List.drop_length]; simp [val]
  case round =>
    obtain ⟨k, R, br, or, cr, rs, qs, rfl, hk, rfl, hIr, hbr, hrs, hRB, hown, hqd, hbl⟩ := hrel
    rcases Nat.eq_zero_or_pos k with rfl | hk0
    · have hqI := ints_of_row hown
      have hql : xs.length = qs.length := hqd.out.1.symm
      have hqn := val_nonneg hqd.out.2.1
      have hdv := div_total (A := A) (B := B) (Q := val qs) (R := R) (by have h := hqd.out.2.2.2; simp only [p10, Int.one_mul, List.drop_zero] at h; rw [h, HA.out]) (by omega) (by omega)
      have HDV := Lib.hid hdv
      clear hdv
      rw [hql] at hqI
      go_wp2_with fail
      rw [hql]
      refine (trimmed_pos _ _ _ qs wr hqI hqd.out.2.1 (by omega)).mono ?_
      rintro e w2 ⟨ds, rfl, hI2, hds, hb2⟩
      have HQL := Lib.hid hql
      have hIr2 := hIr.later hb2
      clear hql hqI hown
      go_wp2
      go_ret2
      refine ⟨_, _, _, ds, _, _, _, rs, rfl, hI2, hIr2, Lib.hid ?_, Lib.hid ?_, hbl.trans (hb2.mono hbl.size)⟩
      · rw [hds.out, HDV.out.1]; congr 1
      · rw [hrs.out]; congr 1; have := HDV.out.2; omega
    · obtain ⟨i, rfl⟩ : ∃ i, k = i + 1 := ⟨k - 1, by omega⟩
      have hj : ((i + 1 : Nat) : Int) - 1 = (i : Int) := by omega
      rw [hj]
      clear hj
      obtain ⟨dx, hdx⟩ : ∃ dx, dx = xs.getD i 0 := ⟨_, rfl⟩
      have hdx0 : 0 ≤ dx ∧ dx ≤ 9 := by rw [hdx]; exact hx.getD i
      have cx : wr.cell? ⟨b, o + i, none⟩ = some (.int .i64 dx) := by rw [hdx]; exact (hbl.cell (p := ⟨b, o + i, none⟩) hb).trans (hcx i (by omega))
      have HX := Lib.hid hdx
      clear hdx
      have hown0 := World.ownsRow_lit (base := wr.heap.size) (e := 3) (size := 1) wr #[.int .i64 dx] 1 (Nat.le_refl _) (by unfold maxLen; omega) rfl
      have hl0 : (rs.map (Value.int .i64)).length = rs.length * 1 := by simp
      have hrl : rs.length ≤ 10000 := by
        rw [hrs.out]
        refine Nat.le_trans (digs_len (k := ys.length) ?_) hly
        have h1 := digs_lt B
        rw [← HB.out] at h1
        omega
      have hI1 : Ints (wr.alloc (.cells #[.int .i64 dx] 3)).heap.size (wr.alloc (.cells #[.int .i64 dx] 3)) (.slice (some ⟨br, or, none⟩) rs.length cr) rs := hIr.later ((Below.refl _ _).alloc (Nat.le_refl _) _)
      have hn0 := hI1.news
      have HO0 := Lib.hid hown0
      have HL0 := Lib.hid hl0
      have HN0 := Lib.hid hn0
      clear hown0 hl0 hn0
      go_wp2_with (at_builtin; (refine wpList_append_own _ rfl (.tmp 24) (.tmp 25) 32 rfl wr.heap.size 3 i0 (.int .i64 0) 1 8 Tryz.underlying32 hi hz0 hz1 hz2 rfl (by decide) (.slice (some ⟨wr.heap.size, 0, none⟩) 1 1) 1 [.int .i64 dx] rfl HO0.out ⟨br, or, none⟩ rs.length cr (rs.map (Value.int .i64)) rfl HL0.out HN0.out (ints_one rs) (by unfold maxLen; omega) (by omega) (by simp) ?_); intro v' w2 hown' hgrow hnil; clear hnil; obtain ⟨g2, cap2, rfl, hg2⟩ := own_shape hown' (by omega))
      have hbl2 : Below w.heap.size w w2 := (hbl.alloc hbl.size _).grown hgrow (by have := hbl.size; simp; omega) (fun j hj => by simp [Value.ownBlock] at hj; have := hbl.size; omega)
      have hI2 : Ints w2.heap.size w2 (.slice (some ⟨g2, 0, none⟩) (1 + rs.length) cap2) (dx :: rs) := ints_of_row (by simpa using hown')
      have hl2 : 1 + rs.length = (dx :: rs).length := by simp; omega
      rw [hl2] at hI2 ⊢
      have hrd : Dig (dx :: rs) := Dig.cons hdx0 (by rw [hrs.out]; exact (canon_digs R).1)
      refine (trimmed_pos g2 0 cap2 (dx :: rs) w2 hI2 hrd (by simp; omega)).mono ?_
      rintro e w3 ⟨r3, rfl, hI3, hr3, hb3⟩
      have hq0 : w.heap.size < w2.heap.size := by have h1 := (hown.lt w.heap.size rfl).2; have h2 := hgrow.size; simp at h2; omega
      have hown2 := (hown.alloc (.cells #[.int .i64 dx] 3)).kept hgrow (.inr (by simp [Value.ownBlock]; have := (hown.lt w.heap.size rfl).2; omega))
      have hown3 := own_below hown2 hb3 (fun k hk => by simp [Value.ownBlock] at hk; omega)
      have hbl3 := hbl2.trans (hb3.mono hbl2.size)
      have hvr := val_nonneg hrd
      have HV0 : Hid ((0 : Int) * B + ((val (dx :: rs)).toNat : Nat) = dx + 10 * R) := Lib.hid (by
        rw [Int.toNat_of_nonneg hvr, val, hrs.out, val_digs]; omega)
      have HS0 : Hid (qs.set i 0 = qs) := Lib.hid (set_same (by rw [hqd.out.1]; omega) (hqd.out.2.2.1 i (by omega)))
      have hI3' : Ints w3.heap.size w3 (.slice (some ⟨g2, 0, none⟩) r3.length cap2) r3 := hI3
      have hg2w : w.heap.size < g2 := by have := (hown.lt w.heap.size rfl).2; omega
      clear hown hown2 hown' hgrow HO0 HL0 HN0 hI1 hIr hbr hI2 hbl2 hb3 hI3 hrd hl2
      go_wp2_with fail
      go_loopg [7] (val (dx :: rs)).toNat (fun R2 r wr => ∃ (c2 br2 or2 cr2 : Nat) (rs2 : List Int), r = .slice (some ⟨br2, or2, none⟩) rs2.length cr2 ∧ Ints wr.heap.size wr (.slice (some ⟨br2, or2, none⟩) rs2.length cr2) rs2 ∧ w.heap.size < br2 ∧
        Hid (rs2 = digs R2) ∧ c2 ≤ 9 ∧ Hid ((c2 : Int) * B + (R2 : Nat) = dx + 10 * R) ∧ wr.ownsRow w.heap.size 3 1 (.slice (some ⟨w.heap.size, 0, none⟩) xs.length xs.length) xs.length ((qs.set i c2).map (Value.int .i64)) ∧ Below w.heap.size w wr)
      case atStart => exact ⟨0, g2, 0, cap2, r3, rfl, hI3', hg2w, hr3, by omega, HV0, by rw [show ((0 : Nat) : Int) = 0 from rfl, HS0.out]; exact hown3, hbl3⟩
      case round =>
        obtain ⟨c2, br2, or2, cr2, rs2, rfl, hI4, hbr2, hr2, hc9, hcv, hown4, hbl4⟩ := hrel
        have hrc := canon_digs gk
        rw [← hr2.out] at hrc
        have hyc := canon_digs B
        rw [← HB.out] at hyc
        have hvr2 : val rs2 = gk := by rw [hr2.out]; exact val_digs gk
        have hvy : val ys = B := by rw [HB.out]; exact val_digs B
        have hr2l : rs2.length ≤ ys.length + 1 := by
          have hlt : (gk : Int) < 10 * B := by
            have h1 := hcv.out
            have h2 : (0 : Int) ≤ c2 * B := Int.mul_nonneg (by omega) (by omega)
            omega
          rw [hr2.out]
          refine digs_len ?_
          have h1 := digs_lt B
          rw [← HB.out] at h1
          rw [p10]; omega
        have hIy := hb0.below hbl4 hbl4.size
        have HVR := Lib.hid hvr2
        have HVY := Lib.hid hvy
        clear hvr2 hvy
        by_cases hge : B ≤ gk
        · have hpos : 0 ≤ ordZ (val rs2) (val ys) := by
            rw [HVR.out, HVY.out]; unfold ordZ; repeat' split <;> omega
          go_wp2_with fail
          refine (order_any _ _ rs2 ys wr hI4 hIy hrc hyc (by omega)).mono ?_
          rintro e w5 ⟨rfl, hb5⟩
          have hI5 := hI4.later hb5
          have hIy5 := hIy.later hb5
          have hlq := (hown4.lt w.heap.size rfl).2
          have hown5 := own_below hown4 hb5 (fun k hk => by simp [Value.ownBlock] at hk; omega)
          have hbl5 := hbl4.trans (hb5.mono hbl4.size)
          go_wp2_with fail
          refine (minus_any _ _ rs2 ys w5 hI5 hIy5 hrc.1 hyc.1 (by omega) (len_le hyc hrc.1 (by rw [HVR.out, HVY.out]; omega)) (by rw [HVR.out, HVY.out]; omega)).mono ?_
          rintro e w6 ⟨b6, o6, c6, zs6, rfl, hI6, hz6, hb6, hn6⟩
          have hown6 := own_below hown5 hb6 (fun k hk => by simp [Value.ownBlock] at hk; have := hb5.size; omega)
          have hbl6 := hbl5.trans (hb6.mono hbl5.size)
          have hzl : zs6.length ≤ 100000 := by have := hz6.out.2.2; omega
          go_wp2_with fail
          refine (trimmed_pos b6 o6 c6 zs6 w6 hI6 hz6.out.1 hzl).mono ?_
          rintro e w7 ⟨r7, rfl, hI7, hr7, hb7⟩
          have hown7 := own_below hown6 hb7 (fun k hk => by simp [Value.ownBlock] at hk; have := hb5.size; have := hb6.size; omega)
          have hbl7 := hbl6.trans (hb7.mono hbl6.size)
          have hil : i < (qs.set i c2).length := by rw [List.length_set, hqd.out.1]; omega
          have hcq : w7.cell? ⟨w.heap.size, i, none⟩ = some (.int .i64 c2) := by
            rw [hown7.cellAt i (by omega)]
            have h1 := getD_set_same (l := qs) (i := i) (d := (c2 : Int)) (by rw [hqd.out.1]; omega)
            simp [List.getD, hqd.out.1, show i < xs.length by omega] at h1 ⊢
          have hfq := hown7.frozenAt i
          have hcB : c2 + 1 ≤ 9 := by
            have := div_digit (B := B) (R := R) (R2 := gk) (c := c2) (by omega) (by omega) hdx0.2 hcv.out (by omega)
            omega
          clear hown4 hown5 hown6 hI4 hI5 hI6 hIy hIy5 hrc hyc
          go_wp2
          have hst := (hown7.stored i (.int .i64 ((c2 : Int) + 1))).1
          rw [← List.map_set, List.set_set] at hst
          go_roundg (gk - B)
          case measure => omega
          case rel =>
            refine ⟨c2 + 1, b6, o6, c6, r7, rfl, ?_, ?_, Lib.hid ?_, hcB, Lib.hid ?_, hst, hbl7.setCell (Nat.le_refl _) _⟩
            · have := hI7.set (g := w.heap.size) (j := i) (u := .int .i64 ((c2 : Int) + 1)) (by have := hb5.size; omega)
              simpa using this
            · have := hb5.size; omega
            · rw [hr7.out, hz6.out.2.1, HVR.out, HVY.out]; congr 1; omega
            · have h1 := hcv.out
              have h2 : (((c2 + 1 : Nat) : Int)) * B = c2 * B + B := by rw [Int.natCast_add, Int.add_mul]; omega
              omega
        · have hneg : ordZ (val rs2) (val ys) < 0 := by
            rw [HVR.out, HVY.out]; unfold ordZ; rw [if_pos (by omega)]; omega
          go_wp2_with fail
          refine (order_any _ _ rs2 ys wr hI4 hIy hrc hyc (by omega)).mono ?_
          rintro e w5 ⟨rfl, hb5⟩
          have hI5 := hI4.later hb5
          have hlq := (hown4.lt w.heap.size rfl).2
          have hown5 := own_below hown4 hb5 (fun k hk => by simp [Value.ownBlock] at hk; omega)
          have hbl5 := hbl4.trans (hb5.mono hbl4.size)
          clear hown4 hI4 hIy hrc hyc
          go_wp2
          go_roundw
          case rel =>
            refine ⟨i, gk, br2, or2, cr2, rs2, qs.set i c2, rfl, by omega, rfl, hI5, hbr2, hr2, by omega, hown5, Lib.hid ⟨?_, ?_, ?_, ?_⟩, hbl5⟩
            · rw [List.length_set]; exact hqd.out.1
            · exact hqd.out.2.1.set _ (by omega)
            · intro j hj
              rw [ArM.getD_set_ne (by omega)]
              exact hqd.out.2.2.1 j (by omega)
            · exact div_step (by omega) (by have := hqd.out.1; omega) (hqd.out.2.2.1 i (by omega)) hqd.out.2.2.2 (by rw [hcv.out, HX.out])
          case measure => simp [intOf]

end Go.Proofs.YtebejllehbpahaaGreatDoor

/- The reference's text of an integer. -/
namespace Go.Proofs.YtebejllehbpahaaGreatDoor
open Go.RowKit Go.Proofs.ArM

theorem Tryz.info5 : (Tryz.prog.info? 5).map (fun i => (i.zero, i.size, i.bytes)) = some (some (.int .u8 0), 1, 1) := by kernel_rfl

/-- bytes as cells -/
def u8s (l : List UInt8) : List Value := l.map fun b => Value.int .u8 (b.toNat : Int)

theorem u8s_append (a b : List UInt8) : u8s (a ++ b) = u8s a ++ u8s b := by simp [u8s]

theorem row_bytes {w : World} {base g cap n : Nat} {l : List UInt8} (h : w.ownsRow base 5 1 (.slice (some ⟨g, 0, none⟩) n cap) n (u8s l)) :
    l.length = n ∧ ∀ j (hj : j < l.length), w.cell? ((⟨g, 0, none⟩ : Addr).add j) = some (.int .u8 (l[j].toNat : Int)) := by
  have hl : l.length = n := by have := h.1; simpa [u8s] using this
  refine ⟨hl, fun j hj => ?_⟩
  have hadd : (⟨g, 0, none⟩ : Addr).add j = ⟨g, j, none⟩ := by unfold Addr.add; split <;> simp_all
  rw [hadd, h.cellAt j (by omega)]
  simp [u8s, hj]

set_option maxHeartbeats 1600000 in
set_option maxRecDepth 100000 in
theorem text_any (neg : Bool) (b o c : Nat) (ds : List Int) (w : World) (ha : Ints w.heap.size w (.slice (some ⟨b, o, none⟩) ds.length c) ds) (hd : Dig ds) (hl : ds.length ≤ 100000) :
    Calls Tryz.prog 54 #[.agg #[.bool neg, .slice (some ⟨b, o, none⟩) ds.length c]] w (OutV w (.string ⟨(textOf neg ds).toArray⟩)) := by
  obtain ⟨i0, hi, hz0, hz1, hz2⟩ := info_parts Tryz.info5
  obtain ⟨hb, _, _, _, hcx⟩ := ha.cell
  rcases Nat.eq_zero_or_pos ds.length with h0 | h0
  · obtain rfl : ds = [] := List.eq_nil_of_length_eq_zero h0
    simp only [List.length_nil]
    cases neg
    all_goals
      go_enter Tryz.func54, Tryz.ntmps54
      go_wp2
      go_ret
      exact ⟨rfl, (Below.refl _ _).alloc (Nat.le_refl _) _⟩
  · have hne : ds ≠ [] := by intro e; rw [e] at h0; simp at h0
    have hconv : ∀ (wr : World) (g cap : Nat) (l : List UInt8), wr.ownsRow (w.heap.size + 1) 5 1 (.slice (some ⟨g, 0, none⟩) l.length cap) l.length (u8s l) →
        (convert 79 9 (.slice (some ⟨g, 0, none⟩) l.length cap)).run Tryz.prog wr = .ok (.string ⟨l.toArray⟩) wr := fun wr g cap l h =>
      run_convert_bytes_back wr 79 9 5 ⟨g, 0, none⟩ cap l Tryz.underlying79 Tryz.underlying5 Tryz.underlying9 (row_bytes h).2
    have HC := Lib.hid hconv
    have HN := Lib.hid hne
    clear hconv hne
    have hW0 : ∃ W0, W0 = w.alloc (.cells #[.bool neg, .slice (some ⟨b, o, none⟩) ds.length c] 54) ∧ Below w.heap.size w W0 ∧ W0.cell? ⟨w.heap.size, 1, none⟩ = some (.slice (some ⟨b, o, none⟩) ds.length c) :=
      ⟨_, rfl, (Below.refl _ _).alloc (Nat.le_refl _) _, by rw [World.cell?_alloc_at _ _ _ _ rfl]; rfl⟩
    obtain ⟨W0, hW0⟩ := hW0
    have hs0 : W0.heap.size = w.heap.size + 1 := by rw [hW0.1]; simp
    have HW0 := Lib.hid hW0
    have HS0 := Lib.hid hs0
    clear hW0 hs0
    cases neg
    · go_enter Tryz.func54, Tryz.ntmps54
      go_wp2_with fail
      rw [← HW0.out.1]
      rw [show w.heap.size + 1 = W0.heap.size from HS0.out.symm]
      go_loopw [3, 4] (fun v i wr => ∃ (k : Nat) (bs : List UInt8), i = .int .i64 ((k : Int) - 1) ∧ k ≤ ds.length ∧ wr.ownsRow (w.heap.size + 1) 5 1 v bs.length (u8s bs) ∧ Hid (bs = [] ++ (ds.drop k).reverse.map dch) ∧ bs.length ≤ 100002 - k ∧ Below (w.heap.size + 1) W0 wr ∧ Hid (v ≠ .slice none 0 0))
        (fun _ i _ => (intOf i + 1).toNat)
      case atStart => exact ⟨ds.length, [], rfl, Nat.le_refl _, World.ownsRow_made _ _ _ (by rw [HS0.out]; exact Nat.le_refl _) (by decide) rfl, Lib.hid (by rw [List.drop_length]; rfl), by simp, (Below.refl _ _).alloc (by rw [HS0.out]; exact Nat.le_refl _) _, Lib.hid (by simp)⟩
      case round =>
        obtain ⟨k, bs, rfl, hk, hown, hbs, hbl0, hbl, hnn⟩ := hrel
        have hsz : w.heap.size + 1 ≤ wr.heap.size := by have := hbl.size; have := HS0.out; omega
        have cbx := (hbl.cell (p := ⟨w.heap.size, 1, none⟩) (by simp)).trans HW0.out.2.2
        rcases Nat.eq_zero_or_pos k with rfl | hk0
        · have hsh : ∃ g cap, u3 = .slice (some ⟨g, 0, none⟩) bs.length cap := by
            rcases hown.2 with ⟨h, _⟩ | ⟨g, cap, _, h, _⟩
            · exact absurd h hnn.out
            · exact ⟨g, cap, h⟩
          obtain ⟨g, cap, rfl⟩ := hsh
          have hcv := HC.out wr g cap bs hown
          go_wp2
          go_ret
          refine ⟨?_, HW0.out.2.1.trans (hbl.mono (by omega))⟩
          rw [hbs.out]
          simp [textOf, HN.out]
        · obtain ⟨i, rfl⟩ : ∃ i, k = i + 1 := ⟨k - 1, by omega⟩
          have hj : ((i + 1 : Nat) : Int) - 1 = (i : Int) := by omega
          rw [hj]
          clear hj
          obtain ⟨dx, hdx⟩ : ∃ dx, dx = ds.getD i 0 := ⟨_, rfl⟩
          have hdx0 : 0 ≤ dx ∧ dx ≤ 9 := by rw [hdx]; exact hd.getD i
          have cx : wr.cell? ⟨b, o + i, none⟩ = some (.int .i64 dx) := by rw [hdx]; exact (hbl.cell (p := ⟨b, o + i, none⟩) (by simp; omega)).trans (((HW0.out.2.1).cell (p := ⟨b, o + i, none⟩) hb).trans (hcx i (by omega)))
          have HS := Lib.hid (drop_rev_succ ds i (by omega))
          have HX := Lib.hid hdx
          clear hdx
          go_wp2_with (at_builtin; refine wpList_append_own _ rfl (.tmp 23) (.tmp 31) 79 rfl (w.heap.size + 1) 5 i0 (.int .u8 0) 1 1 Tryz.underlying79 hi hz0 hz1 hz2 rfl (by decide) _ _ _ rfl (hown.alloc _) ⟨wr.heap.size, 0, none⟩ 1 1 [.int .u8 _] rfl rfl (cell_one_new _ _ _) (by intro u hu; simp at hu; subst hu; rfl) (by unfold maxLen; omega) (by omega) (by simp; omega) ?_; intro v1 w1 hown1 hgrow1 hnil; have HN1 := Lib.hid (show v1 ≠ .slice none 0 0 from fun h => absurd (hnil.1 h).2 (by decide)); clear hnil)
          have hB2 := (hbl.alloc hsz _).grown hgrow1 (by simp; omega) (fun j hj => (hown.lt j hj).1)
          go_roundw
          case rel =>
            refine ⟨i, bs ++ [dch dx], rfl, by omega, ?_, Lib.hid (by rw [hbs.out, HS.out, ← HX.out]; simp), by simp; omega, hB2, HN1⟩
            rw [u8s_append]
            have e : u8s [dch dx] = [.int .u8 (48 + dx)] := by simp [u8s, dch_toNat hdx0]
            rw [e]
            simpa using hown1
          case measure => simp [intOf]
    · have hm := World.ownsRow_made (base := w.heap.size + 1) (e := 5) (size := 1) (w.alloc (.cells #[.bool true, .slice (some ⟨b, o, none⟩) ds.length c] 54)) #[] 0 (by simp) (by decide) rfl
      have hn0 := cell_one_new ((w.alloc (.cells #[.bool true, .slice (some ⟨b, o, none⟩) ds.length c] 54)).alloc (.cells #[] 5)) (.int .u8 45) 5
      simp only [World.size_alloc] at hm hn0
      have HM := Lib.hid (hm.alloc (.cells #[.int .u8 45] 5))
      have HN0 := Lib.hid hn0
      clear hm hn0
      go_enter Tryz.func54, Tryz.ntmps54
      go_wp2_with (at_builtin; refine wpList_append_own _ rfl (.tmp 12) (.tmp 13) 79 rfl (w.heap.size + 1) 5 i0 (.int .u8 0) 1 1 Tryz.underlying79 hi hz0 hz1 hz2 rfl (by decide) (.slice (some ⟨w.heap.size + 1, 0, none⟩) 0 0) 0 [] rfl HM.out ⟨w.heap.size + 1 + 1, 0, none⟩ 1 1 [.int .u8 45] rfl rfl HN0.out (by intro u hu; simp at hu; subst hu; rfl) (by decide) (by decide) (by simp) ?_; intro v1 w1 hown0 hgrow0 hnil; have HN1 := Lib.hid (show v1 ≠ .slice none 0 0 from fun h => absurd (hnil.1 h).2 (by decide)); clear hnil; have hB0 : Below (w.heap.size + 1) W0 w1 := (by rw [HW0.out.1]; exact ((((Below.refl _ _).alloc (by simp) _).alloc (by simp) _).grown hgrow0 (by simp) (fun j hj => by simp [Value.ownBlock] at hj; omega))); have cb0 := (hB0.cell (p := ⟨w.heap.size, 1, none⟩) (by simp)).trans HW0.out.2.2)
      clear cb0
      go_loopw [3, 4] (fun v i wr => ∃ (k : Nat) (bs : List UInt8), i = .int .i64 ((k : Int) - 1) ∧ k ≤ ds.length ∧ wr.ownsRow (w.heap.size + 1) 5 1 v bs.length (u8s bs) ∧ Hid (bs = [45] ++ (ds.drop k).reverse.map dch) ∧ bs.length ≤ 100002 - k ∧ Below (w.heap.size + 1) W0 wr ∧ Hid (v ≠ .slice none 0 0))
        (fun _ i _ => (intOf i + 1).toNat)
      case atStart => exact ⟨ds.length, [45], rfl, Nat.le_refl _, by simpa [u8s] using hown0, Lib.hid (by rw [List.drop_length]; rfl), by simp; omega, hB0, HN1⟩
      case round =>
        obtain ⟨k, bs, rfl, hk, hown, hbs, hbl0, hbl, hnn⟩ := hrel
        have hsz : w.heap.size + 1 ≤ wr.heap.size := by have := hbl.size; have := HS0.out; omega
        have cbx := (hbl.cell (p := ⟨w.heap.size, 1, none⟩) (by simp)).trans HW0.out.2.2
        rcases Nat.eq_zero_or_pos k with rfl | hk0
        · have hsh : ∃ g cap, u3 = .slice (some ⟨g, 0, none⟩) bs.length cap := by
            rcases hown.2 with ⟨h, _⟩ | ⟨g, cap, _, h, _⟩
            · exact absurd h hnn.out
            · exact ⟨g, cap, h⟩
          obtain ⟨g, cap, rfl⟩ := hsh
          have hcv := HC.out wr g cap bs hown
          go_wp2
          go_ret
          refine ⟨?_, HW0.out.2.1.trans (hbl.mono (by omega))⟩
          rw [hbs.out]
          simp [textOf, HN.out]
        · obtain ⟨i, rfl⟩ : ∃ i, k = i + 1 := ⟨k - 1, by omega⟩
          have hj : ((i + 1 : Nat) : Int) - 1 = (i : Int) := by omega
          rw [hj]
          clear hj
          obtain ⟨dx, hdx⟩ : ∃ dx, dx = ds.getD i 0 := ⟨_, rfl⟩
          have hdx0 : 0 ≤ dx ∧ dx ≤ 9 := by rw [hdx]; exact hd.getD i
          have cx : wr.cell? ⟨b, o + i, none⟩ = some (.int .i64 dx) := by rw [hdx]; exact (hbl.cell (p := ⟨b, o + i, none⟩) (by simp; omega)).trans (((HW0.out.2.1).cell (p := ⟨b, o + i, none⟩) hb).trans (hcx i (by omega)))
          have HS := Lib.hid (drop_rev_succ ds i (by omega))
          have HX := Lib.hid hdx
          clear hdx
          go_wp2_with (at_builtin; refine wpList_append_own _ rfl (.tmp 23) (.tmp 31) 79 rfl (w.heap.size + 1) 5 i0 (.int .u8 0) 1 1 Tryz.underlying79 hi hz0 hz1 hz2 rfl (by decide) _ _ _ rfl (hown.alloc _) ⟨wr.heap.size, 0, none⟩ 1 1 [.int .u8 _] rfl rfl (cell_one_new _ _ _) (by intro u hu; simp at hu; subst hu; rfl) (by unfold maxLen; omega) (by omega) (by simp; omega) ?_; intro v1 w1 hown1 hgrow1 hnil; have HN1 := Lib.hid (show v1 ≠ .slice none 0 0 from fun h => absurd (hnil.1 h).2 (by decide)); clear hnil)
          have hB2 := (hbl.alloc hsz _).grown hgrow1 (by simp; omega) (fun j hj => (hown.lt j hj).1)
          go_roundw
          case rel =>
            refine ⟨i, bs ++ [dch dx], rfl, by omega, ?_, Lib.hid (by rw [hbs.out, HS.out, ← HX.out]; simp), by simp; omega, hB2, HN1⟩
            rw [u8s_append]
            have e : u8s [dch dx] = [.int .u8 (48 + dx)] := by simp [u8s, dch_toNat hdx0]
            rw [e]
            simpa using hown1
          case measure => simp [intOf]

end Go.Proofs.YtebejllehbpahaaGreatDoor
