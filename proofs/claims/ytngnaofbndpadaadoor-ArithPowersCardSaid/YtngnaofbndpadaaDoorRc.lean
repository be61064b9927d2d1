/- The reference: its functions. -/
import Derived.Test.YtngnaofbndpadaaDoorRa
import Derived.Test.YtngnaofbndpadaaDoorRb
import Derived.Test.YtngnaofbndpadaaDoorPc
import Derived.Deep.RegionLaw
import Derived.Deep.AppendLies
import Derived.Test.YtngnaofbndpadaaDoorPf
import Derived.Deep.RegionHeld3
import Derived.Deep.LoopGhost
/- The reference's power of an absolute value. -/
namespace Go.Proofs.YtngnaofbndpadaaDoor
open Go.RowKit Go.Proofs.ArM

/-- a power, or word that it is too large -/
def OutP (w : World) (A n : Nat) (e : Ending) (w' : World) : Prop :=
  (∃ b o c ds, e = .returned (.tuple #[.slice (some ⟨b, o, none⟩) ds.length c, .bool true]) ∧ Ints w'.heap.size w' (.slice (some ⟨b, o, none⟩) ds.length c) ds ∧ Hid (ds = digs (A ^ n)) ∧ Hid (ds.length ≤ 500) ∧ Below w.heap.size w w') ∨
  (e = .returned (.tuple #[.slice none 0 0, .bool false]) ∧ Hid (500 < (digs (A ^ n)).length) ∧ Below w.heap.size w w')

theorem digs_mono {m n : Nat} (h : m ≤ n) : (digs m).length ≤ (digs n).length := by
  apply digs_len
  have := digs_lt n
  omega

theorem digs_one : digs 1 = [1] := by rw [digs_pos (by omega)]; simp [digs_zero]

set_option maxHeartbeats 1600000 in
set_option maxRecDepth 100000 in
theorem power_any (b o c : Nat) (xs : List Int) (A n : Nat) (w : World) (ha : Ints w.heap.size w (.slice (some ⟨b, o, none⟩) xs.length c) xs) (hx : xs = digs A) (hlx : xs.length ≤ 500) (hn : n ≤ 9223372036854775807) :
    Calls Tryd.prog 54 #[.slice (some ⟨b, o, none⟩) xs.length c, .int .i64 n] w (OutP w A n) := by
  obtain ⟨hb, _, _, _, hcx⟩ := ha.cell
  have HX := Lib.hid hx
  clear hx
  have hone : ∀ W : World, Ints (W.alloc (.cells #[.int .i64 1] 3)).heap.size (W.alloc (.cells #[.int .i64 1] 3)) (.slice (some ⟨W.heap.size, 0, none⟩) ([1] : List Int).length 1) [1] := fun W =>
    ints_of_row (base := W.heap.size) (World.ownsRow_lit W #[.int .i64 1] 1 (Nat.le_refl _) (by decide) rfl)
  have HO := Lib.hid hone
  clear hone
  rcases Nat.eq_zero_or_pos xs.length with h0 | h0
  · obtain rfl : xs = [] := List.eq_nil_of_length_eq_zero h0
    simp only [List.length_nil]
    have hA : A = 0 := by
      have h1 := digs_lt A
      rw [← HX.out] at h1
      simp [p10] at h1; omega
    subst hA
    by_cases hn0 : 0 < n
    · have hz := Lib.hid (show ([] : List Int) = digs (0 ^ n) from by rw [Nat.zero_pow hn0, digs_zero])
      go_enter Tryd.func54, Tryd.ntmps54
      go_wp2
      go_ret2
      refine .inl ⟨_, 0, 0, [], rfl, ⟨_, 0, 0, rfl, Nat.le_refl _, by unfold maxLen; omega, ?_, fun j hj => by simp at hj⟩, hz, Lib.hid (by simp), ((Below.refl _ _).alloc (Nat.le_refl _) _).alloc (by simp) _⟩
      simp
    · obtain rfl : n = 0 := by omega
      have h1 := HO.out w
      have HO1 := Lib.hid h1
      clear h1
      go_enter Tryd.func54, Tryd.ntmps54
      go_wp2_with fail
      refine wp_loop_rounds 1 ?_
      rw [rounds_succ]
      go_wp2
      go_ret2
      exact .inl ⟨_, 0, 1, [1], rfl, HO1.out, Lib.hid digs_one.symm, Lib.hid (by simp), (Below.refl _ _).alloc (Nat.le_refl _) _⟩
  · obtain ⟨d0, hd0⟩ : ∃ d0, d0 = xs.getD 0 0 := ⟨_, rfl⟩
    have c0 : w.cell? ⟨b, o, none⟩ = some (.int .i64 d0) := by rw [hd0]; exact hcx 0 h0
    have hA : A ≠ 0 := by
      intro e; subst e
      have := HX.out
      rw [digs_zero] at this
      rw [this] at h0; simp at h0
    have HD0 := Lib.hid (show d0 = ((A % 10 : Nat) : Int) from by rw [hd0, HX.out, digs_pos hA]; rfl)
    have hlen1 := Lib.hid (show xs.length = 1 ↔ A < 10 from by
      rw [HX.out]
      constructor
      · intro h
        have := digs_lt A
        rw [h] at this
        simp [p10] at this; omega
      · intro h
        have h1 := digs_len (n := A) (k := 1) (by simp [p10]; omega)
        rw [← HX.out] at h1 ⊢
        omega)
    clear hd0
    have c0' : ∀ W, Below w.heap.size w W → W.cell? ⟨b, o, none⟩ = some (.int .i64 d0) := fun W h => (h.cell (p := ⟨b, o, none⟩) hb).trans c0
    have C0 := Lib.hid c0'
    clear c0 c0'
    by_cases hA1 : A = 1
    · have hl1 : xs.length = 1 := hlen1.out.2 (by omega)
      have hd1 : d0 = 1 := by rw [HD0.out, hA1]; rfl
      have HO1 := Lib.hid (HO.out w)
      have cw := C0.out _ ((Below.refl w.heap.size w).alloc (Nat.le_refl _) (.cells #[.int .i64 1] 3))
      subst hd1
      obtain ⟨x0, rfl⟩ : ∃ x0, xs = [x0] := by
        match xs, hl1 with
        | [x0], _ => exact ⟨x0, rfl⟩
      clear hl1 ha hcx
      simp only [List.length_cons, List.length_nil, Nat.zero_add]
      go_enter Tryd.func54, Tryd.ntmps54
      go_wp2
      go_ret2
      exact .inl ⟨_, 0, 1, [1], rfl, HO1.out, Lib.hid (by rw [Nat.one_pow, digs_one]), Lib.hid (by simp), (Below.refl _ _).alloc (Nat.le_refl _) _⟩
    · have cw := C0.out _ ((Below.refl w.heap.size w).alloc (Nat.le_refl _) (.cells #[.int .i64 1] 3))
      have hne : ¬ xs = [] := by intro e; rw [e] at h0; simp at h0
      by_cases h10 : A < 10
      · have hd1 : (d0 == 1) = false := by rw [beq_eq_false_iff_ne, HD0.out]; omega
        have hl1 : xs.length = 1 := hlen1.out.2 h10
        have HL1 := Lib.hid hl1
        have hl2 : ((xs.length : Int) == 1) = true := by rw [hl1]; rfl
        clear hl1
        have hl3 : 0 < xs.length := h0
        go_enter Tryd.func54, Tryd.ntmps54
        go_wp2_with fail
        go_loopw [6, 7] (fun v i wr => ∃ (k g og cg : Nat) (zs : List Int), i = .int .i64 k ∧ k ≤ n ∧ v = .slice (some ⟨g, og, none⟩) zs.length cg ∧ Ints wr.heap.size wr (.slice (some ⟨g, og, none⟩) zs.length cg) zs ∧ Hid (zs = digs (A ^ k)) ∧ zs.length ≤ 500 ∧ Below w.heap.size w wr)
          (fun _ i _ => n - (intOf i).toNat)
        case atStart => exact ⟨0, w.heap.size, 0, 1, [1], rfl, Nat.zero_le _, rfl, HO.out w, Lib.hid digs_one.symm, by simp, (Below.refl _ _).alloc (Nat.le_refl _) _⟩
        case round =>
          obtain ⟨k, g, og, cg, zs, rfl, hk, rfl, hI, hzs, hzl, hbl⟩ := hrel
          by_cases hkn : k < n
          · have hIa := ha.below hbl hbl.size
            go_wp2_with fail
            refine (times_any _ _ zs xs wr hI hIa (by rw [hzs.out]; exact (canon_digs _).1) (by rw [HX.out]; exact (canon_digs _).1) (by omega) (by omega)).mono ?_
            rintro e w2 ⟨b2, o2, c2, z2, rfl, hI2, hz2, hb2, _⟩
            have hz3 := Lib.hid (show z2 = digs (A ^ (k + 1)) from by
              rw [hz2.out, hzs.out, HX.out, val_digs, val_digs]
              have h2 : (((A ^ k : Nat) : Int) * (A : Int)) = ((A ^ (k + 1) : Nat) : Int) := by
                rw [Nat.pow_succ]; exact (Int.natCast_mul _ _).symm
              rw [h2, Int.toNat_natCast])
            have hbl2 := hbl.trans (hb2.mono hbl.size)
            clear hIa hI
            by_cases hbig : 500 < z2.length
            · go_wp2
              go_ret2
              refine .inr ⟨rfl, Lib.hid ?_, hbl2⟩
              rw [hz3.out] at hbig
              exact Nat.lt_of_lt_of_le hbig (digs_mono (Nat.pow_le_pow_right (by omega) hkn))
            · go_wp2
              go_roundw
              case rel => exact ⟨k + 1, b2, o2, c2, z2, by go_num, by omega, rfl, hI2, hz3, by omega, hbl2⟩
              case measure => simp [intOf]; omega
          · have hkn2 : k = n := by omega
            have HK := Lib.hid hkn2
            clear hkn2
            go_wp2
            go_ret2
            exact .inl ⟨g, og, cg, zs, rfl, hI, Lib.hid (by rw [hzs.out, HK.out]), Lib.hid hzl, hbl⟩
      · have hl1 : ¬ xs.length = 1 := fun e => h10 (hlen1.out.1 e)
        have hl2 : ((xs.length : Int) == 1) = false := by rw [beq_eq_false_iff_ne]; omega
        go_enter Tryd.func54, Tryd.ntmps54
        go_wp2_with fail
        go_loopw [6, 7] (fun v i wr => ∃ (k g og cg : Nat) (zs : List Int), i = .int .i64 k ∧ k ≤ n ∧ v = .slice (some ⟨g, og, none⟩) zs.length cg ∧ Ints wr.heap.size wr (.slice (some ⟨g, og, none⟩) zs.length cg) zs ∧ Hid (zs = digs (A ^ k)) ∧ zs.length ≤ 500 ∧ Below w.heap.size w wr)
          (fun _ i _ => n - (intOf i).toNat)
        case atStart => exact ⟨0, w.heap.size, 0, 1, [1], rfl, Nat.zero_le _, rfl, HO.out w, Lib.hid digs_one.symm, by simp, (Below.refl _ _).alloc (Nat.le_refl _) _⟩
        case round =>
          obtain ⟨k, g, og, cg, zs, rfl, hk, rfl, hI, hzs, hzl, hbl⟩ := hrel
          by_cases hkn : k < n
          · have hIa := ha.below hbl hbl.size
            go_wp2_with fail
            refine (times_any _ _ zs xs wr hI hIa (by rw [hzs.out]; exact (canon_digs _).1) (by rw [HX.out]; exact (canon_digs _).1) (by omega) (by omega)).mono ?_
            rintro e w2 ⟨b2, o2, c2, z2, rfl, hI2, hz2, hb2, _⟩
            have hz3 := Lib.hid (show z2 = digs (A ^ (k + 1)) from by
              rw [hz2.out, hzs.out, HX.out, val_digs, val_digs]
              have h2 : (((A ^ k : Nat) : Int) * (A : Int)) = ((A ^ (k + 1) : Nat) : Int) := by
                rw [Nat.pow_succ]; exact (Int.natCast_mul _ _).symm
              rw [h2, Int.toNat_natCast])
            have hbl2 := hbl.trans (hb2.mono hbl.size)
            clear hIa hI
            by_cases hbig : 500 < z2.length
            · go_wp2
              go_ret2
              refine .inr ⟨rfl, Lib.hid ?_, hbl2⟩
              rw [hz3.out] at hbig
              exact Nat.lt_of_lt_of_le hbig (digs_mono (Nat.pow_le_pow_right (by omega) hkn))
            · go_wp2
              go_roundw
              case rel => exact ⟨k + 1, b2, o2, c2, z2, by go_num, by omega, rfl, hI2, hz3, by omega, hbl2⟩
              case measure => simp [intOf]; omega
          · have hkn2 : k = n := by omega
            have HK := Lib.hid hkn2
            clear hkn2
            go_wp2
            go_ret2
            exact .inl ⟨g, og, cg, zs, rfl, hI, Lib.hid (by rw [hzs.out, HK.out]), Lib.hid hzl, hbl⟩

end Go.Proofs.YtngnaofbndpadaaDoor

/- The reference's integer of a text. -/
namespace Go.Proofs.YtngnaofbndpadaaDoor
open Go.RowKit Go.Proofs.ArM

set_option maxHeartbeats 3200000 in
set_option maxRecDepth 100000 in
theorem of_any (s : ByteArray) (w : World) (hv : validB s.data.toList = true) :
    Calls Tryd.prog 41 #[.string s] w (OutZ w (numOf s.data.toList)) := by
  obtain ⟨i0, hi, hz0, hz1, hz2⟩ := info_parts Tryd.info3
  have hV := Lib.hid hv
  clear hv
  have h0 : 0 < s.size := by
    apply Nat.pos_of_ne_zero
    intro e
    have : s.data.toList = [] := List.eq_nil_of_length_eq_zero (by rw [Array.length_toList]; exact e)
    have h := hV.out
    rw [this] at h
    exact absurd h (by decide)
  obtain ⟨c0, hc0⟩ : ∃ c0, c0 = s[0].toNat := ⟨_, rfl⟩
  have HH := Lib.hid (show (s.data.toList.headD 0).toNat = c0 from by rw [head_data h0, hc0])
  by_cases h45 : c0 = 45
  · have e45 : ((s[0].toNat : Int) == 45) = true := by rw [← hc0, h45]; rfl
    have hcore : coreB (s.extract 1 s.size).data.toList = true := by
      have h := hV.out
      rw [validB, HH.out, if_pos h45, Bool.and_eq_true] at h
      rw [Lib.extract_to_end]; simpa using h.2
    have hparts := coreB_parts hcore
    have hdig : ∀ j, ∀ h : j < (s.extract 1 s.size).data.toList.length, 0 ≤ dv ((s.extract 1 s.size).data.toList[j]) ∧ dv ((s.extract 1 s.size).data.toList[j]) ≤ 9 := fun j h => dv_dig (hparts.2.2.2 _ (List.getElem_mem h))
    have HSZ := Lib.hid (show s.size - 1 = (s.extract 1 s.size).data.toList.length from by simp)
    have hsz5 : s.size - 1 ≤ 500 := by have h1 := HSZ.out; have h2 := hparts.2.1; omega
    have hsz1 : 1 ≤ s.size - 1 := by have h1 := HSZ.out; have h2 := hparts.1; omega
    have HDG := Lib.hid hdig
    have HP := Lib.hid hparts
    have h45n := Lib.hid h45
    clear hdig hcore hparts hc0 h45
    go_enter Tryd.func41, Tryd.ntmps41
    go_wp2_with fail
    go_loopw [4] (fun i wr => ∃ (k : Nat) (v : Value) (zs : List Int), i = .int .i64 ((k : Int) - 1) ∧ k ≤ s.size - 1 ∧ Hid (wr.heap[w.heap.size]? = some (.cells #[.bool false, .slice none 0 0] 59 (0, 0))) ∧ Hid (wr.heap[w.heap.size + 1]? = some (.cells #[.bool true, v] 59 (0, 0))) ∧
        wr.ownsRow (w.heap.size + 2) 3 1 v zs.length (zs.map (Value.int .i64)) ∧ Hid (zs = ((s.extract 1 s.size).data.toList.drop k).reverse.map dv) ∧ Hid (zs.length = s.size - 1 - k) ∧ Below w.heap.size w wr)
      (fun i _ => (intOf i + 1).toNat)
    case atStart =>
      refine ⟨s.size - 1, .slice none 0 0, [], by go_num, Nat.le_refl _, Lib.hid ?_, Lib.hid ?_, World.ownsRow_nil _ _ _ _, Lib.hid (by rw [List.drop_eq_nil_of_le (by have := HSZ.out; omega)]; rfl), Lib.hid (by simp), ((Below.refl _ _).alloc (Nat.le_refl _) _).alloc (by simp) _⟩
      · exact (Below.heap_alloc _ _ _ (by simp)).trans (heap_alloc_new w _)
      · have := heap_alloc_new (w.alloc (.cells #[.bool false, .slice none 0 0] 59)) (.cells #[.bool true, .slice none 0 0] 59)
        simpa using this
    case round =>
      obtain ⟨k, v, zs, rfl, hk, hR, hX, hown, hzs, hzl, hbl⟩ := hrel
      have hlt1 : w.heap.size + 1 < wr.heap.size := (Array.getElem?_eq_some_iff.1 hX.out).1
      obtain ⟨x0, x1, x2, x3⟩ := cells2 hX.out
      rcases Nat.eq_zero_or_pos k with rfl | hk0
      · obtain ⟨r0, r1, r2, r3⟩ := cells2 hR.out
        have hzn : 0 < zs.length := by have := hzl.out; omega
        obtain ⟨g, cap, rfl, hg⟩ := own_shape hown hzn
        have hI := ints_of_row hown
        have hzd : Dig zs := by rw [hzs.out, List.drop_zero]; exact dig_digsOf HP.out.2.2.2
        have hz5 : zs.length ≤ 500 := by have := hzl.out; omega
        go_wp2_with (go_at_call 43; refine (trimmed_any true g 0 cap zs wr hI hzd (by omega)).mono ?_; rintro e wy ⟨ds, rfl, hI3, hd3, hb3⟩; have y0 := (hb3.cell (p := ⟨w.heap.size, 0, none⟩) (by simp; omega)).trans r0; have y1 := (hb3.cell (p := ⟨w.heap.size, 1, none⟩) (by simp; omega)).trans r1; have y2 := (hb3.frozen (p := ⟨w.heap.size, 0, none⟩) (by simp; omega)).trans r2; have y3 := (hb3.frozen (p := ⟨w.heap.size, 1, none⟩) (by simp; omega)).trans r3)
        have y0 := (hb3.cell (p := ⟨w.heap.size, 0, none⟩) (by simp; omega)).trans r0
        have y1 := (hb3.cell (p := ⟨w.heap.size, 1, none⟩) (by simp; omega)).trans r1
        have q0 := fun u => (res_q y0 y1 u u).1
        have q1 := fun u v => (res_q y0 y1 u v).2
        refine bodyPost_ret (v := .agg #[.bool _, .slice (some ⟨g, 0, none⟩) ds.length cap]) (by simp [results, Tryd.results41, go_sem, q0, q1]; rfl) rfl ?_
        have hnum : numOf s.data.toList = -val zs := by
          rw [hzs.out, List.drop_zero]; rw [numOf, HH.out, if_pos h45n.out, Lib.extract_to_end]; simp [digsOf]
        exact res_end hI3 (by omega) hd3.out (by first | (rw [hnum]; done) | (rw [hnum]; simp)) (by first | (rw [hnum]; done) | (rw [hnum]; simp)) (hbl.trans (hb3.mono hbl.size)) (Nat.le_refl _)
      · obtain ⟨i, rfl⟩ : ∃ i, k = i + 1 := ⟨k - 1, by omega⟩
        have hj : ((i + 1 : Nat) : Int) - 1 = (i : Int) := by omega
        rw [hj]
        clear hj
        have hiT : i < (s.extract 1 s.size).size := by have := HSZ.out; simp at this ⊢; omega
        obtain ⟨d, hd⟩ : ∃ d : Int, d = ((s.extract 1 s.size)[i].toNat : Int) - 48 := ⟨_, rfl⟩
        have hd0 := HDG.out i (by simpa using hiT)
        have hd1 : 48 ≤ ((s.extract 1 s.size)[i].toNat : Int) ∧ ((s.extract 1 s.size)[i].toNat : Int) ≤ 57 := by
          have e : dv ((s.extract 1 s.size).data.toList[i]'(by simpa using hiT)) = ((s.extract 1 s.size)[i].toNat : Int) - 48 := rfl
          omega
        have hz500 : zs.length ≤ 500 := by have := hzl.out; omega
        have hiS : i < s.size - 1 := by omega
        have hw1 : IntKind.u8.wrap (((s.extract 1 s.size)[i].toNat : Int) - 48) = ((s.extract 1 s.size)[i].toNat : Int) - 48 := IntWalk.u8_in _ (by omega)
        have hw2 : IntKind.i64.wrap (((s.extract 1 s.size)[i].toNat : Int) - 48) = ((s.extract 1 s.size)[i].toNat : Int) - 48 := IntWalk.i64_in _ (by omega)
        go_wp2_with fail
        go_region_law ((refine step_append_lies _ (by rfl) _ _ _ (by rfl) (w.heap.size + 2) 3 i0 _ 1 8 Tryd.underlying41 hi hz0 hz1 hz2 rfl (by omega) v zs.length (zs.map (Value.int .i64)) (by rfl) ((hown.alloc _).drew) ⟨wr.heap.size, 0, none⟩ 1 1 [.int .i64 _] (by rfl) (by rfl) (World.news_of_block (cs := #[.int .i64 _]) (t := 3) (fr := (0, 0)) (heap_alloc_new wr _)) (by simp [Value.oneCell']) (by omega) (by unfold maxLen; omega) (by omega) (by simp; omega) (wr.heap.size + 1) (by simp) ?_; intro gg cap w1 hown1 hgrow hat hlt; have hX1 := (hgrow.block (w.heap.size + 1) (by simp; omega) (fun h => by have := (hown.lt _ h.symm).1; omega)).trans ((Below.heap_alloc wr _ _ hlt1).trans hX.out); obtain ⟨z0, z1, z2, z3⟩ := cells2 hX1))
        all_goals
          have hgl := hown1.lt gg rfl
          have hR1 := (hgrow.block w.heap.size (by simp; omega) (fun h => by have := (hown.lt _ h.symm).1; omega)).trans ((Below.heap_alloc wr _ _ (by omega)).trans hR.out)
          have hb1 := (hbl.alloc hbl.size (.cells #[.int .i64 (((s.extract 1 s.size)[i].toNat : Int) - 48)] 3)).drew.grown hgrow (by have := hbl.size; simp; omega) (fun j hj => by have := (hown.lt j hj).1; omega)
          go_wp2
          go_roundw
          case rel =>
            refine ⟨i, .slice (some ⟨gg, 0, none⟩) (zs.length + 1) cap, zs ++ [((s.extract 1 s.size)[i].toNat : Int) - 48], rfl, by omega, Lib.hid (set2o hR1 (by omega)), Lib.hid (set2 hX1), ?_, Lib.hid ?_, Lib.hid (by rw [List.length_append, hzl.out]; simp; omega), hb1.setCell (by simp) _⟩
            · have h1 := ownsRow_setCell_below hown1 (a := ⟨w.heap.size + 1, 1, none⟩) (by simp) (.slice (some ⟨gg, 0, none⟩) (zs.length + 1) cap)
              simpa using h1
            · have e : (s.extract 1 s.size).data.toList.drop i = (s.extract 1 s.size).data.toList[i]'(by simpa using hiT) :: (s.extract 1 s.size).data.toList.drop (i + 1) := List.drop_eq_getElem_cons (by simpa using hiT)
              rw [hzs.out, e, List.reverse_cons, List.map_append]
              rfl
          case measure => simp [intOf]
  · have e45 : ((s[0].toNat : Int) == 45) = false := by rw [← hc0]; simp; omega
    have hcore : coreB (s).data.toList = true := by
      have h := hV.out
      rwa [validB, HH.out, if_neg h45] at h
    have hparts := coreB_parts hcore
    have hdig : ∀ j, ∀ h : j < (s).data.toList.length, 0 ≤ dv ((s).data.toList[j]) ∧ dv ((s).data.toList[j]) ≤ 9 := fun j h => dv_dig (hparts.2.2.2 _ (List.getElem_mem h))
    have HSZ := Lib.hid (show s.size = (s).data.toList.length from by simp)
    have hsz5 : s.size ≤ 500 := by have h1 := HSZ.out; have h2 := hparts.2.1; omega
    have hsz1 : 1 ≤ s.size := by have h1 := HSZ.out; have h2 := hparts.1; omega
    have HDG := Lib.hid hdig
    have HP := Lib.hid hparts
    have h45n := Lib.hid h45
    clear hdig hcore hparts hc0 h45
    go_enter Tryd.func41, Tryd.ntmps41
    go_wp2_with fail
    go_loopw [4] (fun i wr => ∃ (k : Nat) (v : Value) (zs : List Int), i = .int .i64 ((k : Int) - 1) ∧ k ≤ s.size ∧ Hid (wr.heap[w.heap.size]? = some (.cells #[.bool false, .slice none 0 0] 59 (0, 0))) ∧ Hid (wr.heap[w.heap.size + 1]? = some (.cells #[.bool false, v] 59 (0, 0))) ∧
        wr.ownsRow (w.heap.size + 2) 3 1 v zs.length (zs.map (Value.int .i64)) ∧ Hid (zs = ((s).data.toList.drop k).reverse.map dv) ∧ Hid (zs.length = s.size - k) ∧ Below w.heap.size w wr)
      (fun i _ => (intOf i + 1).toNat)
    case atStart =>
      refine ⟨s.size, .slice none 0 0, [], by go_num, Nat.le_refl _, Lib.hid ?_, Lib.hid ?_, World.ownsRow_nil _ _ _ _, Lib.hid (by rw [List.drop_eq_nil_of_le (by have := HSZ.out; omega)]; rfl), Lib.hid (by simp), ((Below.refl _ _).alloc (Nat.le_refl _) _).alloc (by simp) _⟩
      · exact (Below.heap_alloc _ _ _ (by simp)).trans (heap_alloc_new w _)
      · have := heap_alloc_new (w.alloc (.cells #[.bool false, .slice none 0 0] 59)) (.cells #[.bool false, .slice none 0 0] 59)
        simpa using this
    case round =>
      obtain ⟨k, v, zs, rfl, hk, hR, hX, hown, hzs, hzl, hbl⟩ := hrel
      have hlt1 : w.heap.size + 1 < wr.heap.size := (Array.getElem?_eq_some_iff.1 hX.out).1
      obtain ⟨x0, x1, x2, x3⟩ := cells2 hX.out
      rcases Nat.eq_zero_or_pos k with rfl | hk0
      · obtain ⟨r0, r1, r2, r3⟩ := cells2 hR.out
        have hzn : 0 < zs.length := by have := hzl.out; omega
        obtain ⟨g, cap, rfl, hg⟩ := own_shape hown hzn
        have hI := ints_of_row hown
        have hzd : Dig zs := by rw [hzs.out, List.drop_zero]; exact dig_digsOf HP.out.2.2.2
        have hz5 : zs.length ≤ 500 := by have := hzl.out; omega
        go_wp2_with (go_at_call 43; refine (trimmed_any false g 0 cap zs wr hI hzd (by omega)).mono ?_; rintro e wy ⟨ds, rfl, hI3, hd3, hb3⟩; have y0 := (hb3.cell (p := ⟨w.heap.size, 0, none⟩) (by simp; omega)).trans r0; have y1 := (hb3.cell (p := ⟨w.heap.size, 1, none⟩) (by simp; omega)).trans r1; have y2 := (hb3.frozen (p := ⟨w.heap.size, 0, none⟩) (by simp; omega)).trans r2; have y3 := (hb3.frozen (p := ⟨w.heap.size, 1, none⟩) (by simp; omega)).trans r3)
        have y0 := (hb3.cell (p := ⟨w.heap.size, 0, none⟩) (by simp; omega)).trans r0
        have y1 := (hb3.cell (p := ⟨w.heap.size, 1, none⟩) (by simp; omega)).trans r1
        have q0 := fun u => (res_q y0 y1 u u).1
        have q1 := fun u v => (res_q y0 y1 u v).2
        refine bodyPost_ret (v := .agg #[.bool _, .slice (some ⟨g, 0, none⟩) ds.length cap]) (by simp [results, Tryd.results41, go_sem, q0, q1]; rfl) rfl ?_
        have hnum : numOf s.data.toList = val zs := by
          rw [hzs.out, List.drop_zero]; rw [numOf, HH.out, if_neg h45n.out]; rfl
        exact res_end hI3 (by omega) hd3.out (by first | (rw [hnum]; done) | (rw [hnum]; simp)) (by first | (rw [hnum]; done) | (rw [hnum]; simp)) (hbl.trans (hb3.mono hbl.size)) (Nat.le_refl _)
      · obtain ⟨i, rfl⟩ : ∃ i, k = i + 1 := ⟨k - 1, by omega⟩
        have hj : ((i + 1 : Nat) : Int) - 1 = (i : Int) := by omega
        rw [hj]
        clear hj
        have hiT : i < (s).size := by have := HSZ.out; simp at this ⊢; omega
        obtain ⟨d, hd⟩ : ∃ d : Int, d = ((s)[i].toNat : Int) - 48 := ⟨_, rfl⟩
        have hd0 := HDG.out i (by simpa using hiT)
        have hd1 : 48 ≤ ((s)[i].toNat : Int) ∧ ((s)[i].toNat : Int) ≤ 57 := by
          have e : dv ((s).data.toList[i]'(by simpa using hiT)) = ((s)[i].toNat : Int) - 48 := rfl
          omega
        have hz500 : zs.length ≤ 500 := by have := hzl.out; omega
        have hiS : i < s.size := by omega
        have hw1 : IntKind.u8.wrap (((s)[i].toNat : Int) - 48) = ((s)[i].toNat : Int) - 48 := IntWalk.u8_in _ (by omega)
        have hw2 : IntKind.i64.wrap (((s)[i].toNat : Int) - 48) = ((s)[i].toNat : Int) - 48 := IntWalk.i64_in _ (by omega)
        go_wp2_with fail
        go_region_law ((refine step_append_lies _ (by rfl) _ _ _ (by rfl) (w.heap.size + 2) 3 i0 _ 1 8 Tryd.underlying41 hi hz0 hz1 hz2 rfl (by omega) v zs.length (zs.map (Value.int .i64)) (by rfl) ((hown.alloc _).drew) ⟨wr.heap.size, 0, none⟩ 1 1 [.int .i64 _] (by rfl) (by rfl) (World.news_of_block (cs := #[.int .i64 _]) (t := 3) (fr := (0, 0)) (heap_alloc_new wr _)) (by simp [Value.oneCell']) (by omega) (by unfold maxLen; omega) (by omega) (by simp; omega) (wr.heap.size + 1) (by simp) ?_; intro gg cap w1 hown1 hgrow hat hlt; have hX1 := (hgrow.block (w.heap.size + 1) (by simp; omega) (fun h => by have := (hown.lt _ h.symm).1; omega)).trans ((Below.heap_alloc wr _ _ hlt1).trans hX.out); obtain ⟨z0, z1, z2, z3⟩ := cells2 hX1))
        all_goals
          have hgl := hown1.lt gg rfl
          have hR1 := (hgrow.block w.heap.size (by simp; omega) (fun h => by have := (hown.lt _ h.symm).1; omega)).trans ((Below.heap_alloc wr _ _ (by omega)).trans hR.out)
          have hb1 := (hbl.alloc hbl.size (.cells #[.int .i64 (((s)[i].toNat : Int) - 48)] 3)).drew.grown hgrow (by have := hbl.size; simp; omega) (fun j hj => by have := (hown.lt j hj).1; omega)
          go_wp2
          go_roundw
          case rel =>
            refine ⟨i, .slice (some ⟨gg, 0, none⟩) (zs.length + 1) cap, zs ++ [((s)[i].toNat : Int) - 48], rfl, by omega, Lib.hid (set2o hR1 (by omega)), Lib.hid (set2 hX1), ?_, Lib.hid ?_, Lib.hid (by rw [List.length_append, hzl.out]; simp; omega), hb1.setCell (by simp) _⟩
            · have h1 := ownsRow_setCell_below hown1 (a := ⟨w.heap.size + 1, 1, none⟩) (by simp) (.slice (some ⟨gg, 0, none⟩) (zs.length + 1) cap)
              simpa using h1
            · have e : (s).data.toList.drop i = (s).data.toList[i]'(by simpa using hiT) :: (s).data.toList.drop (i + 1) := List.drop_eq_getElem_cons (by simpa using hiT)
              rw [hzs.out, e, List.reverse_cons, List.map_append]
              rfl
          case measure => simp [intOf]

end Go.Proofs.YtngnaofbndpadaaDoor

/- The reference's results, and its sum of two numbers. -/
namespace Go.Proofs.YtngnaofbndpadaaDoor
open Go.RowKit Go.Proofs.ArM

set_option maxHeartbeats 800000 in
set_option maxRecDepth 100000 in
theorem result_any (b o c : Nat) (ds : List Int) (n : Int) (sg : Bool) (w : World) (hI : Ints w.heap.size w (.slice (some ⟨b, o, none⟩) ds.length c) ds) (hd : ds = digs n.natAbs) (hl : ds.length ≤ 20000) (hs : sg = decide (n < 0)) :
    Calls Tryd.prog 42 #[.agg #[.bool sg, .slice (some ⟨b, o, none⟩) ds.length c]] w (OutT w (resB n)) := by
  have hbox := cells2 (W := w.alloc (.cells #[.bool sg, .slice (some ⟨b, o, none⟩) ds.length c] 59)) (heap_alloc_new w _)
  have hI2 := hI.later ((Below.refl _ _).alloc (Nat.le_refl _) (.cells #[.bool sg, .slice (some ⟨b, o, none⟩) ds.length c] 59))
  have HD := Lib.hid hd
  have HS := Lib.hid hs
  clear hd hs
  by_cases h5 : 500 < ds.length
  · have hr := Lib.hid (show resB n = ([], 7) from by rw [resB, ← HD.out, if_pos h5])
    cases sg
    all_goals
      go_enter Tryd.func42, Tryd.ntmps42
      go_wp2
      go_ret2
      exact outT_of (by rw [hr.out]) (by rw [hr.out]) ((Below.refl _ _).alloc (Nat.le_refl _) _)
  · have hr := Lib.hid (show resB n = (textOf sg ds, 0) from by rw [resB, ← HD.out, if_neg h5, numT, ← HD.out, HS.out])
    have hdd : Dig ds := by rw [HD.out]; exact (canon_digs _).1
    cases sg
    all_goals
      go_enter Tryd.func42, Tryd.ntmps42
      go_wp2_with (go_at_call 50; refine (text_any _ b o c ds _ hI2 hdd (by omega)).mono ?_; rintro e w2 ⟨rfl, hb2⟩)
      go_ret2
      exact outT_of (by rw [hr.out]) (by rw [hr.out]) (((Below.refl _ _).alloc (Nat.le_refl _) _).trans (hb2.mono (by simp)))

set_option maxHeartbeats 800000 in
set_option maxRecDepth 100000 in
theorem two_any (s t : ByteArray) (w : World) (hs : s.size ≤ 1000000) (ht : t.size ≤ 1000000) :
    Calls Tryd.prog 40 #[.string s, .string t] w (OutV w (.int .i64 (if validB s.data.toList && validB t.data.toList then 0 else 2))) := by
  cases h1 : validB s.data.toList
  · have c1 := valid_any s w (by omega)
    rw [h1] at c1
    have H1 := Lib.hid h1
    have C1 := Lib.hid c1
    clear h1 c1
    go_enter Tryd.func40, Tryd.ntmps40
    go_wp2_with (go_at_call 53; refine (C1.out).mono ?_; rintro e w1 ⟨rfl, hb1⟩)
    go_ret
    exact ⟨by simp, hb1⟩
  · have c1 := valid_any s w (by omega)
    rw [h1] at c1
    have H1 := Lib.hid h1
    have C1 := Lib.hid c1
    clear h1 c1
    cases h2 : validB t.data.toList
    all_goals
      have c2 := fun W => valid_any t W (by omega)
      rw [h2] at c2
      have C2 := Lib.hid c2
      clear h2 c2
      go_enter Tryd.func40, Tryd.ntmps40
      go_wp2_with fail
      refine (C1.out).mono ?_
      rintro e w1 ⟨rfl, hb1⟩
      go_wp2_with fail
      refine (C2.out _).mono ?_
      rintro e w2 ⟨rfl, hb2⟩
      go_wp2
      go_ret
      exact ⟨by simp, hb1.trans (hb2.mono hb1.size)⟩

end Go.Proofs.YtngnaofbndpadaaDoor

/- The reference's product of numbers. -/
namespace Go.Proofs.YtngnaofbndpadaaDoor
open Go.RowKit Go.Proofs.ArM

/-- two boxes of integers, their digits, and all that lay before -/
def MulS (N n : Nat) (W : World) (p q r t : Value) (xs ys : List Int) (w' : World) : Prop :=
  w'.cell? ⟨N, 0, none⟩ = some p ∧ w'.cell? ⟨N, 1, none⟩ = some q ∧ w'.cell? ⟨N + 1, 0, none⟩ = some r ∧ w'.cell? ⟨N + 1, 1, none⟩ = some t ∧ Ints w'.heap.size w' q xs ∧ Ints w'.heap.size w' t ys ∧ Below n W w' ∧ N + 1 < w'.heap.size

theorem mulS_next {N n : Nat} {W wx wy : World} {p q r t : Value} {xs ys : List Int} (h : MulS N n W p q r t xs ys wx) (hb : Below wx.heap.size wx wy) (hn : n ≤ W.heap.size) : MulS N n W p q r t xs ys wy := by
  obtain ⟨h1, h2, h3, h4, h5, h6, h7, h8⟩ := h
  exact ⟨(hb.cell (p := ⟨N, 0, none⟩) (by simp; omega)).trans h1, (hb.cell (p := ⟨N, 1, none⟩) (by simp; omega)).trans h2, (hb.cell (p := ⟨N + 1, 0, none⟩) (by simp; omega)).trans h3, (hb.cell (p := ⟨N + 1, 1, none⟩) (by simp; omega)).trans h4,
    h5.later hb, h6.later hb, h7.trans (hb.mono (Nat.le_trans hn h7.size)), Nat.lt_of_lt_of_le h8 hb.size⟩

theorem mulS_new (w : World) (p r : Value) (b o c b' o' c' : Nat) (xs ys : List Int) (ha : Ints w.heap.size w (.slice (some ⟨b, o, none⟩) xs.length c) xs) (hb : Ints w.heap.size w (.slice (some ⟨b', o', none⟩) ys.length c') ys) :
    ∃ W, W = (w.alloc (.cells #[p, .slice (some ⟨b, o, none⟩) xs.length c] 59)).alloc (.cells #[r, .slice (some ⟨b', o', none⟩) ys.length c'] 59) ∧
      MulS w.heap.size w.heap.size w p (.slice (some ⟨b, o, none⟩) xs.length c) r (.slice (some ⟨b', o', none⟩) ys.length c') xs ys W := by
  have hB : ∀ o1 o2, Below w.heap.size w ((w.alloc o1).alloc o2) := fun o1 o2 => ((Below.refl _ _).alloc (Nat.le_refl _) o1).alloc (by simp) o2
  refine ⟨_, rfl, ?_, ?_, ?_, ?_, ha.later (hB _ _), hb.later (hB _ _), hB _ _, by simp⟩
  · rw [World.cell?_alloc_past _ _ _ (by simp), World.cell?_alloc_at _ _ _ _ rfl]; rfl
  · rw [World.cell?_alloc_past _ _ _ (by simp), World.cell?_alloc_at _ _ _ _ rfl]; rfl
  · rw [World.cell?_alloc_at _ _ _ _ (by simp)]; rfl
  · rw [World.cell?_alloc_at _ _ _ _ (by simp)]; rfl

set_option maxHeartbeats 3200000 in
set_option maxRecDepth 100000 in
theorem mul_any (s t : ByteArray) (w : World) (hs : s.size ≤ 1000000) (ht : t.size ≤ 1000000) :
    Calls Tryd.prog 11 #[.string s, .string t] w (OutT w (mulR s.data.toList t.data.toList)) := by
  have c0 := two_any s t w hs ht
  cases hv : validB s.data.toList && validB t.data.toList
  · rw [hv] at c0
    have hr := Lib.hid (show mulR s.data.toList t.data.toList = ([], 2) from by rw [mulR, hv]; rfl)
    have C0 := Lib.hid c0
    clear hv c0
    go_enter Tryd.func11, Tryd.ntmps11
    go_wp2_with (go_at_call 40; refine C0.out.mono ?_; rintro e w1 ⟨rfl, hb1⟩)
    go_ret2
    exact outT_of (by rw [hr.out]) (by rw [hr.out]) hb1
  · rw [hv] at c0
    have hr := Lib.hid (show mulR s.data.toList t.data.toList = resB (numOf s.data.toList * numOf t.data.toList) from by rw [mulR, hv]; rfl)
    have C0 := Lib.hid c0
    rw [Bool.and_eq_true] at hv
    have ls := num_len hv.1
    have lt := num_len hv.2
    have lst := mul_len ls lt
    have V := Lib.hid hv
    clear hv c0
    generalize hm : numOf s.data.toList = m at *
    generalize hn : numOf t.data.toList = n at *
    have HM := Lib.hid hm
    have HN := Lib.hid hn
    clear hm hn
    obtain ⟨k, hk⟩ : ∃ k, k = m * n := ⟨_, rfl⟩
    rw [← hk] at hr lst
    have HK := Lib.hid hk
    clear hk
    go_enter Tryd.func11, Tryd.ntmps11
    go_wp2_with fail
    refine C0.out.mono ?_
    rintro e w1 ⟨rfl, hb1⟩
    go_wp2_with fail
    refine (of_any s w1 V.out.1).mono ?_
    rintro e w2 ⟨b2, o2, c2, d2, rfl, hI2, hd2, hb2⟩
    rw [HM.out] at hd2 ⊢
    go_wp2_with fail
    refine (of_any t w2 V.out.2).mono ?_
    rintro e w3 ⟨b3, o3, c3, d3, rfl, hI3, hd3, hb3⟩
    rw [HN.out] at hd3 ⊢
    obtain ⟨sa, hsa⟩ : ∃ sa, sa = decide (m < 0) := ⟨_, rfl⟩
    obtain ⟨sb, hsb⟩ : ∃ sb, sb = decide (n < 0) := ⟨_, rfl⟩
    rw [← hsa, ← hsb]
    have HSA := Lib.hid hsa
    have HSB := Lib.hid hsb
    clear hsa hsb
    have l2 : d2.length ≤ 500 := by rw [hd2.out]; exact ls
    have l3 : d3.length ≤ 500 := by rw [hd3.out]; exact lt
    have hd2d : Dig d2 := by rw [hd2.out]; exact (canon_digs _).1
    have hd3d : Dig d3 := by rw [hd3.out]; exact (canon_digs _).1
    obtain ⟨W, hW, hS0⟩ := mulS_new w3 (.bool sa) (.bool sb) b2 o2 c2 b3 o3 c3 d2 d3 (hI2.later hb3) hI3
    have HS0 := Lib.hid hS0
    clear hS0
    go_wp2_with fail
    rw [← hW]
    clear hW
    have HSd : Hid (MulS w3.heap.size w3.heap.size w3 (.bool sa) (.slice (some ⟨b2, o2, none⟩) d2.length c2) (.bool sb) (.slice (some ⟨b3, o3, none⟩) d3.length c3) d2 d3 W.drew) := Lib.hid (mulS_next HS0.out ((Below.refl _ _).drew) (Nat.le_refl _))
    obtain ⟨hk1, hk2, hk3, hk4, _, _, hk5, hk6⟩ := HS0.out
    go_region_held3 (fun w' => w'.cell? ⟨w3.heap.size, 0, none⟩ = some (.bool sa) ∧ w'.cell? ⟨w3.heap.size, 1, none⟩ = some (.slice (some ⟨b2, o2, none⟩) d2.length c2) ∧ w'.cell? ⟨w3.heap.size + 1, 0, none⟩ = some (.bool sb) ∧ w'.cell? ⟨w3.heap.size + 1, 1, none⟩ = some (.slice (some ⟨b3, o3, none⟩) d3.length c3))
      (first | exact ⟨hk1, hk2, hk3, hk4⟩ | exact ⟨HR5.out.1, HR5.out.2.1, HR5.out.2.2.1, HR5.out.2.2.2.1⟩ | exact ⟨HR4.out.1, HR4.out.2.1, HR4.out.2.2.1, HR4.out.2.2.2.1⟩ | exact ⟨HR3.out.1, HR3.out.2.1, HR3.out.2.2.1, HR3.out.2.2.2.1⟩ | go_keep)
      (first
        | (go_at_call 44; refine (times_any _ _ d2 d3 W.drew HSd.out.2.2.2.2.1 HSd.out.2.2.2.2.2.1 hd2d hd3d (by omega) (by omega)).mono ?_; rintro e w4 ⟨b4, o4, c4, d4, rfl, hI4, hd4, hb4, hn4⟩; have HR3 := Lib.hid (mulS_next HSd.out hb4 (Nat.le_refl _)); have HD4 := Lib.hid (show d4 = digs (m.natAbs * n.natAbs) from by rw [hd4.out, hd2.out, hd3.out, val_digs, val_digs, ← Int.natCast_mul, Int.toNat_natCast]))
        | (go_at_call 43; refine (trimmed_any (sa != sb) b4 o4 c4 d4 w4 hI4 (by rw [HD4.out]; exact (canon_digs _).1) (by rw [HD4.out, ← Int.natAbs_mul, ← HK.out]; omega)).mono ?_; rintro e w5 ⟨d5, rfl, hI5, hd5, hb5⟩; have HVL := Lib.hid (show (if (sa != sb) = true then -val d4 else val d4) = k from by rw [HD4.out, val_digs, HSA.out, HSB.out, mul_sign, HK.out]); rw [HVL.out] at hd5 ⊢; have HR4 := Lib.hid (mulS_next HR3.out hb5 (Nat.le_refl _)))
        | (go_at_call 42; refine (result_any b4 o4 c4 d5 k _ w5 hI5 hd5.out (by rw [hd5.out]; omega) (by first | rfl | (rw [Bool.eq_iff_iff]; simp; done) | (rw [Bool.eq_iff_iff]; simp; omega))).mono ?_; rintro e w6 ⟨rfl, hb6⟩; have HR5 := Lib.hid (mulS_next HR4.out hb6 (Nat.le_refl _))))
    all_goals
      have hbz := hb1.trans ((hb2.mono hb1.size).trans ((hb3.mono (Nat.le_trans hb1.size hb2.size)).trans (HR5.out.2.2.2.2.2.2.1.mono (Nat.le_trans hb1.size (Nat.le_trans hb2.size hb3.size)))))
      go_wp2
      go_ret2
      exact outT_of (by rw [hr.out]) (by rw [hr.out]) hbz

end Go.Proofs.YtngnaofbndpadaaDoor

/- The reference's quotient and remainder of numbers. -/
namespace Go.Proofs.YtngnaofbndpadaaDoor
open Go.RowKit Go.Proofs.ArM

set_option maxHeartbeats 6400000 in
set_option maxRecDepth 100000 in
theorem divmod_any (s t : ByteArray) (w : World) (hs : s.size ≤ 1000000) (ht : t.size ≤ 1000000) :
    Calls Tryd.prog 13 #[.string s, .string t] w (OutTT w (divR s.data.toList t.data.toList)) := by
  have c0 := two_any s t w hs ht
  cases hv : validB s.data.toList && validB t.data.toList
  · rw [hv] at c0
    have hr := Lib.hid (show divR s.data.toList t.data.toList = ([], [], 2) from by rw [divR, hv]; rfl)
    have C0 := Lib.hid c0
    clear hv c0
    go_enter Tryd.func13, Tryd.ntmps13
    go_wp2_with (go_at_call 40; refine C0.out.mono ?_; rintro e w1 ⟨rfl, hb1⟩)
    go_ret3
    exact outTT_of (by rw [hr.out]) (by rw [hr.out]) (by rw [hr.out]) hb1
  · rw [hv] at c0
    have C0 := Lib.hid c0
    have hr := Lib.hid (show divR s.data.toList t.data.toList = (if numOf t.data.toList = 0 then ([], [], 100) else (numT ((numOf s.data.toList).tdiv (numOf t.data.toList)), numT ((numOf s.data.toList).tmod (numOf t.data.toList)), 0)) from by rw [divR, hv]; rfl)
    rw [Bool.and_eq_true] at hv
    have ls := num_len hv.1
    have lt := num_len hv.2
    have hz := zero_text hv.2
    have V := Lib.hid hv
    clear hv c0
    generalize hm : numOf s.data.toList = m at *
    generalize hn : numOf t.data.toList = n at *
    have HM := Lib.hid hm
    have HN := Lib.hid hn
    clear hm hn
    by_cases hn0 : n = 0
    · have ez : (t.toList == [48]) = true := by rw [ByteArray.toList_eq, hz]; simp [hn0]
      have hr2 := Lib.hid (show divR s.data.toList t.data.toList = ([], [], 100) from by rw [hr.out, if_pos hn0])
      clear hn0 hz
      go_enter Tryd.func13, Tryd.ntmps13
      go_wp2_with (go_at_call 40; refine C0.out.mono ?_; rintro e w1 ⟨rfl, hb1⟩)
      go_ret3
      exact outTT_of (by rw [hr2.out]) (by rw [hr2.out]) (by rw [hr2.out]) hb1
    · have ez : (t.toList == [48]) = false := by rw [ByteArray.toList_eq, hz]; simp [hn0]
      have hr2 := Lib.hid (show divR s.data.toList t.data.toList = (numT (m.tdiv n), numT (m.tmod n), 0) from by rw [hr.out, if_neg hn0])
      have HN0 := Lib.hid hn0
      clear hn0 hz
      go_enter Tryd.func13, Tryd.ntmps13
      go_wp2_with fail
      refine C0.out.mono ?_
      rintro e w1 ⟨rfl, hb1⟩
      go_wp2_with fail
      refine (of_any s w1 V.out.1).mono ?_
      rintro e w2 ⟨b2, o2, c2, d2, rfl, hI2, hd2, hb2⟩
      rw [HM.out] at hd2 ⊢
      go_wp2_with fail
      refine (of_any t w2 V.out.2).mono ?_
      rintro e w3 ⟨b3, o3, c3, d3, rfl, hI3, hd3, hb3⟩
      rw [HN.out] at hd3 ⊢
      obtain ⟨sa, hsa⟩ : ∃ sa, sa = decide (m < 0) := ⟨_, rfl⟩
      obtain ⟨sb, hsb⟩ : ∃ sb, sb = decide (n < 0) := ⟨_, rfl⟩
      rw [← hsa, ← hsb]
      have HSA := Lib.hid hsa
      have HSB := Lib.hid hsb
      clear hsa hsb
      have l2 : d2.length ≤ 500 := by rw [hd2.out]; exact ls
      have l3 : d3.length ≤ 500 := by rw [hd3.out]; exact lt
      obtain ⟨W, hW, hS0⟩ := mulS_new w3 (.bool sa) (.bool sb) b2 o2 c2 b3 o3 c3 d2 d3 (hI2.later hb3) hI3
      have HS0 := Lib.hid hS0
      clear hS0
      go_wp2_with fail
      rw [← hW]
      clear hW
      have hd2d : Dig d2 := by rw [hd2.out]; exact (canon_digs _).1
      have hv2 : val d2 = (m.natAbs : Int) := by rw [hd2.out, val_digs]
      have hq : (digs (m.natAbs / n.natAbs)).length ≤ 500 := by
        apply digs_len
        have h1 := digs_lt m.natAbs
        have h3 := p10_mono ls
        have h5 : ((m.natAbs / n.natAbs : Nat) : Int) ≤ m.natAbs := by exact_mod_cast Nat.div_le_self _ _
        omega
      have hr' : (digs (m.natAbs % n.natAbs)).length ≤ 500 := by
        apply digs_len
        have h1 := digs_lt m.natAbs
        have h3 := p10_mono ls
        have h5 : ((m.natAbs % n.natAbs : Nat) : Int) ≤ m.natAbs := by exact_mod_cast Nat.mod_le _ _
        omega
      refine (divided_any b2 o2 c2 b3 o3 c3 d2 d3 m.natAbs n.natAbs W HS0.out.2.2.2.2.1 HS0.out.2.2.2.2.2.1 hd2d hv2 hd3.out (by have := HN0.out; omega) (by omega) (by omega)).mono ?_
      rintro e W1 ⟨b6, o6, c6, qs, b7, o7, c7, rs, rfl, hI6, hI7, hqs, hrs, hb6⟩
      have lq : qs.length ≤ 500 := by rw [hqs.out]; exact hq
      have lr : rs.length ≤ 500 := by rw [hrs.out]; exact hr'
      have HQd := Lib.hid (show Dig qs from by rw [hqs.out]; exact (canon_digs _).1)
      have HRd := Lib.hid (show Dig rs from by rw [hrs.out]; exact (canon_digs _).1)
      have HQL := Lib.hid hq
      have HRL := Lib.hid hr'
      have HDS := Lib.hid (div_signs m n)
      have HQ4 := Lib.hid (show (digs (m.tdiv n).natAbs).length ≤ 100000 from by rw [Int.natAbs_tdiv]; exact Nat.le_trans hq (by decide))
      have HQ6 := Lib.hid (show (digs (m.tmod n).natAbs).length ≤ 100000 from by rw [Int.natAbs_tmod]; exact Nat.le_trans hr' (by decide))
      clear hq hr'
      go_wp2_with fail
      have HSd : Hid (MulS w3.heap.size w3.heap.size w3 (.bool sa) (.slice (some ⟨b2, o2, none⟩) d2.length c2) (.bool sb) (.slice (some ⟨b3, o3, none⟩) d3.length c3) d2 d3 W1.drew) := Lib.hid (mulS_next HS0.out (hb6.trans ((Below.refl _ _).drew)) (Nat.le_refl _))
      have HI6 : Hid (Ints W1.drew.heap.size W1.drew (.slice (some ⟨b6, o6, none⟩) qs.length c6) qs) := Lib.hid (hI6.later ((Below.refl _ _).drew))
      have HI7 : Hid (Ints W1.drew.heap.size W1.drew (.slice (some ⟨b7, o7, none⟩) rs.length c7) rs) := Lib.hid (hI7.later ((Below.refl _ _).drew))
      obtain ⟨hk1, hk2, hk3, hk4, _, _, hk5, hk6⟩ := (mulS_next HS0.out hb6 (Nat.le_refl _))
      go_region_held3 (fun w' => w'.cell? ⟨w3.heap.size, 0, none⟩ = some (.bool sa) ∧ w'.cell? ⟨w3.heap.size, 1, none⟩ = some (.slice (some ⟨b2, o2, none⟩) d2.length c2) ∧ w'.cell? ⟨w3.heap.size + 1, 0, none⟩ = some (.bool sb) ∧ w'.cell? ⟨w3.heap.size + 1, 1, none⟩ = some (.slice (some ⟨b3, o3, none⟩) d3.length c3))
        (first | exact ⟨hk1, hk2, hk3, hk4⟩ | exact ⟨HR7.out.1, HR7.out.2.1, HR7.out.2.2.1, HR7.out.2.2.2.1⟩ | exact ⟨HR6.out.1, HR6.out.2.1, HR6.out.2.2.1, HR6.out.2.2.2.1⟩ | exact ⟨HR5.out.1, HR5.out.2.1, HR5.out.2.2.1, HR5.out.2.2.2.1⟩ | exact ⟨HR4.out.1, HR4.out.2.1, HR4.out.2.2.1, HR4.out.2.2.2.1⟩ | go_keep)
        (first
          | (go_at_call 50; refine (text_any _ b7 o7 c7 d6 w6 hI6' (by rw [hd6.out]; exact (canon_digs _).1) (by rw [hd6.out]; exact HQ6.out)).mono ?_; rintro e w7 ⟨rfl, hb7⟩; have HR7 := Lib.hid (mulS_next HR6.out hb7 (Nat.le_refl _)))
          | (go_at_call 43; refine (trimmed_any sa b7 o7 c7 rs w5 HI7b.out HRd.out (by omega)).mono ?_; rintro e w6 ⟨d6, rfl, hI6', hd6, hb6'⟩; have HVR := Lib.hid (show (if sa = true then -val rs else val rs) = m.tmod n from by rw [hrs.out, val_digs, HSA.out]; exact HDS.out.2); rw [HVR.out] at hd6 ⊢; have HR6 := Lib.hid (mulS_next HR5.out hb6' (Nat.le_refl _)))
          | (go_at_call 50; refine (text_any _ b6 o6 c6 d4 w4 hI4 (by rw [hd4.out]; exact (canon_digs _).1) (by rw [hd4.out]; exact HQ4.out)).mono ?_; rintro e w5 ⟨rfl, hb5⟩; have HR5 := Lib.hid (mulS_next HR4.out hb5 (Nat.le_refl _)); have HI7b := Lib.hid (HI7a.out.later hb5))
          | (go_at_call 43; refine (trimmed_any (sa != sb) b6 o6 c6 qs W1.drew HI6.out HQd.out (by omega)).mono ?_; rintro e w4 ⟨d4, rfl, hI4, hd4, hb4⟩; have HVL := Lib.hid (show (if (sa != sb) = true then -val qs else val qs) = m.tdiv n from by rw [hqs.out, val_digs, HSA.out, HSB.out]; exact HDS.out.1); rw [HVL.out] at hd4 ⊢; have HR4 := Lib.hid (mulS_next HSd.out hb4 (Nat.le_refl _)); have HI7a := Lib.hid (HI7.out.later hb4)))
      all_goals
        have hbz := hb1.trans ((hb2.mono hb1.size).trans ((hb3.mono (Nat.le_trans hb1.size hb2.size)).trans (HR7.out.2.2.2.2.2.2.1.mono (Nat.le_trans hb1.size (Nat.le_trans hb2.size hb3.size)))))
        go_wp2
        go_ret3
        exact outTT_of (by rw [hr2.out, hd4.out]; rfl) (by rw [hr2.out, hd6.out]; rfl) (by rw [hr2.out]) hbz

end Go.Proofs.YtngnaofbndpadaaDoor

/- The reference's power of a number. -/
namespace Go.Proofs.YtngnaofbndpadaaDoor
open Go.RowKit Go.Proofs.ArM

set_option maxHeartbeats 6400000 in
set_option maxRecDepth 100000 in
theorem pow_any (s : ByteArray) (n : Int) (w : World) (hs : s.size ≤ 1000000) (hn : -9223372036854775808 ≤ n) (hn' : n ≤ 9223372036854775807) :
    Calls Tryd.prog 17 #[.string s, .int .i64 n] w (OutT w (powR s.data.toList n)) := by
  have c0 := valid_any s w (by omega)
  cases hv : validB s.data.toList
  · rw [hv] at c0
    have hr := Lib.hid (show powR s.data.toList n = ([], 2) from by rw [powR, hv]; rfl)
    have C0 := Lib.hid c0
    clear hv c0
    go_enter Tryd.func17, Tryd.ntmps17
    go_wp2_with (go_at_call 53; refine C0.out.mono ?_; rintro e w1 ⟨rfl, hb1⟩)
    go_ret2
    exact outT_of (by rw [hr.out]) (by rw [hr.out]) hb1
  · rw [hv] at c0
    have C0 := Lib.hid c0
    have hr := Lib.hid (show powR s.data.toList n = (if n < 0 then ([], 101) else (if (digs ((numOf s.data.toList).natAbs ^ n.toNat)).length ≤ 500 then (numT (numOf s.data.toList ^ n.toNat), 0) else ([], 7))) from by rw [powR, hv]; rfl)
    have ls := num_len hv
    have V := Lib.hid hv
    clear hv c0
    generalize hm : numOf s.data.toList = m at *
    have HM := Lib.hid hm
    clear hm
    by_cases hneg : n < 0
    · have hr2 := Lib.hid (show powR s.data.toList n = ([], 101) from by rw [hr.out, if_pos hneg])
      go_enter Tryd.func17, Tryd.ntmps17
      go_wp2_with (go_at_call 53; refine C0.out.mono ?_; rintro e w1 ⟨rfl, hb1⟩)
      go_ret2
      exact outT_of (by rw [hr2.out]) (by rw [hr2.out]) hb1
    · obtain ⟨k, rfl⟩ : ∃ k : Nat, n = (k : Int) := ⟨n.toNat, by omega⟩
      rw [if_neg hneg, Int.toNat_natCast] at hr
      clear hneg hn
      have hk0 : ¬ ((k : Int) < 0) := by omega
      go_enter Tryd.func17, Tryd.ntmps17
      go_wp2_with fail
      refine C0.out.mono ?_
      rintro e w1 ⟨rfl, hb1⟩
      go_wp2_with fail
      refine (of_any s w1 V.out).mono ?_
      rintro e w2 ⟨b2, o2, c2, d2, rfl, hI2, hd2, hb2⟩
      rw [HM.out] at hd2 ⊢
      obtain ⟨sg, hsg⟩ : ∃ sg, sg = decide (m < 0) := ⟨_, rfl⟩
      rw [← hsg]
      have HSG := Lib.hid hsg
      clear hsg
      have l2 : d2.length ≤ 500 := by rw [hd2.out]; exact ls
      go_wp2_with fail
      obtain ⟨W, hW⟩ : ∃ W, W = w2.alloc (.cells #[.bool sg, .slice (some ⟨b2, o2, none⟩) d2.length c2] 59) := ⟨_, rfl⟩
      have hbW : Below w2.heap.size w2 W := by rw [hW]; exact (Below.refl _ _).alloc (Nat.le_refl _) _
      have hS0 : SubS w2.heap.size w2.heap.size w2 (.bool sg) (.slice (some ⟨b2, o2, none⟩) d2.length c2) d2 W := by
        have hbox := cells2 (W := W) (by rw [hW]; exact heap_alloc_new w2 _)
        exact ⟨hbox.1, hbox.2.1, hI2.later hbW, hbW, by rw [hW]; simp⟩
      rw [← hW]
      clear hW
      have HS0 := Lib.hid hS0
      clear hS0
      refine (power_any b2 o2 c2 d2 m.natAbs k W HS0.out.2.2.1 hd2.out l2 (by omega)).mono ?_
      rintro e W1 (⟨b6, o6, c6, d6, rfl, hI6, hd6, hl6, hb6⟩ | ⟨rfl, hbig, hb6⟩)
      · have HS1 := Lib.hid (subS_next HS0.out hb6 (Nat.le_refl _))
        have hr2 := Lib.hid (show powR s.data.toList k = (numT (m ^ k), 0) from by rw [hr.out, if_pos (by rw [← hd6.out]; exact hl6.out)])
        obtain ⟨kk1, kk2, kk3, kk4, kk5⟩ := HS1.out
        have hbz := hb1.trans ((hb2.mono hb1.size).trans (HS1.out.2.2.2.1.mono (Nat.le_trans hb1.size hb2.size)))
        have hd6d : Dig d6 := by rw [hd6.out]; exact (canon_digs _).1
        have HNA := Lib.hid (show (digs (m ^ k).natAbs).length ≤ 100000 from by rw [Int.natAbs_pow, ← hd6.out]; have := hl6.out; omega)
        have hl6' := hl6.out
        have HVT := Lib.hid (show sg = true → (if ((k : Int) % 2 == 1) = true then -val d6 else val d6) = m ^ k from by
          intro hsg
          rw [hd6.out, val_digs, ← pow_sign m k, ← HSG.out, hsg, odd_say k, Bool.true_and])
        have HVF := Lib.hid (show sg = false → (if false = true then -val d6 else val d6) = m ^ k from by
          intro hsg
          rw [hd6.out, val_digs, ← pow_sign m k, ← HSG.out, hsg]; simp)
        cases sg
        · have HVL := Lib.hid (HVF.out rfl)
          go_wp2_with fail
          refine (trimmed_any false b6 o6 c6 d6 W1 hI6 hd6d (by omega)).mono ?_
          rintro e w4 ⟨d4, rfl, hI4, hd4, hb4⟩
          rw [HVL.out] at hd4 ⊢
          go_wp2_with fail
          refine (text_any _ b6 o6 c6 d4 w4 hI4 (by rw [hd4.out]; exact (canon_digs _).1) (by rw [hd4.out]; exact HNA.out)).mono ?_
          rintro e w5 ⟨rfl, hb5⟩
          go_wp2
          go_ret2
          exact outT_of (by rw [hr2.out, hd4.out]; rfl) (by rw [hr2.out]) ((hbz.trans (hb4.mono hbz.size)).trans (hb5.mono (Nat.le_trans hbz.size hb4.size)))
        · have HVL := Lib.hid (HVT.out rfl)
          go_wp2_with fail
          refine (trimmed_any ((k : Int) % 2 == 1) b6 o6 c6 d6 W1 hI6 hd6d (by omega)).mono ?_
          rintro e w4 ⟨d4, rfl, hI4, hd4, hb4⟩
          rw [HVL.out] at hd4 ⊢
          go_wp2_with fail
          refine (text_any _ b6 o6 c6 d4 w4 hI4 (by rw [hd4.out]; exact (canon_digs _).1) (by rw [hd4.out]; exact HNA.out)).mono ?_
          rintro e w5 ⟨rfl, hb5⟩
          go_wp2
          go_ret2
          exact outT_of (by rw [hr2.out, hd4.out]; rfl) (by rw [hr2.out]) ((hbz.trans (hb4.mono hbz.size)).trans (hb5.mono (Nat.le_trans hbz.size hb4.size)))
      · have HS1 := Lib.hid (subS_next HS0.out hb6 (Nat.le_refl _))
        have hr2 := Lib.hid (show powR s.data.toList k = ([], 7) from by rw [hr.out, if_neg (by have := hbig.out; omega)])
        have hbz := hb1.trans ((hb2.mono hb1.size).trans (HS1.out.2.2.2.1.mono (Nat.le_trans hb1.size hb2.size)))
        go_wp2
        go_ret2
        exact outT_of (by rw [hr2.out]) (by rw [hr2.out]) hbz

end Go.Proofs.YtngnaofbndpadaaDoor

/- The reference's greatest common divisor. -/
namespace Go.Proofs.YtngnaofbndpadaaDoor
open Go.RowKit Go.Proofs.ArM

set_option maxHeartbeats 6400000 in
set_option maxRecDepth 100000 in
theorem gcd_any (s t : ByteArray) (w : World) (hs : s.size ≤ 1000000) (ht : t.size ≤ 1000000) :
    Calls Tryd.prog 15 #[.string s, .string t] w (OutT w (gcdR s.data.toList t.data.toList)) := by
  have c0 := two_any s t w hs ht
  cases hv : validB s.data.toList && validB t.data.toList
  · rw [hv] at c0
    have hr := Lib.hid (show gcdR s.data.toList t.data.toList = ([], 2) from by rw [gcdR, hv]; rfl)
    have C0 := Lib.hid c0
    clear hv c0
    go_enter Tryd.func15, Tryd.ntmps15
    go_wp2_with (go_at_call 40; refine C0.out.mono ?_; rintro e w1 ⟨rfl, hb1⟩)
    go_ret2
    exact outT_of (by rw [hr.out]) (by rw [hr.out]) hb1
  · rw [hv] at c0
    have hr := Lib.hid (show gcdR s.data.toList t.data.toList = (numT (Nat.gcd (numOf s.data.toList).natAbs (numOf t.data.toList).natAbs : Nat), 0) from by rw [gcdR, hv]; rfl)
    have C0 := Lib.hid c0
    rw [Bool.and_eq_true] at hv
    have ls := num_len hv.1
    have lt := num_len hv.2
    have V := Lib.hid hv
    clear hv c0
    generalize hm : numOf s.data.toList = m at *
    generalize hn : numOf t.data.toList = n at *
    have HM := Lib.hid hm
    have HN := Lib.hid hn
    clear hm hn
    go_enter Tryd.func15, Tryd.ntmps15
    go_wp2_with fail
    refine C0.out.mono ?_
    rintro e w1 ⟨rfl, hb1⟩
    go_wp2_with fail
    refine (of_any s w1 V.out.1).mono ?_
    rintro e w2 ⟨b2, o2, c2, d2, rfl, hI2, hd2, hb2⟩
    rw [HM.out] at hd2 ⊢
    go_wp2_with fail
    refine (of_any t w2 V.out.2).mono ?_
    rintro e w3 ⟨b3, o3, c3, d3, rfl, hI3, hd3, hb3⟩
    rw [HN.out] at hd3 ⊢
    have hI2' := hI2.later hb3
    have l2 : d2.length ≤ 500 := by rw [hd2.out]; exact ls
    have l3 : d3.length ≤ 500 := by rw [hd3.out]; exact lt
    have hbw : Below w.heap.size w w3 := hb1.trans ((hb2.mono hb1.size).trans (hb3.mono (Nat.le_trans hb1.size hb2.size)))
    go_wp2_with fail
    go_loopg [7, 8] n.natAbs (fun k x y wr => ∃ (j bx ox cx byy oy cy : Nat) (xs ys : List Int), x = .slice (some ⟨bx, ox, none⟩) xs.length cx ∧ y = .slice (some ⟨byy, oy, none⟩) ys.length cy ∧ Ints wr.heap.size wr (.slice (some ⟨bx, ox, none⟩) xs.length cx) xs ∧ Ints wr.heap.size wr (.slice (some ⟨byy, oy, none⟩) ys.length cy) ys ∧
      Hid (xs = digs j) ∧ Hid (ys = digs k) ∧ xs.length ≤ 500 ∧ ys.length ≤ 500 ∧ Hid (Nat.gcd j k = Nat.gcd m.natAbs n.natAbs) ∧ Below w.heap.size w wr)
    case atStart => exact ⟨m.natAbs, b2, o2, c2, b3, o3, c3, d2, d3, rfl, rfl, hI2', hI3, hd2, hd3, l2, l3, Lib.hid rfl, hbw⟩
    case round =>
      obtain ⟨j, bx, ox, cx, byy, oy, cy, xs, ys, rfl, rfl, hIx, hIy, hxs, hys, lx, ly, hg, hbl⟩ := hrel
      by_cases hk : gk = 0
      · obtain rfl : ys = [] := by rw [hys.out, hk, digs_zero]
        have hgj := Lib.hid (show j = Nat.gcd m.natAbs n.natAbs from by rw [← hg.out, hk]; simp)
        have hdx : Dig xs := by rw [hxs.out]; exact (canon_digs _).1
        clear hk hIy
        go_wp2_with fail
        refine (text_any false bx ox cx xs wr hIx hdx (by omega)).mono ?_
        rintro e w5 ⟨rfl, hb5⟩
        have hbz := hbl.trans (hb5.mono hbl.size)
        go_wp2
        go_ret2
        exact outT_of (by rw [hr.out, hxs.out, hgj.out, numT_nat]) (by rw [hr.out]) hbz
      · have hy0 : 0 < ys.length := by
          apply Nat.pos_of_ne_zero
          intro e0
          have e : ys = [] := List.eq_nil_of_length_eq_zero e0
          have := hys.out
          rw [e, digs_pos hk] at this
          cases this
        have hne : ¬ ys = [] := by intro e; rw [e] at hy0; simp at hy0
        have hyd : Hid (ys = digs gk) := hys
        have hdx := Lib.hid (show Dig xs from by rw [hxs.out]; exact (canon_digs _).1)
        have hvx := Lib.hid (show val xs = (j : Int) from by rw [hxs.out, val_digs])
        go_wp2_with fail
        refine (divided_any bx ox cx byy oy cy xs ys j gk wr hIx hIy hdx.out hvx.out hys.out (by omega) (by omega) (by omega)).mono ?_
        rintro e w5 ⟨b6, o6, c6, qs, b7, o7, c7, rs, rfl, hI6, hI7, hqs, hrs, hb6⟩
        have hI8 := hIy.later hb6
        have hbl5 := hbl.trans (hb6.mono hbl.size)
        have lr : rs.length ≤ 500 := by
          rw [hrs.out]
          refine Nat.le_trans ?_ ly
          rw [hys.out]
          apply digs_len
          have h1 := digs_lt gk
          have h5 : ((j % gk : Nat) : Int) < gk := by exact_mod_cast Nat.mod_lt _ (by omega)
          omega
        go_wp2
        go_roundg (j % gk)
        case measure => exact Nat.mod_lt _ (by omega)
        case rel => exact ⟨gk, byy, oy, cy, b7, o7, c7, ys, rs, rfl, rfl, hI8, hI7, hys, hrs, ly, lr, Lib.hid (by rw [← hg.out, Nat.gcd_comm j gk, Nat.gcd_rec gk j, Nat.gcd_comm]), hbl5⟩

end Go.Proofs.YtngnaofbndpadaaDoor
