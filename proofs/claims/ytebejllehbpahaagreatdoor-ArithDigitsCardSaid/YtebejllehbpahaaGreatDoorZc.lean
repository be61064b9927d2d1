/- The reference: its functions. -/
import Derived.Test.YtebejllehbpahaaGreatDoorZa
import Derived.Test.YtebejllehbpahaaGreatDoorZb
import Derived.Test.YtebejllehbpahaaGreatDoorPc
import Derived.Deep.RegionLaw
import Derived.Deep.AppendLies
import Derived.Test.YtebejllehbpahaaGreatDoorPf
import Derived.Deep.RegionHeld3
/- The reference's integer of a text. -/
namespace Go.Proofs.YtebejllehbpahaaGreatDoor
open Go.RowKit Go.Proofs.ArM

set_option maxHeartbeats 3200000 in
set_option maxRecDepth 100000 in
theorem of_any (s : ByteArray) (w : World) (hv : validB s.data.toList = true) :
    Calls Tryz.prog 33 #[.string s] w (OutZ w (numOf s.data.toList)) := by
  obtain ⟨i0, hi, hz0, hz1, hz2⟩ := info_parts Tryz.info3
  have hV := Lib.hid hv
  clear hv
  have h0 : 0 < s.size := by
    apply Nat.pos_of_ne_zero
    intro e
    have : s.data.toList = [] := List.eq_nil_of_length_eq_zero (by rw [Array.length_toList]; exact e)
    have h := hV.out
    rw [this] at h
    exact absurd h (by decide)
  obtain ⟨c0, hc0⟩ : ∃ c0, c0 = s[0].toNat := ⟨_, rfl⟩
  have HH := Lib.hid (show (s.data.toList.headD 0).toNat = c0 from by rw [head_data h0, hc0])
  by_cases h45 : c0 = 45
  · have e45 : ((s[0].toNat : Int) == 45) = true := by rw [← hc0, h45]; rfl
    have hcore : coreB (s.extract 1 s.size).data.toList = true := by
      have h := hV.out
      rw [validB, HH.out, if_pos h45, Bool.and_eq_true] at h
      rw [Lib.extract_to_end]; simpa using h.2
    have hparts := coreB_parts hcore
    have hdig : ∀ j, ∀ h : j < (s.extract 1 s.size).data.toList.length, 0 ≤ dv ((s.extract 1 s.size).data.toList[j]) ∧ dv ((s.extract 1 s.size).data.toList[j]) ≤ 9 := fun j h => dv_dig (hparts.2.2.2 _ (List.getElem_mem h))
    have HSZ := Lib.hid (show s.size - 1 = (s.extract 1 s.size).data.toList.length from by simp)
    have hsz5 : s.size - 1 ≤ 500 := by have h1 := HSZ.out; have h2 := hparts.2.1; omega
    have hsz1 : 1 ≤ s.size - 1 := by have h1 := HSZ.out; have h2 := hparts.1; omega
    have HDG := Lib.hid hdig
    have HP := Lib.hid hparts
    have h45n := Lib.hid h45
    clear hdig hcore hparts hc0 h45
    go_enter Tryz.func33, Tryz.ntmps33
    go_wp2_with fail
    go_loopw [4] (fun i wr => ∃ (k : Nat) (v : Value) (zs : List Int), i = .int .i64 ((k : Int) - 1) ∧ k ≤ s.size - 1 ∧ Hid (wr.heap[w.heap.size]? = some (.cells #[.bool false, .slice none 0 0] 54 (0, 0))) ∧ Hid (wr.heap[w.heap.size + 1]? = some (.cells #[.bool true, v] 54 (0, 0))) ∧
        wr.ownsRow (w.heap.size + 2) 3 1 v zs.length (zs.map (Value.int .i64)) ∧ Hid (zs = ((s.extract 1 s.size).data.toList.drop k).reverse.map dv) ∧ Hid (zs.length = s.size - 1 - k) ∧ Below w.heap.size w wr)
      (fun i _ => (intOf i + 1).toNat)
    case atStart =>
      refine ⟨s.size - 1, .slice none 0 0, [], by go_num, Nat.le_refl _, Lib.hid ?_, Lib.hid ?_, World.ownsRow_nil _ _ _ _, Lib.hid (by rw [List.drop_eq_nil_of_le (by have := HSZ.out; omega)]; rfl), Lib.hid (by simp), ((Below.refl _ _).alloc (Nat.le_refl _) _).alloc (by simp) _⟩
      · exact (Below.heap_alloc _ _ _ (by simp)).trans (heap_alloc_new w _)
      · have := heap_alloc_new (w.alloc (.cells #[.bool false, .slice none 0 0] 54)) (.cells #[.bool true, .slice none 0 0] 54)
        simpa using this
    case round =>
      obtain ⟨k, v, zs, rfl, hk, hR, hX, hown, hzs, hzl, hbl⟩ := hrel
      have hlt1 : w.heap.size + 1 < wr.heap.size := (Array.getElem?_eq_some_iff.1 hX.out).1
      obtain ⟨x0, x1, x2, x3⟩ := cells2 hX.out
      rcases Nat.eq_zero_or_pos k with rfl | hk0
      · obtain ⟨r0, r1, r2, r3⟩ := cells2 hR.out
        have hzn : 0 < zs.length := by have := hzl.out; omega
        obtain ⟨g, cap, rfl, hg⟩ := own_shape hown hzn
        have hI := ints_of_row hown
        have hzd : Dig zs := by rw [hzs.out, List.drop_zero]; exact dig_digsOf HP.out.2.2.2
        have hz5 : zs.length ≤ 500 := by have := hzl.out; omega
        go_wp2_with (go_at_call 41; refine (trimmed_any true g 0 cap zs wr hI hzd (by omega)).mono ?_; rintro e wy ⟨ds, rfl, hI3, hd3, hb3⟩; have y0 := (hb3.cell (p := ⟨w.heap.size, 0, none⟩) (by simp; omega)).trans r0; have y1 := (hb3.cell (p := ⟨w.heap.size, 1, none⟩) (by simp; omega)).trans r1; have y2 := (hb3.frozen (p := ⟨w.heap.size, 0, none⟩) (by simp; omega)).trans r2; have y3 := (hb3.frozen (p := ⟨w.heap.size, 1, none⟩) (by simp; omega)).trans r3)
        have y0 := (hb3.cell (p := ⟨w.heap.size, 0, none⟩) (by simp; omega)).trans r0
        have y1 := (hb3.cell (p := ⟨w.heap.size, 1, none⟩) (by simp; omega)).trans r1
        have q0 := fun u => (res_q y0 y1 u u).1
        have q1 := fun u v => (res_q y0 y1 u v).2
        refine bodyPost_ret (v := .agg #[.bool _, .slice (some ⟨g, 0, none⟩) ds.length cap]) (by simp [results, Tryz.results33, go_sem, q0, q1]; rfl) rfl ?_
        have hnum : numOf s.data.toList = -val zs := by
          rw [hzs.out, List.drop_zero]; rw [numOf, HH.out, if_pos h45n.out, Lib.extract_to_end]; simp [digsOf]
        exact res_end hI3 (by omega) hd3.out (by first | (rw [hnum]; done) | (rw [hnum]; simp)) (by first | (rw [hnum]; done) | (rw [hnum]; simp)) (hbl.trans (hb3.mono hbl.size)) (Nat.le_refl _)
      · obtain ⟨i, rfl⟩ : ∃ i, k = i + 1 := ⟨k - 1, by omega⟩
        have hj : ((i + 1 : Nat) : Int) - 1 = (i : Int) := by omega
        rw [hj]
        clear hj
        have hiT : i < (s.extract 1 s.size).size := by have := HSZ.out; simp at this ⊢; omega
        obtain ⟨d, hd⟩ : ∃ d : Int, d = ((s.extract 1 s.size)[i].toNat : Int) - 48 := ⟨_, rfl⟩
        have hd0 := HDG.out i (by simpa using hiT)
        have hd1 : 48 ≤ ((s.extract 1 s.size)[i].toNat : Int) ∧ ((s.extract 1 s.size)[i].toNat : Int) ≤ 57 := by
          have e : dv ((s.extract 1 s.size).data.toList[i]'(by simpa using hiT)) = ((s.extract 1 s.size)[i].toNat : Int) - 48 := rfl
          omega
        have hz500 : zs.length ≤ 500 := by have := hzl.out; omega
        have hiS : i < s.size - 1 := by omega
        have hw1 : IntKind.u8.wrap (((s.extract 1 s.size)[i].toNat : Int) - 48) = ((s.extract 1 s.size)[i].toNat : Int) - 48 := IntWalk.u8_in _ (by omega)
        have hw2 : IntKind.i64.wrap (((s.extract 1 s.size)[i].toNat : Int) - 48) = ((s.extract 1 s.size)[i].toNat : Int) - 48 := IntWalk.i64_in _ (by omega)
        go_wp2_with fail
        go_region_law ((refine step_append_lies _ (by rfl) _ _ _ (by rfl) (w.heap.size + 2) 3 i0 _ 1 8 Tryz.underlying32 hi hz0 hz1 hz2 rfl (by omega) v zs.length (zs.map (Value.int .i64)) (by rfl) ((hown.alloc _).drew) ⟨wr.heap.size, 0, none⟩ 1 1 [.int .i64 _] (by rfl) (by rfl) (World.news_of_block (cs := #[.int .i64 _]) (t := 3) (fr := (0, 0)) (heap_alloc_new wr _)) (by simp [Value.oneCell']) (by omega) (by unfold maxLen; omega) (by omega) (by simp; omega) (wr.heap.size + 1) (by simp) ?_; intro gg cap w1 hown1 hgrow hat hlt; have hX1 := (hgrow.block (w.heap.size + 1) (by simp; omega) (fun h => by have := (hown.lt _ h.symm).1; omega)).trans ((Below.heap_alloc wr _ _ hlt1).trans hX.out); obtain ⟨z0, z1, z2, z3⟩ := cells2 hX1))
        all_goals
          have hgl := hown1.lt gg rfl
          have hR1 := (hgrow.block w.heap.size (by simp; omega) (fun h => by have := (hown.lt _ h.symm).1; omega)).trans ((Below.heap_alloc wr _ _ (by omega)).trans hR.out)
          have hb1 := (hbl.alloc hbl.size (.cells #[.int .i64 (((s.extract 1 s.size)[i].toNat : Int) - 48)] 3)).drew.grown hgrow (by have := hbl.size; simp; omega) (fun j hj => by have := (hown.lt j hj).1; omega)
          go_wp2
          go_roundw
          case rel =>
            refine ⟨i, .slice (some ⟨gg, 0, none⟩) (zs.length + 1) cap, zs ++ [((s.extract 1 s.size)[i].toNat : Int) - 48], rfl, by omega, Lib.hid (set2o hR1 (by omega)), Lib.hid (set2 hX1), ?_, Lib.hid ?_, Lib.hid (by rw [List.length_append, hzl.out]; simp; omega), hb1.setCell (by simp) _⟩
            · have h1 := ownsRow_setCell_below hown1 (a := ⟨w.heap.size + 1, 1, none⟩) (by simp) (.slice (some ⟨gg, 0, none⟩) (zs.length + 1) cap)
              simpa using h1
            · have e : (s.extract 1 s.size).data.toList.drop i = (s.extract 1 s.size).data.toList[i]'(by simpa using hiT) :: (s.extract 1 s.size).data.toList.drop (i + 1) := List.drop_eq_getElem_cons (by simpa using hiT)
              rw [hzs.out, e, List.reverse_cons, List.map_append]
              rfl
          case measure => simp [intOf]
  · have e45 : ((s[0].toNat : Int) == 45) = false := by rw [← hc0]; simp; omega
    have hcore : coreB (s).data.toList = true := by
      have h := hV.out
      rwa [validB, HH.out, if_neg h45] at h
    have hparts := coreB_parts hcore
    have hdig : ∀ j, ∀ h : j < (s).data.toList.length, 0 ≤ dv ((s).data.toList[j]) ∧ dv ((s).data.toList[j]) ≤ 9 := fun j h => dv_dig (hparts.2.2.2 _ (List.getElem_mem h))
    have HSZ := Lib.hid (show s.size = (s).data.toList.length from by simp)
    have hsz5 : s.size ≤ 500 := by have h1 := HSZ.out; have h2 := hparts.2.1; omega
    have hsz1 : 1 ≤ s.size := by have h1 := HSZ.out; have h2 := hparts.1; omega
    have HDG := Lib.hid hdig
    have HP := Lib.hid hparts
    have h45n := Lib.hid h45
    clear hdig hcore hparts hc0 h45
    go_enter Tryz.func33, Tryz.ntmps33
    go_wp2_with fail
    go_loopw [4] (fun i wr => ∃ (k : Nat) (v : Value) (zs : List Int), i = .int .i64 ((k : Int) - 1) ∧ k ≤ s.size ∧ Hid (wr.heap[w.heap.size]? = some (.cells #[.bool false, .slice none 0 0] 54 (0, 0))) ∧ Hid (wr.heap[w.heap.size + 1]? = some (.cells #[.bool false, v] 54 (0, 0))) ∧
        wr.ownsRow (w.heap.size + 2) 3 1 v zs.length (zs.map (Value.int .i64)) ∧ Hid (zs = ((s).data.toList.drop k).reverse.map dv) ∧ Hid (zs.length = s.size - k) ∧ Below w.heap.size w wr)
      (fun i _ => (intOf i + 1).toNat)
    case atStart =>
      refine ⟨s.size, .slice none 0 0, [], by go_num, Nat.le_refl _, Lib.hid ?_, Lib.hid ?_, World.ownsRow_nil _ _ _ _, Lib.hid (by rw [List.drop_eq_nil_of_le (by have := HSZ.out; omega)]; rfl), Lib.hid (by simp), ((Below.refl _ _).alloc (Nat.le_refl _) _).alloc (by simp) _⟩
      · exact (Below.heap_alloc _ _ _ (by simp)).trans (heap_alloc_new w _)
      · have := heap_alloc_new (w.alloc (.cells #[.bool false, .slice none 0 0] 54)) (.cells #[.bool false, .slice none 0 0] 54)
        simpa using this
    case round =>
      obtain ⟨k, v, zs, rfl, hk, hR, hX, hown, hzs, hzl, hbl⟩ := hrel
      have hlt1 : w.heap.size + 1 < wr.heap.size := (Array.getElem?_eq_some_iff.1 hX.out).1
      obtain ⟨x0, x1, x2, x3⟩ := cells2 hX.out
      rcases Nat.eq_zero_or_pos k with rfl | hk0
      · obtain ⟨r0, r1, r2, r3⟩ := cells2 hR.out
        have hzn : 0 < zs.length := by have := hzl.out; omega
        obtain ⟨g, cap, rfl, hg⟩ := own_shape hown hzn
        have hI := ints_of_row hown
        have hzd : Dig zs := by rw [hzs.out, List.drop_zero]; exact dig_digsOf HP.out.2.2.2
        have hz5 : zs.length ≤ 500 := by have := hzl.out; omega
        go_wp2_with (go_at_call 41; refine (trimmed_any false g 0 cap zs wr hI hzd (by omega)).mono ?_; rintro e wy ⟨ds, rfl, hI3, hd3, hb3⟩; have y0 := (hb3.cell (p := ⟨w.heap.size, 0, none⟩) (by simp; omega)).trans r0; have y1 := (hb3.cell (p := ⟨w.heap.size, 1, none⟩) (by simp; omega)).trans r1; have y2 := (hb3.frozen (p := ⟨w.heap.size, 0, none⟩) (by simp; omega)).trans r2; have y3 := (hb3.frozen (p := ⟨w.heap.size, 1, none⟩) (by simp; omega)).trans r3)
        have y0 := (hb3.cell (p := ⟨w.heap.size, 0, none⟩) (by simp; omega)).trans r0
        have y1 := (hb3.cell (p := ⟨w.heap.size, 1, none⟩) (by simp; omega)).trans r1
        have q0 := fun u => (res_q y0 y1 u u).1
        have q1 := fun u v => (res_q y0 y1 u v).2
        refine bodyPost_ret (v := .agg #[.bool _, .slice (some ⟨g, 0, none⟩) ds.length cap]) (by simp [results, Tryz.results33, go_sem, q0, q1]; rfl) rfl ?_
        have hnum : numOf s.data.toList = val zs := by
          rw [hzs.out, List.drop_zero]; rw [numOf, HH.out, if_neg h45n.out]; rfl
        exact res_end hI3 (by omega) hd3.out (by first | (rw [hnum]; done) | (rw [hnum]; simp)) (by first | (rw [hnum]; done) | (rw [hnum]; simp)) (hbl.trans (hb3.mono hbl.size)) (Nat.le_refl _)
      · obtain ⟨i, rfl⟩ : ∃ i, k = i + 1 := ⟨k - 1, by omega⟩
        have hj : ((i + 1 : Nat) : Int) - 1 = (i : Int) := by omega
        rw [hj]
        clear hj
        have hiT : i < (s).size := by have := HSZ.out; simp at this ⊢; omega
        obtain ⟨d, hd⟩ : ∃ d : Int, d = ((s)[i].toNat : Int) - 48 := ⟨_, rfl⟩
        have hd0 := HDG.out i (by simpa using hiT)
        have hd1 : 48 ≤ ((s)[i].toNat : Int) ∧ ((s)[i].toNat : Int) ≤ 57 := by
          have e : dv ((s).data.toList[i]'(by simpa using hiT)) = ((s)[i].toNat : Int) - 48 := rfl
          omega
        have hz500 : zs.length ≤ 500 := by have := hzl.out; omega
        have hiS : i < s.size := by omega
        have hw1 : IntKind.u8.wrap (((s)[i].toNat : Int) - 48) = ((s)[i].toNat : Int) - 48 := IntWalk.u8_in _ (by omega)
        have hw2 : IntKind.i64.wrap (((s)[i].toNat : Int) - 48) = ((s)[i].toNat : Int) - 48 := IntWalk.i64_in _ (by omega)
        go_wp2_with fail
        go_region_law ((refine step_append_lies _ (by rfl) _ _ _ (by rfl) (w.heap.size + 2) 3 i0 _ 1 8 Tryz.underlying32 hi hz0 hz1 hz2 rfl (by omega) v zs.length (zs.map (Value.int .i64)) (by rfl) ((hown.alloc _).drew) ⟨wr.heap.size, 0, none⟩ 1 1 [.int .i64 _] (by rfl) (by rfl) (World.news_of_block (cs := #[.int .i64 _]) (t := 3) (fr := (0, 0)) (heap_alloc_new wr _)) (by simp [Value.oneCell']) (by omega) (by unfold maxLen; omega) (by omega) (by simp; omega) (wr.heap.size + 1) (by simp) ?_; intro gg cap w1 hown1 hgrow hat hlt; have hX1 := (hgrow.block (w.heap.size + 1) (by simp; omega) (fun h => by have := (hown.lt _ h.symm).1; omega)).trans ((Below.heap_alloc wr _ _ hlt1).trans hX.out); obtain ⟨z0, z1, z2, z3⟩ := cells2 hX1))
        all_goals
          have hgl := hown1.lt gg rfl
          have hR1 := (hgrow.block w.heap.size (by simp; omega) (fun h => by have := (hown.lt _ h.symm).1; omega)).trans ((Below.heap_alloc wr _ _ (by omega)).trans hR.out)
          have hb1 := (hbl.alloc hbl.size (.cells #[.int .i64 (((s)[i].toNat : Int) - 48)] 3)).drew.grown hgrow (by have := hbl.size; simp; omega) (fun j hj => by have := (hown.lt j hj).1; omega)
          go_wp2
          go_roundw
          case rel =>
            refine ⟨i, .slice (some ⟨gg, 0, none⟩) (zs.length + 1) cap, zs ++ [((s)[i].toNat : Int) - 48], rfl, by omega, Lib.hid (set2o hR1 (by omega)), Lib.hid (set2 hX1), ?_, Lib.hid ?_, Lib.hid (by rw [List.length_append, hzl.out]; simp; omega), hb1.setCell (by simp) _⟩
            · have h1 := ownsRow_setCell_below hown1 (a := ⟨w.heap.size + 1, 1, none⟩) (by simp) (.slice (some ⟨gg, 0, none⟩) (zs.length + 1) cap)
              simpa using h1
            · have e : (s).data.toList.drop i = (s).data.toList[i]'(by simpa using hiT) :: (s).data.toList.drop (i + 1) := List.drop_eq_getElem_cons (by simpa using hiT)
              rw [hzs.out, e, List.reverse_cons, List.map_append]
              rfl
          case measure => simp [intOf]

end Go.Proofs.YtebejllehbpahaaGreatDoor

/- The reference's results, and its sum of two numbers. -/
namespace Go.Proofs.YtebejllehbpahaaGreatDoor
open Go.RowKit Go.Proofs.ArM

set_option maxHeartbeats 800000 in
set_option maxRecDepth 100000 in
theorem result_any (b o c : Nat) (ds : List Int) (n : Int) (sg : Bool) (w : World) (hI : Ints w.heap.size w (.slice (some ⟨b, o, none⟩) ds.length c) ds) (hd : ds = digs n.natAbs) (hl : ds.length ≤ 20000) (hs : sg = decide (n < 0)) :
    Calls Tryz.prog 38 #[.agg #[.bool sg, .slice (some ⟨b, o, none⟩) ds.length c]] w (OutT w (resB n)) := by
  have hbox := cells2 (W := w.alloc (.cells #[.bool sg, .slice (some ⟨b, o, none⟩) ds.length c] 54)) (heap_alloc_new w _)
  have hI2 := hI.later ((Below.refl _ _).alloc (Nat.le_refl _) (.cells #[.bool sg, .slice (some ⟨b, o, none⟩) ds.length c] 54))
  have HD := Lib.hid hd
  have HS := Lib.hid hs
  clear hd hs
  by_cases h5 : 500 < ds.length
  · have hr := Lib.hid (show resB n = ([], 7) from by rw [resB, ← HD.out, if_pos h5])
    cases sg
    all_goals
      go_enter Tryz.func38, Tryz.ntmps38
      go_wp2
      go_ret2
      exact outT_of (by rw [hr.out]) (by rw [hr.out]) ((Below.refl _ _).alloc (Nat.le_refl _) _)
  · have hr := Lib.hid (show resB n = (textOf sg ds, 0) from by rw [resB, ← HD.out, if_neg h5, numT, ← HD.out, HS.out])
    have hdd : Dig ds := by rw [HD.out]; exact (canon_digs _).1
    cases sg
    all_goals
      go_enter Tryz.func38, Tryz.ntmps38
      go_wp2_with (go_at_call 54; refine (text_any _ b o c ds _ hI2 hdd (by omega)).mono ?_; rintro e w2 ⟨rfl, hb2⟩)
      go_ret2
      exact outT_of (by rw [hr.out]) (by rw [hr.out]) (((Below.refl _ _).alloc (Nat.le_refl _) _).trans (hb2.mono (by simp)))

set_option maxHeartbeats 800000 in
set_option maxRecDepth 100000 in
theorem two_any (s t : ByteArray) (w : World) (hs : s.size ≤ 1000000) (ht : t.size ≤ 1000000) :
    Calls Tryz.prog 32 #[.string s, .string t] w (OutV w (.int .i64 (if validB s.data.toList && validB t.data.toList then 0 else 2))) := by
  cases h1 : validB s.data.toList
  · have c1 := valid_any s w (by omega)
    rw [h1] at c1
    have H1 := Lib.hid h1
    have C1 := Lib.hid c1
    clear h1 c1
    go_enter Tryz.func32, Tryz.ntmps32
    go_wp2_with (go_at_call 10; refine (C1.out).mono ?_; rintro e w1 ⟨rfl, hb1⟩)
    go_ret
    exact ⟨by simp, hb1⟩
  · have c1 := valid_any s w (by omega)
    rw [h1] at c1
    have H1 := Lib.hid h1
    have C1 := Lib.hid c1
    clear h1 c1
    cases h2 : validB t.data.toList
    all_goals
      have c2 := fun W => valid_any t W (by omega)
      rw [h2] at c2
      have C2 := Lib.hid c2
      clear h2 c2
      go_enter Tryz.func32, Tryz.ntmps32
      go_wp2_with fail
      refine (C1.out).mono ?_
      rintro e w1 ⟨rfl, hb1⟩
      go_wp2_with fail
      refine (C2.out _).mono ?_
      rintro e w2 ⟨rfl, hb2⟩
      go_wp2
      go_ret
      exact ⟨by simp, hb1.trans (hb2.mono hb1.size)⟩

end Go.Proofs.YtebejllehbpahaaGreatDoor

/- The reference's sum of integers. -/
namespace Go.Proofs.YtebejllehbpahaaGreatDoor
open Go.RowKit Go.Proofs.ArM

theorem sum_end {w wz : World} {b o c g k : Nat} {ds : List Int} {n : Int} {s : Bool} {u v : Value} (hI : Ints wz.heap.size wz (.slice (some ⟨b, o, none⟩) ds.length c) ds) (hg : b ≠ g) (hd : ds = digs k) (hk : k = n.natAbs) (hs : s = decide (n < 0))
    (hb : Below w.heap.size w wz) (hgw : w.heap.size ≤ g) : OutZ w n (.returned (.agg #[.bool s, .slice (some ⟨b, o, none⟩) ds.length c])) ((wz.setCell ⟨g, 0, none⟩ u).setCell ⟨g, 1, none⟩ v) := by
  refine ⟨b, o, c, ds, by rw [hs], ?_, Lib.hid (by rw [hd, hk]), (hb.setCell hgw _).setCell hgw _⟩
  have h := (hI.set (j := 0) (u := u) hg).set (j := 1) (u := v) hg
  simpa using h

set_option maxHeartbeats 12800000 in
set_option maxRecDepth 100000 in
theorem sum_gen (b o c b' o' c' : Nat) (xs ys : List Int) (sa sb : Bool) (m n : Int) (w : World) (ha : Ints w.heap.size w (.slice (some ⟨b, o, none⟩) xs.length c) xs) (hb0 : Ints w.heap.size w (.slice (some ⟨b', o', none⟩) ys.length c') ys)
    (hxc : Canon xs) (hyc : Canon ys) (hm : m = if sa then -val xs else val xs) (hn : n = if sb then -val ys else val ys) (hlx : xs.length ≤ 10000) (hly : ys.length ≤ 10000) :
    Calls Tryz.prog 34 #[.agg #[.bool sa, .slice (some ⟨b, o, none⟩) xs.length c], .agg #[.bool sb, .slice (some ⟨b', o', none⟩) ys.length c']] w (OutZ w (m + n)) := by
  have HX0 := Lib.hid (val_nonneg hxc.1)
  have HY0 := Lib.hid (val_nonneg hyc.1)
  cases sa <;> cases sb
  all_goals
    simp only [Bool.false_eq_true, if_false, if_true] at hm hn
    have HSA := Lib.hid hm
    have HSB := Lib.hid hn
    clear hm hn
  · go_enter Tryz.func34, Tryz.ntmps34
    obtain ⟨W, hW, hN, hwW, hB0, hR0⟩ := box_new w (.bool false) (.slice (some ⟨b, o, none⟩) xs.length c) (.bool false) (.slice (some ⟨b', o', none⟩) ys.length c')
    go_wp2_with fail
    rw [← hW]
    clear hW
    have hsz := Lib.hid hN
    have HR := Lib.hid hR0
    have HB := Lib.hid hB0
    obtain ⟨hk1, hk2, hk3, hk4, hk5⟩ := hB0
    clear hR0 hN
    have HBd : Hid (BoxS w.heap.size W W.drew (.bool false) (.slice (some ⟨b, o, none⟩) xs.length c) (.bool false) (.slice (some ⟨b', o', none⟩) ys.length c')) := Lib.hid (boxS_next HB.out (by have := hsz.out; omega) ((Below.refl _ _).drew))
    have hIa : Ints W.drew.heap.size W.drew (.slice (some ⟨b, o, none⟩) xs.length c) xs := ha.below hwW.drew hwW.size
    have hIb : Ints W.drew.heap.size W.drew (.slice (some ⟨b', o', none⟩) ys.length c') ys := hb0.below hwW.drew hwW.size
    go_region_held3 (fun w' => w'.cell? ⟨w.heap.size, 0, none⟩ = some (.bool false) ∧ w'.cell? ⟨w.heap.size, 1, none⟩ = some (.slice (some ⟨b, o, none⟩) xs.length c) ∧ w'.cell? ⟨w.heap.size + 1, 0, none⟩ = some (.bool false) ∧ w'.cell? ⟨w.heap.size + 1, 1, none⟩ = some (.slice (some ⟨b', o', none⟩) ys.length c'))
      (first | exact ⟨hk1, hk2, hk3, hk4⟩ | exact ⟨hB4.1, hB4.2.1, hB4.2.2.1, hB4.2.2.2.1⟩ | exact ⟨hB3.1, hB3.2.1, hB3.2.2.1, hB3.2.2.2.1⟩ | (refine ⟨?_, ?_, ?_, ?_⟩ <;> (rw [World.cell?_setCell_other _ _ _ _ (by intro e; have e1 := congrArg Addr.block e; simp at e1; try omega), World.cell?_setCell_other _ _ _ _ (by intro e; have e1 := congrArg Addr.block e; simp at e1; try omega)]; first | exact hB4.1 | exact hB4.2.1 | exact hB4.2.2.1 | exact hB4.2.2.2.1)) | go_keep)
      (first | (go_at_call 52; refine (plus_any _ _ xs ys W.drew hIa hIb hxc.1 hyc.1 (by omega) (by omega)).mono ?_; rintro e wy ⟨b3, o3, c3, zs, rfl, hI3, hP3, hb3, hn3⟩; have hB3 := boxS_next HBd.out (by have := hsz.out; omega) hb3) | (go_at_call 41; refine (trimmed_any false b3 o3 c3 zs wy hI3 hP3.out.1 (by have := hP3.out.2.2; omega)).mono ?_; rintro e wz ⟨ds, rfl, hI4, hds4, hb4⟩; have hB4 := boxS_next hB3 (by have := hsz.out; omega) hb4; have hr0 := (hB4.2.2.2.2.cell (p := ⟨w.heap.size + 1 + 1, 0, none⟩) (by simp)).trans HR.out.1; have hr1 := (hB4.2.2.2.2.cell (p := ⟨w.heap.size + 1 + 1, 1, none⟩) (by simp)).trans HR.out.2.1; have hf0 := (hB4.2.2.2.2.frozen (p := ⟨w.heap.size + 1 + 1, 0, none⟩) (by simp)).trans HR.out.2.2.1; have hf1 := (hB4.2.2.2.2.frozen (p := ⟨w.heap.size + 1 + 1, 1, none⟩) (by simp)).trans HR.out.2.2.2))
    go_wp2
    have hz := hP3.out.2.1
    have hsa := HSA.out
    have hsb := HSB.out
    have hx0 := HX0.out
    have hy0 := HY0.out
    have hsz1 := hsz.out
    have hs3 := hB3.2.2.2.2.size
    have hW0 := hwW.size
    have r0 := (hB4.2.2.2.2.cell (p := ⟨w.heap.size + 1 + 1, 0, none⟩) (by simp)).trans HR.out.1
    have r1 := (hB4.2.2.2.2.cell (p := ⟨w.heap.size + 1 + 1, 1, none⟩) (by simp)).trans HR.out.2.1
    have q0 := fun u => World.cell?_setCell_same wz ⟨w.heap.size + 1 + 1, 0, none⟩ u r0
    have q1 := fun u v => World.cell?_setCell_same (wz.setCell ⟨w.heap.size + 1 + 1, 0, none⟩ u) ⟨w.heap.size + 1 + 1, 1, none⟩ v ((World.cell?_setCell_other _ _ _ _ (by simp)).trans r1)
    refine bodyPost_ret (v := .agg #[.bool _, .slice (some ⟨b3, o3, none⟩) ds.length c3]) (by simp [results, Tryz.results34, go_sem, q0, q1]; rfl) rfl ?_
    exact sum_end hI4 (by simp at hn3; omega) hds4.out (by simp; omega) (by first | rfl | (rw [Bool.eq_iff_iff]; simp; omega)) (hwW.trans (hB4.2.2.2.2.mono (by omega))) (by omega)
  · have hca : val ys ≤ val xs ∨ val xs < val ys := by omega
    have HCA := Lib.hid hca
    clear hca
    go_enter Tryz.func34, Tryz.ntmps34
    obtain ⟨W, hW, hN, hwW, hB0, hR0⟩ := box_new w (.bool false) (.slice (some ⟨b, o, none⟩) xs.length c) (.bool true) (.slice (some ⟨b', o', none⟩) ys.length c')
    go_wp2_with fail
    rw [← hW]
    clear hW
    have hsz := Lib.hid hN
    have HR := Lib.hid hR0
    have HB := Lib.hid hB0
    obtain ⟨hk1, hk2, hk3, hk4, hk5⟩ := hB0
    clear hR0 hN
    have hIa : Ints W.heap.size W (.slice (some ⟨b, o, none⟩) xs.length c) xs := ha.below hwW hwW.size
    have hIb : Ints W.heap.size W (.slice (some ⟨b', o', none⟩) ys.length c') ys := hb0.below hwW hwW.size
    refine (order_any _ _ xs ys W hIa hIb hxc hyc (by omega)).mono ?_
    rintro e w5 ⟨rfl, hb5⟩
    have hw5 := hwW.trans (hb5.mono hwW.size)
    have hB5 := boxS_next HB.out (by have := hsz.out; omega) hb5
    have HB5 := Lib.hid hB5
    clear hk1 hk2 hk3 hk4 hk5
    obtain ⟨hk1, hk2, hk3, hk4, hk5⟩ := hB5
    have HBd : Hid (BoxS w.heap.size W w5.drew (.bool false) (.slice (some ⟨b, o, none⟩) xs.length c) (.bool true) (.slice (some ⟨b', o', none⟩) ys.length c')) := Lib.hid (boxS_next HB5.out (by have := hsz.out; omega) ((Below.refl _ _).drew))
    clear hIa hIb
    have hIa : Ints w5.drew.heap.size w5.drew (.slice (some ⟨b, o, none⟩) xs.length c) xs := ha.below hw5.drew hw5.size
    have hIb : Ints w5.drew.heap.size w5.drew (.slice (some ⟨b', o', none⟩) ys.length c') ys := hb0.below hw5.drew hw5.size
    rcases HCA.out with hle | hlt
    · have hpos : 0 ≤ ordZ (val xs) (val ys) := by unfold ordZ; repeat' split <;> omega
      have hll := len_le hyc hxc.1 hle
      have HLE := Lib.hid hle
      clear hle
      go_wp2_with fail
      go_region_held3 (fun w' => w'.cell? ⟨w.heap.size, 0, none⟩ = some (.bool false) ∧ w'.cell? ⟨w.heap.size, 1, none⟩ = some (.slice (some ⟨b, o, none⟩) xs.length c) ∧ w'.cell? ⟨w.heap.size + 1, 0, none⟩ = some (.bool true) ∧ w'.cell? ⟨w.heap.size + 1, 1, none⟩ = some (.slice (some ⟨b', o', none⟩) ys.length c'))
        (first | exact ⟨hk1, hk2, hk3, hk4⟩ | exact ⟨hB4.1, hB4.2.1, hB4.2.2.1, hB4.2.2.2.1⟩ | exact ⟨hB3.1, hB3.2.1, hB3.2.2.1, hB3.2.2.2.1⟩ | (refine ⟨?_, ?_, ?_, ?_⟩ <;> (rw [World.cell?_setCell_other _ _ _ _ (by intro e; have e1 := congrArg Addr.block e; simp at e1; try omega), World.cell?_setCell_other _ _ _ _ (by intro e; have e1 := congrArg Addr.block e; simp at e1; try omega)]; first | exact hB4.1 | exact hB4.2.1 | exact hB4.2.2.1 | exact hB4.2.2.2.1)) | go_keep)
        (first | (go_at_call 65; refine (minus_any _ _ xs ys w5.drew hIa hIb hxc.1 hyc.1 (by omega) hll HLE.out).mono ?_; rintro e wy ⟨b3, o3, c3, zs, rfl, hI3, hP3, hb3, hn3⟩; have hB3 := boxS_next HBd.out (by have := hsz.out; omega) hb3) | (go_at_call 41; refine (trimmed_any false b3 o3 c3 zs wy hI3 hP3.out.1 (by have := hP3.out.2.2; omega)).mono ?_; rintro e wz ⟨ds, rfl, hI4, hds4, hb4⟩; have hB4 := boxS_next hB3 (by have := hsz.out; omega) hb4; have hr0 := (hB4.2.2.2.2.cell (p := ⟨w.heap.size + 1 + 1, 0, none⟩) (by simp)).trans HR.out.1; have hr1 := (hB4.2.2.2.2.cell (p := ⟨w.heap.size + 1 + 1, 1, none⟩) (by simp)).trans HR.out.2.1; have hf0 := (hB4.2.2.2.2.frozen (p := ⟨w.heap.size + 1 + 1, 0, none⟩) (by simp)).trans HR.out.2.2.1; have hf1 := (hB4.2.2.2.2.frozen (p := ⟨w.heap.size + 1 + 1, 1, none⟩) (by simp)).trans HR.out.2.2.2))
      go_wp2
      have hz := hP3.out.2.1
      have hsa := HSA.out
      have hsb := HSB.out
      have hx0 := HX0.out
      have hy0 := HY0.out
      have hsz1 := hsz.out
      have hs3 := hB3.2.2.2.2.size
      have hW0 := hk5.size
      have r0 := (hB4.2.2.2.2.cell (p := ⟨w.heap.size + 1 + 1, 0, none⟩) (by simp)).trans HR.out.1
      have r1 := (hB4.2.2.2.2.cell (p := ⟨w.heap.size + 1 + 1, 1, none⟩) (by simp)).trans HR.out.2.1
      have q0 := fun u => World.cell?_setCell_same wz ⟨w.heap.size + 1 + 1, 0, none⟩ u r0
      have q1 := fun u v => World.cell?_setCell_same (wz.setCell ⟨w.heap.size + 1 + 1, 0, none⟩ u) ⟨w.heap.size + 1 + 1, 1, none⟩ v ((World.cell?_setCell_other _ _ _ _ (by simp)).trans r1)
      refine bodyPost_ret (v := .agg #[.bool _, .slice (some ⟨b3, o3, none⟩) ds.length c3]) (by simp [results, Tryz.results34, go_sem, q0, q1]; rfl) rfl ?_
      exact sum_end hI4 (by simp at hn3; omega) hds4.out (by simp; omega) (by first | rfl | (rw [Bool.eq_iff_iff]; simp; omega)) (hwW.trans (hB4.2.2.2.2.mono (by omega))) (by omega)
    · have hneg : ordZ (val xs) (val ys) < 0 := by rw [ordZ_lt hlt]; omega
      have hll := len_le hxc hyc.1 (Int.le_of_lt hlt)
      have HLE := Lib.hid hlt
      clear hlt
      go_wp2_with fail
      go_region_held3 (fun w' => w'.cell? ⟨w.heap.size, 0, none⟩ = some (.bool false) ∧ w'.cell? ⟨w.heap.size, 1, none⟩ = some (.slice (some ⟨b, o, none⟩) xs.length c) ∧ w'.cell? ⟨w.heap.size + 1, 0, none⟩ = some (.bool true) ∧ w'.cell? ⟨w.heap.size + 1, 1, none⟩ = some (.slice (some ⟨b', o', none⟩) ys.length c'))
        (first | exact ⟨hk1, hk2, hk3, hk4⟩ | exact ⟨hB4.1, hB4.2.1, hB4.2.2.1, hB4.2.2.2.1⟩ | exact ⟨hB3.1, hB3.2.1, hB3.2.2.1, hB3.2.2.2.1⟩ | (refine ⟨?_, ?_, ?_, ?_⟩ <;> (rw [World.cell?_setCell_other _ _ _ _ (by intro e; have e1 := congrArg Addr.block e; simp at e1; try omega), World.cell?_setCell_other _ _ _ _ (by intro e; have e1 := congrArg Addr.block e; simp at e1; try omega)]; first | exact hB4.1 | exact hB4.2.1 | exact hB4.2.2.1 | exact hB4.2.2.2.1)) | go_keep)
        (first | (go_at_call 65; refine (minus_any _ _ ys xs w5.drew hIb hIa hyc.1 hxc.1 (by omega) hll (Int.le_of_lt HLE.out)).mono ?_; rintro e wy ⟨b3, o3, c3, zs, rfl, hI3, hP3, hb3, hn3⟩; have hB3 := boxS_next HBd.out (by have := hsz.out; omega) hb3) | (go_at_call 41; refine (trimmed_any true b3 o3 c3 zs wy hI3 hP3.out.1 (by have := hP3.out.2.2; omega)).mono ?_; rintro e wz ⟨ds, rfl, hI4, hds4, hb4⟩; have hB4 := boxS_next hB3 (by have := hsz.out; omega) hb4; have hr0 := (hB4.2.2.2.2.cell (p := ⟨w.heap.size + 1 + 1, 0, none⟩) (by simp)).trans HR.out.1; have hr1 := (hB4.2.2.2.2.cell (p := ⟨w.heap.size + 1 + 1, 1, none⟩) (by simp)).trans HR.out.2.1; have hf0 := (hB4.2.2.2.2.frozen (p := ⟨w.heap.size + 1 + 1, 0, none⟩) (by simp)).trans HR.out.2.2.1; have hf1 := (hB4.2.2.2.2.frozen (p := ⟨w.heap.size + 1 + 1, 1, none⟩) (by simp)).trans HR.out.2.2.2))
      go_wp2
      have hz := hP3.out.2.1
      have hlt := HLE.out
      have hsa := HSA.out
      have hsb := HSB.out
      have hx0 := HX0.out
      have hy0 := HY0.out
      have hsz1 := hsz.out
      have hs3 := hB3.2.2.2.2.size
      have hW0 := hk5.size
      have r0 := (hB4.2.2.2.2.cell (p := ⟨w.heap.size + 1 + 1, 0, none⟩) (by simp)).trans HR.out.1
      have r1 := (hB4.2.2.2.2.cell (p := ⟨w.heap.size + 1 + 1, 1, none⟩) (by simp)).trans HR.out.2.1
      have q0 := fun u => World.cell?_setCell_same wz ⟨w.heap.size + 1 + 1, 0, none⟩ u r0
      have q1 := fun u v => World.cell?_setCell_same (wz.setCell ⟨w.heap.size + 1 + 1, 0, none⟩ u) ⟨w.heap.size + 1 + 1, 1, none⟩ v ((World.cell?_setCell_other _ _ _ _ (by simp)).trans r1)
      refine bodyPost_ret (v := .agg #[.bool _, .slice (some ⟨b3, o3, none⟩) ds.length c3]) (by simp [results, Tryz.results34, go_sem, q0, q1]; rfl) rfl ?_
      exact sum_end hI4 (by simp at hn3; omega) hds4.out (by simp; omega) (by first | rfl | (rw [Bool.eq_iff_iff]; simp; omega)) (hwW.trans (hB4.2.2.2.2.mono (by omega))) (by omega)
  · have hca : val ys ≤ val xs ∨ val xs < val ys := by omega
    have HCA := Lib.hid hca
    clear hca
    go_enter Tryz.func34, Tryz.ntmps34
    obtain ⟨W, hW, hN, hwW, hB0, hR0⟩ := box_new w (.bool true) (.slice (some ⟨b, o, none⟩) xs.length c) (.bool false) (.slice (some ⟨b', o', none⟩) ys.length c')
    go_wp2_with fail
    rw [← hW]
    clear hW
    have hsz := Lib.hid hN
    have HR := Lib.hid hR0
    have HB := Lib.hid hB0
    obtain ⟨hk1, hk2, hk3, hk4, hk5⟩ := hB0
    clear hR0 hN
    have hIa : Ints W.heap.size W (.slice (some ⟨b, o, none⟩) xs.length c) xs := ha.below hwW hwW.size
    have hIb : Ints W.heap.size W (.slice (some ⟨b', o', none⟩) ys.length c') ys := hb0.below hwW hwW.size
    refine (order_any _ _ xs ys W hIa hIb hxc hyc (by omega)).mono ?_
    rintro e w5 ⟨rfl, hb5⟩
    have hw5 := hwW.trans (hb5.mono hwW.size)
    have hB5 := boxS_next HB.out (by have := hsz.out; omega) hb5
    have HB5 := Lib.hid hB5
    clear hk1 hk2 hk3 hk4 hk5
    obtain ⟨hk1, hk2, hk3, hk4, hk5⟩ := hB5
    have HBd : Hid (BoxS w.heap.size W w5.drew (.bool true) (.slice (some ⟨b, o, none⟩) xs.length c) (.bool false) (.slice (some ⟨b', o', none⟩) ys.length c')) := Lib.hid (boxS_next HB5.out (by have := hsz.out; omega) ((Below.refl _ _).drew))
    clear hIa hIb
    have hIa : Ints w5.drew.heap.size w5.drew (.slice (some ⟨b, o, none⟩) xs.length c) xs := ha.below hw5.drew hw5.size
    have hIb : Ints w5.drew.heap.size w5.drew (.slice (some ⟨b', o', none⟩) ys.length c') ys := hb0.below hw5.drew hw5.size
    rcases HCA.out with hle | hlt
    · have hpos : 0 ≤ ordZ (val xs) (val ys) := by unfold ordZ; repeat' split <;> omega
      have hll := len_le hyc hxc.1 hle
      have HLE := Lib.hid hle
      clear hle
      go_wp2_with fail
      go_region_held3 (fun w' => w'.cell? ⟨w.heap.size, 0, none⟩ = some (.bool true) ∧ w'.cell? ⟨w.heap.size, 1, none⟩ = some (.slice (some ⟨b, o, none⟩) xs.length c) ∧ w'.cell? ⟨w.heap.size + 1, 0, none⟩ = some (.bool false) ∧ w'.cell? ⟨w.heap.size + 1, 1, none⟩ = some (.slice (some ⟨b', o', none⟩) ys.length c'))
        (first | exact ⟨hk1, hk2, hk3, hk4⟩ | exact ⟨hB4.1, hB4.2.1, hB4.2.2.1, hB4.2.2.2.1⟩ | exact ⟨hB3.1, hB3.2.1, hB3.2.2.1, hB3.2.2.2.1⟩ | (refine ⟨?_, ?_, ?_, ?_⟩ <;> (rw [World.cell?_setCell_other _ _ _ _ (by intro e; have e1 := congrArg Addr.block e; simp at e1; try omega), World.cell?_setCell_other _ _ _ _ (by intro e; have e1 := congrArg Addr.block e; simp at e1; try omega)]; first | exact hB4.1 | exact hB4.2.1 | exact hB4.2.2.1 | exact hB4.2.2.2.1)) | go_keep)
        (first | (go_at_call 65; refine (minus_any _ _ xs ys w5.drew hIa hIb hxc.1 hyc.1 (by omega) hll HLE.out).mono ?_; rintro e wy ⟨b3, o3, c3, zs, rfl, hI3, hP3, hb3, hn3⟩; have hB3 := boxS_next HBd.out (by have := hsz.out; omega) hb3) | (go_at_call 41; refine (trimmed_any true b3 o3 c3 zs wy hI3 hP3.out.1 (by have := hP3.out.2.2; omega)).mono ?_; rintro e wz ⟨ds, rfl, hI4, hds4, hb4⟩; have hB4 := boxS_next hB3 (by have := hsz.out; omega) hb4; have hr0 := (hB4.2.2.2.2.cell (p := ⟨w.heap.size + 1 + 1, 0, none⟩) (by simp)).trans HR.out.1; have hr1 := (hB4.2.2.2.2.cell (p := ⟨w.heap.size + 1 + 1, 1, none⟩) (by simp)).trans HR.out.2.1; have hf0 := (hB4.2.2.2.2.frozen (p := ⟨w.heap.size + 1 + 1, 0, none⟩) (by simp)).trans HR.out.2.2.1; have hf1 := (hB4.2.2.2.2.frozen (p := ⟨w.heap.size + 1 + 1, 1, none⟩) (by simp)).trans HR.out.2.2.2))
      go_wp2
      have hz := hP3.out.2.1
      have hsa := HSA.out
      have hsb := HSB.out
      have hx0 := HX0.out
      have hy0 := HY0.out
      have hsz1 := hsz.out
      have hs3 := hB3.2.2.2.2.size
      have hW0 := hk5.size
      have r0 := (hB4.2.2.2.2.cell (p := ⟨w.heap.size + 1 + 1, 0, none⟩) (by simp)).trans HR.out.1
      have r1 := (hB4.2.2.2.2.cell (p := ⟨w.heap.size + 1 + 1, 1, none⟩) (by simp)).trans HR.out.2.1
      have q0 := fun u => World.cell?_setCell_same wz ⟨w.heap.size + 1 + 1, 0, none⟩ u r0
      have q1 := fun u v => World.cell?_setCell_same (wz.setCell ⟨w.heap.size + 1 + 1, 0, none⟩ u) ⟨w.heap.size + 1 + 1, 1, none⟩ v ((World.cell?_setCell_other _ _ _ _ (by simp)).trans r1)
      refine bodyPost_ret (v := .agg #[.bool _, .slice (some ⟨b3, o3, none⟩) ds.length c3]) (by simp [results, Tryz.results34, go_sem, q0, q1]; rfl) rfl ?_
      exact sum_end hI4 (by simp at hn3; omega) hds4.out (by simp; omega) (by first | rfl | (rw [Bool.eq_iff_iff]; simp; omega)) (hwW.trans (hB4.2.2.2.2.mono (by omega))) (by omega)
    · have hneg : ordZ (val xs) (val ys) < 0 := by rw [ordZ_lt hlt]; omega
      have hll := len_le hxc hyc.1 (Int.le_of_lt hlt)
      have HLE := Lib.hid hlt
      clear hlt
      go_wp2_with fail
      go_region_held3 (fun w' => w'.cell? ⟨w.heap.size, 0, none⟩ = some (.bool true) ∧ w'.cell? ⟨w.heap.size, 1, none⟩ = some (.slice (some ⟨b, o, none⟩) xs.length c) ∧ w'.cell? ⟨w.heap.size + 1, 0, none⟩ = some (.bool false) ∧ w'.cell? ⟨w.heap.size + 1, 1, none⟩ = some (.slice (some ⟨b', o', none⟩) ys.length c'))
        (first | exact ⟨hk1, hk2, hk3, hk4⟩ | exact ⟨hB4.1, hB4.2.1, hB4.2.2.1, hB4.2.2.2.1⟩ | exact ⟨hB3.1, hB3.2.1, hB3.2.2.1, hB3.2.2.2.1⟩ | (refine ⟨?_, ?_, ?_, ?_⟩ <;> (rw [World.cell?_setCell_other _ _ _ _ (by intro e; have e1 := congrArg Addr.block e; simp at e1; try omega), World.cell?_setCell_other _ _ _ _ (by intro e; have e1 := congrArg Addr.block e; simp at e1; try omega)]; first | exact hB4.1 | exact hB4.2.1 | exact hB4.2.2.1 | exact hB4.2.2.2.1)) | go_keep)
        (first | (go_at_call 65; refine (minus_any _ _ ys xs w5.drew hIb hIa hyc.1 hxc.1 (by omega) hll (Int.le_of_lt HLE.out)).mono ?_; rintro e wy ⟨b3, o3, c3, zs, rfl, hI3, hP3, hb3, hn3⟩; have hB3 := boxS_next HBd.out (by have := hsz.out; omega) hb3) | (go_at_call 41; refine (trimmed_any false b3 o3 c3 zs wy hI3 hP3.out.1 (by have := hP3.out.2.2; omega)).mono ?_; rintro e wz ⟨ds, rfl, hI4, hds4, hb4⟩; have hB4 := boxS_next hB3 (by have := hsz.out; omega) hb4; have hr0 := (hB4.2.2.2.2.cell (p := ⟨w.heap.size + 1 + 1, 0, none⟩) (by simp)).trans HR.out.1; have hr1 := (hB4.2.2.2.2.cell (p := ⟨w.heap.size + 1 + 1, 1, none⟩) (by simp)).trans HR.out.2.1; have hf0 := (hB4.2.2.2.2.frozen (p := ⟨w.heap.size + 1 + 1, 0, none⟩) (by simp)).trans HR.out.2.2.1; have hf1 := (hB4.2.2.2.2.frozen (p := ⟨w.heap.size + 1 + 1, 1, none⟩) (by simp)).trans HR.out.2.2.2))
      go_wp2
      have hz := hP3.out.2.1
      have hlt := HLE.out
      have hsa := HSA.out
      have hsb := HSB.out
      have hx0 := HX0.out
      have hy0 := HY0.out
      have hsz1 := hsz.out
      have hs3 := hB3.2.2.2.2.size
      have hW0 := hk5.size
      have r0 := (hB4.2.2.2.2.cell (p := ⟨w.heap.size + 1 + 1, 0, none⟩) (by simp)).trans HR.out.1
      have r1 := (hB4.2.2.2.2.cell (p := ⟨w.heap.size + 1 + 1, 1, none⟩) (by simp)).trans HR.out.2.1
      have q0 := fun u => World.cell?_setCell_same wz ⟨w.heap.size + 1 + 1, 0, none⟩ u r0
      have q1 := fun u v => World.cell?_setCell_same (wz.setCell ⟨w.heap.size + 1 + 1, 0, none⟩ u) ⟨w.heap.size + 1 + 1, 1, none⟩ v ((World.cell?_setCell_other _ _ _ _ (by simp)).trans r1)
      refine bodyPost_ret (v := .agg #[.bool _, .slice (some ⟨b3, o3, none⟩) ds.length c3]) (by simp [results, Tryz.results34, go_sem, q0, q1]; rfl) rfl ?_
      exact sum_end hI4 (by simp at hn3; omega) hds4.out (by simp; omega) (by first | rfl | (rw [Bool.eq_iff_iff]; simp; omega)) (hwW.trans (hB4.2.2.2.2.mono (by omega))) (by omega)
  · go_enter Tryz.func34, Tryz.ntmps34
    obtain ⟨W, hW, hN, hwW, hB0, hR0⟩ := box_new w (.bool true) (.slice (some ⟨b, o, none⟩) xs.length c) (.bool true) (.slice (some ⟨b', o', none⟩) ys.length c')
    go_wp2_with fail
    rw [← hW]
    clear hW
    have hsz := Lib.hid hN
    have HR := Lib.hid hR0
    have HB := Lib.hid hB0
    obtain ⟨hk1, hk2, hk3, hk4, hk5⟩ := hB0
    clear hR0 hN
    have HBd : Hid (BoxS w.heap.size W W.drew (.bool true) (.slice (some ⟨b, o, none⟩) xs.length c) (.bool true) (.slice (some ⟨b', o', none⟩) ys.length c')) := Lib.hid (boxS_next HB.out (by have := hsz.out; omega) ((Below.refl _ _).drew))
    have hIa : Ints W.drew.heap.size W.drew (.slice (some ⟨b, o, none⟩) xs.length c) xs := ha.below hwW.drew hwW.size
    have hIb : Ints W.drew.heap.size W.drew (.slice (some ⟨b', o', none⟩) ys.length c') ys := hb0.below hwW.drew hwW.size
    go_region_held3 (fun w' => w'.cell? ⟨w.heap.size, 0, none⟩ = some (.bool true) ∧ w'.cell? ⟨w.heap.size, 1, none⟩ = some (.slice (some ⟨b, o, none⟩) xs.length c) ∧ w'.cell? ⟨w.heap.size + 1, 0, none⟩ = some (.bool true) ∧ w'.cell? ⟨w.heap.size + 1, 1, none⟩ = some (.slice (some ⟨b', o', none⟩) ys.length c'))
      (first | exact ⟨hk1, hk2, hk3, hk4⟩ | exact ⟨hB4.1, hB4.2.1, hB4.2.2.1, hB4.2.2.2.1⟩ | exact ⟨hB3.1, hB3.2.1, hB3.2.2.1, hB3.2.2.2.1⟩ | (refine ⟨?_, ?_, ?_, ?_⟩ <;> (rw [World.cell?_setCell_other _ _ _ _ (by intro e; have e1 := congrArg Addr.block e; simp at e1; try omega), World.cell?_setCell_other _ _ _ _ (by intro e; have e1 := congrArg Addr.block e; simp at e1; try omega)]; first | exact hB4.1 | exact hB4.2.1 | exact hB4.2.2.1 | exact hB4.2.2.2.1)) | go_keep)
      (first | (go_at_call 52; refine (plus_any _ _ xs ys W.drew hIa hIb hxc.1 hyc.1 (by omega) (by omega)).mono ?_; rintro e wy ⟨b3, o3, c3, zs, rfl, hI3, hP3, hb3, hn3⟩; have hB3 := boxS_next HBd.out (by have := hsz.out; omega) hb3) | (go_at_call 41; refine (trimmed_any true b3 o3 c3 zs wy hI3 hP3.out.1 (by have := hP3.out.2.2; omega)).mono ?_; rintro e wz ⟨ds, rfl, hI4, hds4, hb4⟩; have hB4 := boxS_next hB3 (by have := hsz.out; omega) hb4; have hr0 := (hB4.2.2.2.2.cell (p := ⟨w.heap.size + 1 + 1, 0, none⟩) (by simp)).trans HR.out.1; have hr1 := (hB4.2.2.2.2.cell (p := ⟨w.heap.size + 1 + 1, 1, none⟩) (by simp)).trans HR.out.2.1; have hf0 := (hB4.2.2.2.2.frozen (p := ⟨w.heap.size + 1 + 1, 0, none⟩) (by simp)).trans HR.out.2.2.1; have hf1 := (hB4.2.2.2.2.frozen (p := ⟨w.heap.size + 1 + 1, 1, none⟩) (by simp)).trans HR.out.2.2.2))
    go_wp2
    have hz := hP3.out.2.1
    have hsa := HSA.out
    have hsb := HSB.out
    have hx0 := HX0.out
    have hy0 := HY0.out
    have hsz1 := hsz.out
    have hs3 := hB3.2.2.2.2.size
    have hW0 := hwW.size
    have r0 := (hB4.2.2.2.2.cell (p := ⟨w.heap.size + 1 + 1, 0, none⟩) (by simp)).trans HR.out.1
    have r1 := (hB4.2.2.2.2.cell (p := ⟨w.heap.size + 1 + 1, 1, none⟩) (by simp)).trans HR.out.2.1
    have q0 := fun u => World.cell?_setCell_same wz ⟨w.heap.size + 1 + 1, 0, none⟩ u r0
    have q1 := fun u v => World.cell?_setCell_same (wz.setCell ⟨w.heap.size + 1 + 1, 0, none⟩ u) ⟨w.heap.size + 1 + 1, 1, none⟩ v ((World.cell?_setCell_other _ _ _ _ (by simp)).trans r1)
    refine bodyPost_ret (v := .agg #[.bool _, .slice (some ⟨b3, o3, none⟩) ds.length c3]) (by simp [results, Tryz.results34, go_sem, q0, q1]; rfl) rfl ?_
    exact sum_end hI4 (by simp at hn3; omega) hds4.out (by simp; omega) (by first | rfl | (rw [Bool.eq_iff_iff]; simp; omega)) (hwW.trans (hB4.2.2.2.2.mono (by omega))) (by omega)

theorem sum_sg (b o c b' o' c' : Nat) (xs ys : List Int) (m n k : Int) (sa sb : Bool) (w : World) (ha : Ints w.heap.size w (.slice (some ⟨b, o, none⟩) xs.length c) xs) (hb0 : Ints w.heap.size w (.slice (some ⟨b', o', none⟩) ys.length c') ys)
    (hx : xs = digs m.natAbs) (hy : ys = digs n.natAbs) (hlx : xs.length ≤ 10000) (hly : ys.length ≤ 10000) (hsa : sa = decide (m < 0)) (hsb : sb = decide (n < 0)) (hk : m + n = k) :
    Calls Tryz.prog 34 #[.agg #[.bool sa, .slice (some ⟨b, o, none⟩) xs.length c], .agg #[.bool sb, .slice (some ⟨b', o', none⟩) ys.length c']] w (OutZ w k) := by
  subst hk
  refine sum_gen b o c b' o' c' xs ys sa sb m n w ha hb0 (by rw [hx]; exact canon_digs _) (by rw [hy]; exact canon_digs _) ?_ ?_ hlx hly
  · rw [hx, val_digs, hsa]
    by_cases h : m < 0 <;> simp [h] <;> omega
  · rw [hy, val_digs, hsb]
    by_cases h : n < 0 <;> simp [h] <;> omega

theorem sum_any (b o c b' o' c' : Nat) (xs ys : List Int) (m n : Int) (w : World) (ha : Ints w.heap.size w (.slice (some ⟨b, o, none⟩) xs.length c) xs) (hb0 : Ints w.heap.size w (.slice (some ⟨b', o', none⟩) ys.length c') ys)
    (hx : xs = digs m.natAbs) (hy : ys = digs n.natAbs) (hlx : xs.length ≤ 10000) (hly : ys.length ≤ 10000) :
    Calls Tryz.prog 34 #[.agg #[.bool (decide (m < 0)), .slice (some ⟨b, o, none⟩) xs.length c], .agg #[.bool (decide (n < 0)), .slice (some ⟨b', o', none⟩) ys.length c']] w (OutZ w (m + n)) :=
  sum_sg b o c b' o' c' xs ys m n (m + n) _ _ w ha hb0 hx hy hlx hly rfl rfl rfl

end Go.Proofs.YtebejllehbpahaaGreatDoor

/- The reference's sum and negation of numbers. -/
namespace Go.Proofs.YtebejllehbpahaaGreatDoor
open Go.RowKit Go.Proofs.ArM

set_option maxHeartbeats 1600000 in
set_option maxRecDepth 100000 in
theorem add_any (s t : ByteArray) (w : World) (hs : s.size ≤ 1000000) (ht : t.size ≤ 1000000) :
    Calls Tryz.prog 12 #[.string s, .string t] w (OutT w (addR s.data.toList t.data.toList)) := by
  have c0 := two_any s t w hs ht
  cases hv : validB s.data.toList && validB t.data.toList
  · rw [hv] at c0
    have hr := Lib.hid (show addR s.data.toList t.data.toList = ([], 2) from by rw [addR, hv]; rfl)
    have C0 := Lib.hid c0
    clear hv c0
    go_enter Tryz.func12, Tryz.ntmps12
    go_wp2_with (go_at_call 32; refine C0.out.mono ?_; rintro e w1 ⟨rfl, hb1⟩)
    go_ret2
    exact outT_of (by rw [hr.out]) (by rw [hr.out]) hb1
  · rw [hv] at c0
    have hr := Lib.hid (show addR s.data.toList t.data.toList = resB (numOf s.data.toList + numOf t.data.toList) from by rw [addR, hv]; rfl)
    have C0 := Lib.hid c0
    rw [Bool.and_eq_true] at hv
    have ls := num_len hv.1
    have lt := num_len hv.2
    have lst := sum_len ls lt
    have V := Lib.hid hv
    clear hv c0
    generalize hm : numOf s.data.toList = m at *
    generalize hn : numOf t.data.toList = n at *
    have HM := Lib.hid hm
    have HN := Lib.hid hn
    clear hm hn
    go_enter Tryz.func12, Tryz.ntmps12
    go_wp2_with fail
    refine C0.out.mono ?_
    rintro e w1 ⟨rfl, hb1⟩
    go_wp2_with fail
    refine (of_any s w1 V.out.1).mono ?_
    rintro e w2 ⟨b2, o2, c2, d2, rfl, hI2, hd2, hb2⟩
    rw [HM.out] at hd2 ⊢
    go_wp2_with fail
    refine (of_any t w2 V.out.2).mono ?_
    rintro e w3 ⟨b3, o3, c3, d3, rfl, hI3, hd3, hb3⟩
    rw [HN.out] at hd3 ⊢
    have hI2' := hI2.later hb3
    have l2 : d2.length ≤ 500 := by rw [hd2.out]; exact ls
    have l3 : d3.length ≤ 500 := by rw [hd3.out]; exact lt
    go_wp2_with fail
    refine (sum_any b2 o2 c2 b3 o3 c3 d2 d3 m n w3 hI2' hI3 hd2.out hd3.out (by omega) (by omega)).mono ?_
    rintro e w4 ⟨b4, o4, c4, d4, rfl, hI4, hd4, hb4⟩
    go_wp2_with fail
    refine (result_any b4 o4 c4 d4 (m + n) _ w4 hI4 hd4.out (by rw [hd4.out]; omega) rfl).mono ?_
    rintro e w5 ⟨rfl, hb5⟩
    have hb := hb1.trans ((hb2.mono hb1.size).trans ((hb3.mono (Nat.le_trans hb1.size hb2.size)).trans ((hb4.mono (Nat.le_trans hb1.size (Nat.le_trans hb2.size hb3.size))).trans (hb5.mono (Nat.le_trans hb1.size (Nat.le_trans hb2.size (Nat.le_trans hb3.size hb4.size)))))))
    go_wp2
    go_ret2
    exact outT_of (by rw [hr.out]) (by rw [hr.out]) hb

set_option maxHeartbeats 1600000 in
set_option maxRecDepth 100000 in
theorem neg_any (s : ByteArray) (w : World) (hs : s.size ≤ 1000000) :
    Calls Tryz.prog 16 #[.string s] w (OutT w (negR s.data.toList)) := by
  have c0 := valid_any s w (by omega)
  cases hv : validB s.data.toList
  · rw [hv] at c0
    have hr := Lib.hid (show negR s.data.toList = ([], 2) from by rw [negR, hv]; rfl)
    have C0 := Lib.hid c0
    clear hv c0
    go_enter Tryz.func16, Tryz.ntmps16
    go_wp2_with (go_at_call 10; refine C0.out.mono ?_; rintro e w1 ⟨rfl, hb1⟩)
    go_ret2
    exact outT_of (by rw [hr.out]) (by rw [hr.out]) hb1
  · rw [hv] at c0
    have hr := Lib.hid (show negR s.data.toList = resB (-numOf s.data.toList) from by rw [negR, hv]; rfl)
    have C0 := Lib.hid c0
    have ls := num_len hv
    have V := Lib.hid hv
    clear hv c0
    generalize hm : numOf s.data.toList = m at *
    have HM := Lib.hid hm
    clear hm
    go_enter Tryz.func16, Tryz.ntmps16
    go_wp2_with fail
    refine C0.out.mono ?_
    rintro e w1 ⟨rfl, hb1⟩
    go_wp2_with fail
    refine (of_any s w1 V.out).mono ?_
    rintro e w2 ⟨b2, o2, c2, d2, rfl, hI2, hd2, hb2⟩
    rw [HM.out] at hd2 ⊢
    obtain ⟨sg, hsg⟩ : ∃ sg, sg = decide (m < 0) := ⟨_, rfl⟩
    rw [← hsg]
    have HSG := Lib.hid hsg
    clear hsg
    have l2 : d2.length ≤ 500 := by rw [hd2.out]; exact ls
    have hbox := cells2 (W := w2.alloc (.cells #[.bool sg, .slice (some ⟨b2, o2, none⟩) d2.length c2] 54)) (heap_alloc_new w2 _)
    have hI2b := hI2.later ((Below.refl _ _).alloc (Nat.le_refl _) (.cells #[.bool sg, .slice (some ⟨b2, o2, none⟩) d2.length c2] 54))
    go_wp2_with fail
    refine (trimmed_any (!sg) b2 o2 c2 d2 _ hI2b (by rw [hd2.out]; exact (canon_digs _).1) (by omega)).mono ?_
    rintro e w3 ⟨d3, rfl, hI3, hd3, hb3⟩
    have hval : (if (!sg) = true then -val d2 else val d2) = -m := by
      rw [hd2.out, val_digs, HSG.out]
      by_cases hm : m < 0
      · simp [hm]; omega
      · simp [hm]; omega
    rw [hval] at hd3 ⊢
    obtain ⟨s3, hs3⟩ : ∃ s3, s3 = decide (-m < 0) := ⟨_, rfl⟩
    rw [← hs3]
    have HS3 := Lib.hid hs3
    clear hs3
    go_wp2_with fail
    refine (result_any b2 o2 c2 d3 (-m) s3 w3 hI3 hd3.out (by rw [hd3.out, Int.natAbs_neg]; omega) HS3.out).mono ?_
    rintro e w4 ⟨rfl, hb4⟩
    have hb23 := (Below.refl w2.heap.size w2).alloc (Nat.le_refl _) (.cells #[.bool sg, .slice (some ⟨b2, o2, none⟩) d2.length c2] 54)
    have hb3' := hb23.trans (hb3.mono (by simp))
    have hb4' := hb3'.trans (hb4.mono hb3'.size)
    have hb := hb1.trans ((hb2.mono hb1.size).trans (hb4'.mono (Nat.le_trans hb1.size hb2.size)))
    go_wp2
    go_ret2
    exact outT_of (by rw [hr.out]) (by rw [hr.out]) hb

end Go.Proofs.YtebejllehbpahaaGreatDoor

/- The reference's difference of numbers. -/
namespace Go.Proofs.YtebejllehbpahaaGreatDoor
open Go.RowKit Go.Proofs.ArM

set_option maxHeartbeats 3200000 in
set_option maxRecDepth 100000 in
theorem sub_any (s t : ByteArray) (w : World) (hs : s.size ≤ 1000000) (ht : t.size ≤ 1000000) :
    Calls Tryz.prog 14 #[.string s, .string t] w (OutT w (subR s.data.toList t.data.toList)) := by
  have c0 := two_any s t w hs ht
  cases hv : validB s.data.toList && validB t.data.toList
  · rw [hv] at c0
    have hr := Lib.hid (show subR s.data.toList t.data.toList = ([], 2) from by rw [subR, hv]; rfl)
    have C0 := Lib.hid c0
    clear hv c0
    go_enter Tryz.func14, Tryz.ntmps14
    go_wp2_with (go_at_call 32; refine C0.out.mono ?_; rintro e w1 ⟨rfl, hb1⟩)
    go_ret2
    exact outT_of (by rw [hr.out]) (by rw [hr.out]) hb1
  · rw [hv] at c0
    have hr := Lib.hid (show subR s.data.toList t.data.toList = resB (numOf s.data.toList - numOf t.data.toList) from by rw [subR, hv]; rfl)
    have C0 := Lib.hid c0
    rw [Bool.and_eq_true] at hv
    have ls := num_len hv.1
    have lt := num_len hv.2
    have lst := sum_len (m := numOf s.data.toList) (n := -numOf t.data.toList) ls (by rw [Int.natAbs_neg]; exact lt)
    rw [← Int.sub_eq_add_neg] at lst
    have V := Lib.hid hv
    clear hv c0
    generalize hm : numOf s.data.toList = m at *
    generalize hn : numOf t.data.toList = n at *
    have HM := Lib.hid hm
    have HN := Lib.hid hn
    clear hm hn
    go_enter Tryz.func14, Tryz.ntmps14
    go_wp2_with fail
    refine C0.out.mono ?_
    rintro e w1 ⟨rfl, hb1⟩
    go_wp2_with fail
    refine (of_any t w1 V.out.2).mono ?_
    rintro e w2 ⟨b2, o2, c2, d2, rfl, hI2, hd2, hb2⟩
    rw [HN.out] at hd2 ⊢
    obtain ⟨sg, hsg⟩ : ∃ sg, sg = decide (n < 0) := ⟨_, rfl⟩
    rw [← hsg]
    have HSG := Lib.hid hsg
    clear hsg
    have l2 : d2.length ≤ 500 := by rw [hd2.out]; exact lt
    have hdd : Dig d2 := by rw [hd2.out]; exact (canon_digs _).1
    have hval : (if (!sg) = true then -val d2 else val d2) = -n := by
      rw [hd2.out, val_digs, HSG.out]
      by_cases hm : n < 0
      · simp [hm]; omega
      · simp [hm]; omega
    have HVL := Lib.hid hval
    clear hval
    go_wp2_with fail
    obtain ⟨W, hW⟩ : ∃ W, W = w2.alloc (.cells #[.bool sg, .slice (some ⟨b2, o2, none⟩) d2.length c2] 54) := ⟨_, rfl⟩
    have hbW : Below w2.heap.size w2 W := by rw [hW]; exact (Below.refl _ _).alloc (Nat.le_refl _) _
    have hS0 : SubS w2.heap.size w2.heap.size w2 (.bool sg) (.slice (some ⟨b2, o2, none⟩) d2.length c2) d2 W := by
      have hbox := cells2 (W := W) (by rw [hW]; exact heap_alloc_new w2 _)
      exact ⟨hbox.1, hbox.2.1, hI2.later hbW, hbW, by rw [hW]; simp⟩
    rw [← hW]
    clear hW
    have HS0 := Lib.hid hS0
    have HSd : Hid (SubS w2.heap.size w2.heap.size w2 (.bool sg) (.slice (some ⟨b2, o2, none⟩) d2.length c2) d2 W.drew) := Lib.hid (subS_next HS0.out ((Below.refl _ _).drew) (Nat.le_refl _))
    obtain ⟨hk1, hk2, hk3, hk4, hk5⟩ := hS0
    go_region_held3 (fun w' => w'.cell? ⟨w2.heap.size, 0, none⟩ = some (.bool sg) ∧ w'.cell? ⟨w2.heap.size, 1, none⟩ = some (.slice (some ⟨b2, o2, none⟩) d2.length c2))
      (first | exact ⟨hk1, hk2⟩ | exact ⟨HR5.out.1, HR5.out.2.1⟩ | exact ⟨HR.out.1, HR.out.2.1⟩ | exact ⟨HSo.out.1, HSo.out.2.1⟩ | exact ⟨HSt.out.1, HSt.out.2.1⟩ | go_keep)
      (first
        | (go_at_call 33; first
            | (refine (of_any s wt V.out.1).mono ?_; rintro e wo ⟨b3, o3, c3, d3, rfl, hI3, hd3, hb3⟩; rw [HM.out] at hd3 ⊢; have HSo := Lib.hid (subS_next HSt.out hb3 (Nat.le_refl _)); have hIy := hIt.later hb3; have hIx := hI3)
            | (refine (of_any s W.drew V.out.1).mono ?_; rintro e wo ⟨b3, o3, c3, d3, rfl, hI3, hd3, hb3⟩; rw [HM.out] at hd3 ⊢; have HSo := Lib.hid (subS_next HSd.out hb3 (Nat.le_refl _))))
        | (go_at_call 41; first
            | (refine (trimmed_any (!sg) b2 o2 c2 d2 wo HSo.out.2.2.1 hdd (by omega)).mono ?_; rintro e wt ⟨dt, rfl, hIt, hdt, hbt⟩; rw [HVL.out] at hdt ⊢; have HSt := Lib.hid (subS_next HSo.out hbt (Nat.le_refl _)); have hIx := hI3.later hbt; have hIy := hIt)
            | (refine (trimmed_any (!sg) b2 o2 c2 d2 W.drew HSd.out.2.2.1 hdd (by omega)).mono ?_; rintro e wt ⟨dt, rfl, hIt, hdt, hbt⟩; rw [HVL.out] at hdt ⊢; have HSt := Lib.hid (subS_next HSd.out hbt (Nat.le_refl _))))
        | (go_at_call 34; refine (sum_sg b3 o3 c3 b2 o2 c2 d3 dt m (-n) (m - n) _ _ _ hIx hIy hd3.out hdt.out (by rw [hd3.out]; omega) (by rw [hdt.out, Int.natAbs_neg]; omega) (by first | rfl | (rw [Bool.eq_iff_iff]; simp; done) | (rw [Bool.eq_iff_iff]; simp; omega)) (by first | rfl | (rw [Bool.eq_iff_iff]; simp; done) | (rw [Bool.eq_iff_iff]; simp; omega)) (by omega)).mono ?_; rintro e w4 ⟨b4, o4, c4, d4, rfl, hI4, hd4, hb4⟩; first | (have HR := Lib.hid (subS_next HSt.out hb4 (Nat.le_refl _))) | (have HR := Lib.hid (subS_next HSo.out hb4 (Nat.le_refl _))))
        | (go_at_call 38; refine (result_any b4 o4 c4 d4 (m - n) _ w4 hI4 hd4.out (by rw [hd4.out]; omega) (by first | rfl | (rw [Bool.eq_iff_iff]; simp; done) | (rw [Bool.eq_iff_iff]; simp; omega))).mono ?_; rintro e w5 ⟨rfl, hb5⟩; have HR5 := Lib.hid (subS_next HR.out hb5 (Nat.le_refl _))))
    all_goals
      have hbz := hb1.trans ((hb2.mono hb1.size).trans (HR5.out.2.2.2.1.mono (Nat.le_trans hb1.size hb2.size)))
      go_wp2
      go_ret2
      exact outT_of (by rw [hr.out]) (by rw [hr.out]) hbz

end Go.Proofs.YtebejllehbpahaaGreatDoor

/- The reference's comparison of numbers. -/
namespace Go.Proofs.YtebejllehbpahaaGreatDoor
open Go.RowKit Go.Proofs.ArM

set_option maxHeartbeats 3200000 in
set_option maxRecDepth 100000 in
theorem compare_any (s t : ByteArray) (w : World) (hs : s.size ≤ 1000000) (ht : t.size ≤ 1000000) :
    Calls Tryz.prog 8 #[.string s, .string t] w (OutN w (cmpR s.data.toList t.data.toList)) := by
  have c0 := two_any s t w hs ht
  cases hv : validB s.data.toList && validB t.data.toList
  · rw [hv] at c0
    have hr := Lib.hid (show cmpR s.data.toList t.data.toList = (0, 2) from by rw [cmpR, hv]; rfl)
    have C0 := Lib.hid c0
    clear hv c0
    go_enter Tryz.func8, Tryz.ntmps8
    go_wp2_with (go_at_call 32; refine C0.out.mono ?_; rintro e w1 ⟨rfl, hb1⟩)
    go_ret2
    exact outN_of (by rw [hr.out]) (by rw [hr.out]) hb1
  · rw [hv] at c0
    have hr := Lib.hid (show cmpR s.data.toList t.data.toList = (ordZ (numOf s.data.toList) (numOf t.data.toList), 0) from by rw [cmpR, hv]; rfl)
    have C0 := Lib.hid c0
    rw [Bool.and_eq_true] at hv
    have ls := num_len hv.1
    have lt := num_len hv.2
    have V := Lib.hid hv
    clear hv c0
    generalize hm : numOf s.data.toList = m at *
    generalize hn : numOf t.data.toList = n at *
    have HM := Lib.hid hm
    have HN := Lib.hid hn
    clear hm hn
    go_enter Tryz.func8, Tryz.ntmps8
    go_wp2_with fail
    refine C0.out.mono ?_
    rintro e w1 ⟨rfl, hb1⟩
    go_wp2_with fail
    refine (of_any t w1 V.out.2).mono ?_
    rintro e w2 ⟨b2, o2, c2, d2, rfl, hI2, hd2, hb2⟩
    rw [HN.out] at hd2 ⊢
    obtain ⟨sg, hsg⟩ : ∃ sg, sg = decide (n < 0) := ⟨_, rfl⟩
    rw [← hsg]
    have HSG := Lib.hid hsg
    clear hsg
    have l2 : d2.length ≤ 500 := by rw [hd2.out]; exact lt
    have hdc : Canon d2 := by rw [hd2.out]; exact canon_digs _
    have HVL := Lib.hid (show (-n) = if (!sg) = true then -val d2 else val d2 from by
      rw [hd2.out, val_digs, HSG.out]
      by_cases hm : n < 0
      · simp [hm]; omega
      · simp [hm]; omega)
    go_wp2_with fail
    obtain ⟨W, hW⟩ : ∃ W, W = w2.alloc (.cells #[.bool (!sg), .slice (some ⟨b2, o2, none⟩) d2.length c2] 54) := ⟨_, rfl⟩
    have hbW : Below w2.heap.size w2 W := by rw [hW]; exact (Below.refl _ _).alloc (Nat.le_refl _) _
    have hS0 : SubS w2.heap.size w2.heap.size w2 (.bool (!sg)) (.slice (some ⟨b2, o2, none⟩) d2.length c2) d2 W := by
      have hbox := cells2 (W := W) (by rw [hW]; exact heap_alloc_new w2 _)
      exact ⟨hbox.1, hbox.2.1, hI2.later hbW, hbW, by rw [hW]; simp⟩
    rw [← hW]
    clear hW
    have HS0 := Lib.hid hS0
    have HSd : Hid (SubS w2.heap.size w2.heap.size w2 (.bool (!sg)) (.slice (some ⟨b2, o2, none⟩) d2.length c2) d2 W.drew) := Lib.hid (subS_next HS0.out ((Below.refl _ _).drew) (Nat.le_refl _))
    obtain ⟨hk1, hk2, hk3, hk4, hk5⟩ := hS0
    have hsW : w2.heap.size < W.heap.size := hk5
    have HSa : Hid (SubS w2.heap.size w2.heap.size w2 (.bool (!sg)) (.slice (some ⟨b2, o2, none⟩) d2.length c2) d2 (W.alloc (.cells #[.bool false, .slice none 0 0] 54)).drew) := Lib.hid (subS_next HS0.out (((Below.refl _ _).alloc (Nat.le_refl _) _).drew) (Nat.le_refl _))
    have hOn := cells2 (W := W.alloc (.cells #[.bool false, .slice none 0 0] 54)) (heap_alloc_new W _)
    have HOn := Lib.hid hOn
    clear hOn
    have HV3 : Hid (∀ d3 : List Int, d3 = digs m.natAbs → Canon d3 ∧ m = (if decide (m < 0) = true then -val d3 else val d3) ∧ d3.length ≤ 10000) := Lib.hid (fun d3 h => by
      refine ⟨by rw [h]; exact canon_digs _, ?_, by rw [h]; omega⟩
      rw [h, val_digs]
      by_cases hm : m < 0 <;> simp [hm] <;> omega)
    go_region_held3 (fun w' => w'.cell? ⟨w2.heap.size, 0, none⟩ = some (.bool (!sg)) ∧ w'.cell? ⟨w2.heap.size, 1, none⟩ = some (.slice (some ⟨b2, o2, none⟩) d2.length c2))
      (first | exact ⟨hk1, hk2⟩ | exact ⟨HSa.out.1, HSa.out.2.1⟩ | exact ⟨(subS_next HR.out ((Below.refl _ _).alloc (Nat.le_refl _) _) (Nat.le_refl _)).1, (subS_next HR.out ((Below.refl _ _).alloc (Nat.le_refl _) _) (Nat.le_refl _)).2.1⟩ | (refine ⟨?_, ?_⟩ <;> (rw [World.cell?_setCell_other _ _ _ _ (by intro e; have e1 := congrArg Addr.block e; simp at e1; omega), World.cell?_setCell_other _ _ _ _ (by intro e; have e1 := congrArg Addr.block e; simp at e1; omega)]; first | exact HR.out.1 | exact HR.out.2.1)) | exact ⟨HR.out.1, HR.out.2.1⟩ | exact ⟨(subS_next HSo.out ((Below.refl _ _).alloc (Nat.le_refl _) _) (Nat.le_refl _)).1, (subS_next HSo.out ((Below.refl _ _).alloc (Nat.le_refl _) _) (Nat.le_refl _)).2.1⟩ | exact ⟨HSo.out.1, HSo.out.2.1⟩ | go_keep)
      (first
        | (go_at_call 33; refine (of_any s _ V.out.1).mono ?_; rintro e wo ⟨b3, o3, c3, d3, rfl, hI3, hd3, hb3⟩; rw [HM.out] at hd3 ⊢; (first | (have HSo := Lib.hid (subS_next HSd.out hb3 (Nat.le_refl _))) | (have HSo := Lib.hid (subS_next HSa.out hb3 (Nat.le_refl _)); have HG := Lib.hid (show Below (W.heap.size + 1) (W.alloc (.cells #[.bool false, .slice none 0 0] 54)) wo from (((Below.refl _ _).drew).trans (hb3.mono (by simp)))))); have hso := HSo.out.2.2.2.2)
        | (go_at_call 34; first
            | (refine (sum_gen b3 o3 c3 b2 o2 c2 d3 d2 (decide (m < 0)) (!sg) m (-n) wo hI3 HSo.out.2.2.1 (HV3.out d3 hd3.out).1 hdc (HV3.out d3 hd3.out).2.1 HVL.out (HV3.out d3 hd3.out).2.2 (by omega)).mono ?_; rintro e w4 ⟨b4, o4, c4, d4, rfl, hI4, hd4, hb4⟩; have HR := Lib.hid (subS_next HSo.out hb4 (Nat.le_refl _)); try (have HG4 := HG.out.trans (hb4.mono (Nat.le_trans (by simp) HG.out.size)); have hg0 := (HG4.cell (p := ⟨W.heap.size, 0, none⟩) (by simp)).trans HOn.out.1; have hg1 := (HG4.cell (p := ⟨W.heap.size, 1, none⟩) (by simp)).trans HOn.out.2.1; have hg2 := (HG4.frozen (p := ⟨W.heap.size, 0, none⟩) (by simp)).trans HOn.out.2.2.1; have hg3 := (HG4.frozen (p := ⟨W.heap.size, 1, none⟩) (by simp)).trans HOn.out.2.2.2))
            | (refine (sum_gen b3 o3 c3 b2 o2 c2 d3 d2 (decide (m < 0)) (!sg) m (-n) (wo.alloc (.cells #[.bool false, .slice none 0 0] 54)) (hI3.later ((Below.refl _ _).alloc (Nat.le_refl _) _)) (subS_next HSo.out ((Below.refl _ _).alloc (Nat.le_refl _) _) (Nat.le_refl _)).2.2.1 (HV3.out d3 hd3.out).1 hdc (HV3.out d3 hd3.out).2.1 HVL.out (HV3.out d3 hd3.out).2.2 (by omega)).mono ?_; rintro e w4 ⟨b4, o4, c4, d4, rfl, hI4, hd4, hb4⟩; have HR := Lib.hid (subS_next (subS_next HSo.out ((Below.refl _ _).alloc (Nat.le_refl _) (.cells #[.bool false, .slice none 0 0] 54)) (Nat.le_refl _)) hb4 (Nat.le_refl _)); have hgq := cells2 (W := wo.alloc (.cells #[.bool false, .slice none 0 0] 54)) (heap_alloc_new wo _); have hg0 := (hb4.cell (p := ⟨wo.heap.size, 0, none⟩) (by simp)).trans hgq.1; have hg1 := (hb4.cell (p := ⟨wo.heap.size, 1, none⟩) (by simp)).trans hgq.2.1; have hg2 := (hb4.frozen (p := ⟨wo.heap.size, 0, none⟩) (by simp)).trans hgq.2.2.1; have hg3 := (hb4.frozen (p := ⟨wo.heap.size, 1, none⟩) (by simp)).trans hgq.2.2.2)))
    · have hbz := fun o => hb1.trans ((hb2.mono hb1.size).trans (((HR.out.2.2.2.1).alloc (Nat.le_of_lt HR.out.2.2.2.2) o).mono (Nat.le_trans hb1.size hb2.size)))
      rcases Int.lt_trichotomy m n with hlt | heq | hgt
      · have hdn : decide (m + -n < 0) = true := by simp; omega
        have hne : ¬ d4 = [] := by
          intro e
          have h1 := hd4.out
          rw [e] at h1
          have h2 := val_digs (m + -n).natAbs
          rw [← h1] at h2
          simp only [val] at h2; omega
        have hl1 : 0 < d4.length := List.length_pos_iff.2 hne
        have hl0 : ((d4.length : Int) == 0) = false := by rw [beq_eq_false_iff_ne]; omega
        have hv := Lib.hid (ordZ_lt hlt)
        clear hlt
        rw [hdn]
        go_wp2
        go_ret2
        exact outN_of (by rw [hr.out]; exact hv.out.symm) (by rw [hr.out]) (hbz _)
      · have hz : d4 = [] := by rw [hd4.out, heq]; simp [digs_zero, Int.add_right_neg]
        have hv := Lib.hid (ordZ_eq heq)
        clear heq
        subst hz
        go_wp2
        go_ret2
        exact outN_of (by rw [hr.out]; exact hv.out.symm) (by rw [hr.out]) (hbz _)
      · have hdn : decide (m + -n < 0) = false := by simp; omega
        have hne : ¬ d4 = [] := by
          intro e
          have h1 := hd4.out
          rw [e] at h1
          have h2 := val_digs (m + -n).natAbs
          rw [← h1] at h2
          simp only [val] at h2; omega
        have hl1 : 0 < d4.length := List.length_pos_iff.2 hne
        have hl0 : ((d4.length : Int) == 0) = false := by rw [beq_eq_false_iff_ne]; omega
        have hv := Lib.hid (ordZ_gt hgt)
        clear hgt
        rw [hdn]
        go_wp2
        go_ret2
        exact outN_of (by rw [hr.out]; exact hv.out.symm) (by rw [hr.out]) (hbz _)
    · have q1 := fun u v => (res_q hg0 hg1 u v).2
      have q0 := fun u v => ((World.cell?_setCell_other (w4.setCell ⟨wo.heap.size, 0, none⟩ u) ⟨wo.heap.size, 1, none⟩ ⟨wo.heap.size, 0, none⟩ v (by simp)).trans (res_q hg0 hg1 u v).1)
      have hbz := fun u v => hb1.trans ((hb2.mono hb1.size).trans ((((HR.out.2.2.2.1).setCell (p := ⟨wo.heap.size, 0, none⟩) (by simp; omega) u).setCell (p := ⟨wo.heap.size, 1, none⟩) (by simp; omega) v).mono (Nat.le_trans hb1.size hb2.size)))
      rcases Int.lt_trichotomy m n with hlt | heq | hgt
      · have hdn : decide (m + -n < 0) = true := by simp; omega
        have hne : ¬ d4 = [] := by
          intro e
          have h1 := hd4.out
          rw [e] at h1
          have h2 := val_digs (m + -n).natAbs
          rw [← h1] at h2
          simp only [val] at h2; omega
        have hl1 : 0 < d4.length := List.length_pos_iff.2 hne
        have hl0 : ((d4.length : Int) == 0) = false := by rw [beq_eq_false_iff_ne]; omega
        have hv := Lib.hid (ordZ_lt hlt)
        clear hlt
        rw [hdn]
        go_wp2
        go_ret2
        exact outN_of (by rw [hr.out]; exact hv.out.symm) (by rw [hr.out]) (hbz _ _)
      · have hz : d4 = [] := by rw [hd4.out, heq]; simp [digs_zero, Int.add_right_neg]
        have hv := Lib.hid (ordZ_eq heq)
        clear heq
        subst hz
        go_wp2
        go_ret2
        exact outN_of (by rw [hr.out]; exact hv.out.symm) (by rw [hr.out]) (hbz _ _)
      · have hdn : decide (m + -n < 0) = false := by simp; omega
        have hne : ¬ d4 = [] := by
          intro e
          have h1 := hd4.out
          rw [e] at h1
          have h2 := val_digs (m + -n).natAbs
          rw [← h1] at h2
          simp only [val] at h2; omega
        have hl1 : 0 < d4.length := List.length_pos_iff.2 hne
        have hl0 : ((d4.length : Int) == 0) = false := by rw [beq_eq_false_iff_ne]; omega
        have hv := Lib.hid (ordZ_gt hgt)
        clear hgt
        rw [hdn]
        go_wp2
        go_ret2
        exact outN_of (by rw [hr.out]; exact hv.out.symm) (by rw [hr.out]) (hbz _ _)
    · have q1 := fun u v => (res_q hg0 hg1 u v).2
      have q0 := fun u v => ((World.cell?_setCell_other (w4.setCell ⟨W.heap.size, 0, none⟩ u) ⟨W.heap.size, 1, none⟩ ⟨W.heap.size, 0, none⟩ v (by simp)).trans (res_q hg0 hg1 u v).1)
      have hbz := fun u v => hb1.trans ((hb2.mono hb1.size).trans ((((HR.out.2.2.2.1).setCell (p := ⟨W.heap.size, 0, none⟩) (by simp; omega) u).setCell (p := ⟨W.heap.size, 1, none⟩) (by simp; omega) v).mono (Nat.le_trans hb1.size hb2.size)))
      rcases Int.lt_trichotomy m n with hlt | heq | hgt
      · have hdn : decide (m + -n < 0) = true := by simp; omega
        have hne : ¬ d4 = [] := by
          intro e
          have h1 := hd4.out
          rw [e] at h1
          have h2 := val_digs (m + -n).natAbs
          rw [← h1] at h2
          simp only [val] at h2; omega
        have hl1 : 0 < d4.length := List.length_pos_iff.2 hne
        have hl0 : ((d4.length : Int) == 0) = false := by rw [beq_eq_false_iff_ne]; omega
        have hv := Lib.hid (ordZ_lt hlt)
        clear hlt
        rw [hdn]
        go_wp2
        go_ret2
        exact outN_of (by rw [hr.out]; exact hv.out.symm) (by rw [hr.out]) (hbz _ _)
      · have hz : d4 = [] := by rw [hd4.out, heq]; simp [digs_zero, Int.add_right_neg]
        have hv := Lib.hid (ordZ_eq heq)
        clear heq
        subst hz
        go_wp2
        go_ret2
        exact outN_of (by rw [hr.out]; exact hv.out.symm) (by rw [hr.out]) (hbz _ _)
      · have hdn : decide (m + -n < 0) = false := by simp; omega
        have hne : ¬ d4 = [] := by
          intro e
          have h1 := hd4.out
          rw [e] at h1
          have h2 := val_digs (m + -n).natAbs
          rw [← h1] at h2
          simp only [val] at h2; omega
        have hl1 : 0 < d4.length := List.length_pos_iff.2 hne
        have hl0 : ((d4.length : Int) == 0) = false := by rw [beq_eq_false_iff_ne]; omega
        have hv := Lib.hid (ordZ_gt hgt)
        clear hgt
        rw [hdn]
        go_wp2
        go_ret2
        exact outN_of (by rw [hr.out]; exact hv.out.symm) (by rw [hr.out]) (hbz _ _)

end Go.Proofs.YtebejllehbpahaaGreatDoor
