/- The reference: the test of a text. -/
import Derived.Test.YtebejllehbpahaaGreatDoorPa
import Derived.Lib.IndexBytes
/- The reference's test of a number's text. -/
namespace Go.Proofs.YtebejllehbpahaaGreatDoor
open Go.RowKit Go.Proofs.ArM

theorem get_data {s : ByteArray} {j : Nat} (h : j < s.size) : s[j] = s.data.toList[j]'(by simpa using h) := rfl
theorem head_data {s : ByteArray} (h : 0 < s.size) : s.data.toList.headD 0 = s[0] := by
  rw [get_data h]
  obtain ⟨⟨l⟩⟩ := s
  cases l with
  | nil => exact absurd h (Nat.lt_irrefl 0)
  | cons a l => rfl

set_option maxHeartbeats 6400000 in
set_option maxRecDepth 100000 in
theorem valid_any (s : ByteArray) (w : World) (hs : s.size ≤ 9223372036854775807) :
    Calls Tryz.prog 10 #[.string s] w (OutV w (.bool (validB s.data.toList))) := by
  by_cases h0 : 0 < s.size
  · obtain ⟨c0, hc0⟩ : ∃ c0, c0 = s[0].toNat := ⟨_, rfl⟩
    have HH := Lib.hid (show (s.data.toList.headD 0).toNat = c0 from by rw [head_data h0, hc0])
    by_cases h45 : c0 = 45
    · have e45 : ((s[0].toNat : Int) == 45) = true := by rw [← hc0, h45]; rfl
      have hv := Lib.hid (show validB s.data.toList = (!(s.data.toList.tail == [48]) && coreB s.data.toList.tail) from by rw [validB, HH.out, if_pos h45])
      have hTl := Lib.hid (show (s.extract 1 s.size).data.toList = s.data.toList.tail from by rw [Lib.extract_to_end]; simp)
      have HSZ := Lib.hid (show s.size - 1 = (s.extract 1 s.size).size from by simp)
      clear hc0 h45
      by_cases hz : ((s.extract 1 s.size).toList == [48]) = true
      · have hfin := Lib.hid (show validB s.data.toList = false from by
          rw [hv.out, ← hTl.out, ← ByteArray.toList_eq, hz]; rfl)
        go_enter Tryz.func10, Tryz.ntmps10
        go_wp2
        go_ret
        exact ⟨by rw [hfin.out]; rfl, Below.refl _ _⟩
      · have hz : ((s.extract 1 s.size).toList == [48]) = false := by simpa using hz
        have hzn := Lib.hid (show (!(s.data.toList.tail == [48])) = true from by rw [← hTl.out, ← ByteArray.toList_eq, hz]; rfl)
        by_cases hl : 1 ≤ s.size - 1 ∧ s.size - 1 ≤ 500
        · have h1 : 0 < (s.extract 1 s.size).size := by rw [← HSZ.out]; omega
          obtain ⟨c1, hc1⟩ : ∃ c1, c1 = (s.extract 1 s.size)[0].toNat := ⟨_, rfl⟩
          have HH1 := Lib.hid (show ((s.extract 1 s.size).data.toList.headD 0).toNat = c1 from by rw [head_data h1, hc1])
          by_cases h48 : c1 = 48 ∧ 1 < s.size - 1
          · have hfin := Lib.hid (show validB s.data.toList = false from by
              rw [hv.out, hzn.out, ← hTl.out, Bool.true_and]
              exact coreB_no (.inr (.inr (.inl ⟨by rw [HH1.out]; exact h48.1, by have := HSZ.out; simp; omega⟩))))
            have e48 : ((s.extract 1 s.size)[0].toNat : Int) = 48 := by rw [← hc1, h48.1]; rfl
            have hl1 : 1 < s.size - 1 := h48.2
            clear hc1
            go_enter Tryz.func10, Tryz.ntmps10
            go_wp2
            go_ret
            exact ⟨by rw [hfin.out]; rfl, Below.refl _ _⟩
          · have h48 := Lib.hid h48
            by_cases hq : c1 = 48
            · have e48 : ((s.extract 1 s.size)[0].toNat : Int) = 48 := by rw [← hc1, hq]; rfl
              have hl1 : s.size - 1 ≤ 1 := Nat.le_of_not_lt fun h => h48.out ⟨hq, h⟩
              clear hc1 hq
              go_enter Tryz.func10, Tryz.ntmps10
              go_wp2_with fail
              go_loop [3] (fun i => ∃ k : Nat, i = .int .i64 k ∧ k ≤ s.size - 1 ∧ Hid (∀ j, ∀ h : j < (s.extract 1 s.size).data.toList.length, j < k → digB ((s.extract 1 s.size).data.toList[j]) = true)) (fun i => s.size - 1 - (intOf i).toNat)
              case atStart => exact ⟨0, rfl, Nat.zero_le _, Lib.hid (fun j _ h => by omega)⟩
              case round =>
                obtain ⟨k, rfl, hk, hall⟩ := hrel
                by_cases hlt : k < s.size - 1
                · have hltT : k < (s.extract 1 s.size).size := by have h1 := HSZ.out; omega
                  obtain ⟨c, hc⟩ : ∃ c, c = (s.extract 1 s.size)[k].toNat := ⟨_, rfl⟩
                  have HCd := Lib.hid (show digB ((s.extract 1 s.size).data.toList[k]'(by simpa using hltT)) = (decide (48 ≤ c) && decide (c ≤ 57)) from by rw [hc]; rfl)
                  by_cases hd : 48 ≤ c ∧ c ≤ 57
                  · have hd1 : 48 ≤ ((s.extract 1 s.size)[k].toNat : Int) := by omega
                    have hd2 : ((s.extract 1 s.size)[k].toNat : Int) ≤ 57 := by omega
                    clear hc
                    go_wp2
                    go_round
                    case rel =>
                      refine ⟨k + 1, by go_num, by omega, Lib.hid (fun j hj hjk => ?_)⟩
                      by_cases hjk2 : j < k
                      · exact hall.out j hj hjk2
                      · obtain rfl : j = k := by omega
                        rw [HCd.out]; simp [hd.1, hd.2]
                    case measure => simp [intOf]; omega
                  · have hfin := Lib.hid (show validB s.data.toList = false from by
                      rw [hv.out, hzn.out, ← hTl.out, Bool.true_and]
                      exact coreB_no (.inr (.inr (.inr ⟨k, by simpa using hltT, by rw [HCd.out]; simp; omega⟩))))
                    by_cases hd1 : 48 ≤ c
                    · have hd2 : 57 < ((s.extract 1 s.size)[k].toNat : Int) := by omega
                      have hd3 : 48 ≤ ((s.extract 1 s.size)[k].toNat : Int) := by omega
                      clear hc
                      go_wp2
                      go_ret
                      exact ⟨by rw [hfin.out]; rfl, Below.refl _ _⟩
                    · have hd2 : ((s.extract 1 s.size)[k].toNat : Int) < 48 := by omega
                      clear hc
                      go_wp2
                      go_ret
                      exact ⟨by rw [hfin.out]; rfl, Below.refl _ _⟩
                · have hfin := Lib.hid (show validB s.data.toList = true from by
                    rw [hv.out, hzn.out, ← hTl.out, Bool.true_and]
                    exact coreB_yes (by have := HSZ.out; simp; omega) (by have := HSZ.out; simp; omega) (fun h => h48.out ⟨by rw [← HH1.out]; exact h.1, by have h1 := HSZ.out; have h2 := h.2; simp at h2; omega⟩) (fun j hj => hall.out j hj (by have h1 := HSZ.out; simp at hj; omega)))
                  go_wp2
                  go_ret
                  exact ⟨by rw [hfin.out]; rfl, Below.refl _ _⟩
            · have e48 : ¬ ((s.extract 1 s.size)[0].toNat : Int) = 48 := by rw [← hc1]; omega
              clear hc1 hq
              go_enter Tryz.func10, Tryz.ntmps10
              go_wp2_with fail
              go_loop [3] (fun i => ∃ k : Nat, i = .int .i64 k ∧ k ≤ s.size - 1 ∧ Hid (∀ j, ∀ h : j < (s.extract 1 s.size).data.toList.length, j < k → digB ((s.extract 1 s.size).data.toList[j]) = true)) (fun i => s.size - 1 - (intOf i).toNat)
              case atStart => exact ⟨0, rfl, Nat.zero_le _, Lib.hid (fun j _ h => by omega)⟩
              case round =>
                obtain ⟨k, rfl, hk, hall⟩ := hrel
                by_cases hlt : k < s.size - 1
                · have hltT : k < (s.extract 1 s.size).size := by have h1 := HSZ.out; omega
                  obtain ⟨c, hc⟩ : ∃ c, c = (s.extract 1 s.size)[k].toNat := ⟨_, rfl⟩
                  have HCd := Lib.hid (show digB ((s.extract 1 s.size).data.toList[k]'(by simpa using hltT)) = (decide (48 ≤ c) && decide (c ≤ 57)) from by rw [hc]; rfl)
                  by_cases hd : 48 ≤ c ∧ c ≤ 57
                  · have hd1 : 48 ≤ ((s.extract 1 s.size)[k].toNat : Int) := by omega
                    have hd2 : ((s.extract 1 s.size)[k].toNat : Int) ≤ 57 := by omega
                    clear hc
                    go_wp2
                    go_round
                    case rel =>
                      refine ⟨k + 1, by go_num, by omega, Lib.hid (fun j hj hjk => ?_)⟩
                      by_cases hjk2 : j < k
                      · exact hall.out j hj hjk2
                      · obtain rfl : j = k := by omega
                        rw [HCd.out]; simp [hd.1, hd.2]
                    case measure => simp [intOf]; omega
                  · have hfin := Lib.hid (show validB s.data.toList = false from by
                      rw [hv.out, hzn.out, ← hTl.out, Bool.true_and]
                      exact coreB_no (.inr (.inr (.inr ⟨k, by simpa using hltT, by rw [HCd.out]; simp; omega⟩))))
                    by_cases hd1 : 48 ≤ c
                    · have hd2 : 57 < ((s.extract 1 s.size)[k].toNat : Int) := by omega
                      have hd3 : 48 ≤ ((s.extract 1 s.size)[k].toNat : Int) := by omega
                      clear hc
                      go_wp2
                      go_ret
                      exact ⟨by rw [hfin.out]; rfl, Below.refl _ _⟩
                    · have hd2 : ((s.extract 1 s.size)[k].toNat : Int) < 48 := by omega
                      clear hc
                      go_wp2
                      go_ret
                      exact ⟨by rw [hfin.out]; rfl, Below.refl _ _⟩
                · have hfin := Lib.hid (show validB s.data.toList = true from by
                    rw [hv.out, hzn.out, ← hTl.out, Bool.true_and]
                    exact coreB_yes (by have := HSZ.out; simp; omega) (by have := HSZ.out; simp; omega) (fun h => h48.out ⟨by rw [← HH1.out]; exact h.1, by have h1 := HSZ.out; have h2 := h.2; simp at h2; omega⟩) (fun j hj => hall.out j hj (by have h1 := HSZ.out; simp at hj; omega)))
                  go_wp2
                  go_ret
                  exact ⟨by rw [hfin.out]; rfl, Below.refl _ _⟩
        · have hfin := Lib.hid (show validB s.data.toList = false from by
            rw [hv.out, hzn.out, ← hTl.out, Bool.true_and]
            exact coreB_no (by have := HSZ.out; simp; omega))
          by_cases hl1 : 1 ≤ s.size - 1
          · have hl2 : 500 < s.size - 1 := by omega
            go_enter Tryz.func10, Tryz.ntmps10
            go_wp2
            go_ret
            exact ⟨by rw [hfin.out]; rfl, Below.refl _ _⟩
          · have hl2 : s.size - 1 < 1 := by omega
            go_enter Tryz.func10, Tryz.ntmps10
            go_wp2
            go_ret
            exact ⟨by rw [hfin.out]; rfl, Below.refl _ _⟩
    · have e45 : ((s[0].toNat : Int) == 45) = false := by rw [← hc0]; simp; omega
      have hv := Lib.hid (show validB s.data.toList = coreB s.data.toList from by rw [validB, HH.out, if_neg h45])
      have HSZ := Lib.hid (show s.size = s.size from rfl)
      clear hc0 h45
      by_cases hl : 1 ≤ s.size ∧ s.size ≤ 500
      · have h1 : 0 < (s).size := by rw [← HSZ.out]; omega
        obtain ⟨c1, hc1⟩ : ∃ c1, c1 = (s)[0].toNat := ⟨_, rfl⟩
        have HH1 := Lib.hid (show ((s).data.toList.headD 0).toNat = c1 from by rw [head_data h1, hc1])
        by_cases h48 : c1 = 48 ∧ 1 < s.size
        · have hfin := Lib.hid (show validB s.data.toList = false from by
            rw [hv.out]
            exact coreB_no (.inr (.inr (.inl ⟨by rw [HH1.out]; exact h48.1, by have := HSZ.out; simp; omega⟩))))
          have e48 : ((s)[0].toNat : Int) = 48 := by rw [← hc1, h48.1]; rfl
          have hl1 : 1 < s.size := h48.2
          clear hc1
          go_enter Tryz.func10, Tryz.ntmps10
          go_wp2
          go_ret
          exact ⟨by rw [hfin.out]; rfl, Below.refl _ _⟩
        · have h48 := Lib.hid h48
          by_cases hq : c1 = 48
          · have e48 : ((s)[0].toNat : Int) = 48 := by rw [← hc1, hq]; rfl
            have hl1 : s.size ≤ 1 := Nat.le_of_not_lt fun h => h48.out ⟨hq, h⟩
            clear hc1 hq
            go_enter Tryz.func10, Tryz.ntmps10
            go_wp2_with fail
            go_loop [3] (fun i => ∃ k : Nat, i = .int .i64 k ∧ k ≤ s.size ∧ Hid (∀ j, ∀ h : j < (s).data.toList.length, j < k → digB ((s).data.toList[j]) = true)) (fun i => s.size - (intOf i).toNat)
            case atStart => exact ⟨0, rfl, Nat.zero_le _, Lib.hid (fun j _ h => by omega)⟩
            case round =>
              obtain ⟨k, rfl, hk, hall⟩ := hrel
              by_cases hlt : k < s.size
              · have hltT : k < (s).size := by have h1 := HSZ.out; omega
                obtain ⟨c, hc⟩ : ∃ c, c = (s)[k].toNat := ⟨_, rfl⟩
                have HCd := Lib.hid (show digB ((s).data.toList[k]'(by simpa using hltT)) = (decide (48 ≤ c) && decide (c ≤ 57)) from by rw [hc]; rfl)
                by_cases hd : 48 ≤ c ∧ c ≤ 57
                · have hd1 : 48 ≤ ((s)[k].toNat : Int) := by omega
                  have hd2 : ((s)[k].toNat : Int) ≤ 57 := by omega
                  clear hc
                  go_wp2
                  go_round
                  case rel =>
                    refine ⟨k + 1, by go_num, by omega, Lib.hid (fun j hj hjk => ?_)⟩
                    by_cases hjk2 : j < k
                    · exact hall.out j hj hjk2
                    · obtain rfl : j = k := by omega
                      rw [HCd.out]; simp [hd.1, hd.2]
                  case measure => simp [intOf]; omega
                · have hfin := Lib.hid (show validB s.data.toList = false from by
                    rw [hv.out]
                    exact coreB_no (.inr (.inr (.inr ⟨k, by simpa using hltT, by rw [HCd.out]; simp; omega⟩))))
                  by_cases hd1 : 48 ≤ c
                  · have hd2 : 57 < ((s)[k].toNat : Int) := by omega
                    have hd3 : 48 ≤ ((s)[k].toNat : Int) := by omega
                    clear hc
                    go_wp2
                    go_ret
                    exact ⟨by rw [hfin.out]; rfl, Below.refl _ _⟩
                  · have hd2 : ((s)[k].toNat : Int) < 48 := by omega
                    clear hc
                    go_wp2
                    go_ret
                    exact ⟨by rw [hfin.out]; rfl, Below.refl _ _⟩
              · have hfin := Lib.hid (show validB s.data.toList = true from by
                  rw [hv.out]
                  exact coreB_yes (by have := HSZ.out; simp; omega) (by have := HSZ.out; simp; omega) (fun h => h48.out ⟨by rw [← HH1.out]; exact h.1, by have h1 := HSZ.out; have h2 := h.2; simp at h2; omega⟩) (fun j hj => hall.out j hj (by have h1 := HSZ.out; simp at hj; omega)))
                go_wp2
                go_ret
                exact ⟨by rw [hfin.out]; rfl, Below.refl _ _⟩
          · have e48 : ¬ ((s)[0].toNat : Int) = 48 := by rw [← hc1]; omega
            clear hc1 hq
            go_enter Tryz.func10, Tryz.ntmps10
            go_wp2_with fail
            go_loop [3] (fun i => ∃ k : Nat, i = .int .i64 k ∧ k ≤ s.size ∧ Hid (∀ j, ∀ h : j < (s).data.toList.length, j < k → digB ((s).data.toList[j]) = true)) (fun i => s.size - (intOf i).toNat)
            case atStart => exact ⟨0, rfl, Nat.zero_le _, Lib.hid (fun j _ h => by omega)⟩
            case round =>
              obtain ⟨k, rfl, hk, hall⟩ := hrel
              by_cases hlt : k < s.size
              · have hltT : k < (s).size := by have h1 := HSZ.out; omega
                obtain ⟨c, hc⟩ : ∃ c, c = (s)[k].toNat := ⟨_, rfl⟩
                have HCd := Lib.hid (show digB ((s).data.toList[k]'(by simpa using hltT)) = (decide (48 ≤ c) && decide (c ≤ 57)) from by rw [hc]; rfl)
                by_cases hd : 48 ≤ c ∧ c ≤ 57
                · have hd1 : 48 ≤ ((s)[k].toNat : Int) := by omega
                  have hd2 : ((s)[k].toNat : Int) ≤ 57 := by omega
                  clear hc
                  go_wp2
                  go_round
                  case rel =>
                    refine ⟨k + 1, by go_num, by omega, Lib.hid (fun j hj hjk => ?_)⟩
                    by_cases hjk2 : j < k
                    · exact hall.out j hj hjk2
                    · obtain rfl : j = k := by omega
                      rw [HCd.out]; simp [hd.1, hd.2]
                  case measure => simp [intOf]; omega
                · have hfin := Lib.hid (show validB s.data.toList = false from by
                    rw [hv.out]
                    exact coreB_no (.inr (.inr (.inr ⟨k, by simpa using hltT, by rw [HCd.out]; simp; omega⟩))))
                  by_cases hd1 : 48 ≤ c
                  · have hd2 : 57 < ((s)[k].toNat : Int) := by omega
                    have hd3 : 48 ≤ ((s)[k].toNat : Int) := by omega
                    clear hc
                    go_wp2
                    go_ret
                    exact ⟨by rw [hfin.out]; rfl, Below.refl _ _⟩
                  · have hd2 : ((s)[k].toNat : Int) < 48 := by omega
                    clear hc
                    go_wp2
                    go_ret
                    exact ⟨by rw [hfin.out]; rfl, Below.refl _ _⟩
              · have hfin := Lib.hid (show validB s.data.toList = true from by
                  rw [hv.out]
                  exact coreB_yes (by have := HSZ.out; simp; omega) (by have := HSZ.out; simp; omega) (fun h => h48.out ⟨by rw [← HH1.out]; exact h.1, by have h1 := HSZ.out; have h2 := h.2; simp at h2; omega⟩) (fun j hj => hall.out j hj (by have h1 := HSZ.out; simp at hj; omega)))
                go_wp2
                go_ret
                exact ⟨by rw [hfin.out]; rfl, Below.refl _ _⟩
      · have hfin := Lib.hid (show validB s.data.toList = false from by
          rw [hv.out]
          exact coreB_no (by have := HSZ.out; simp; omega))
        by_cases hl1 : 1 ≤ s.size
        · have hl2 : 500 < s.size := by omega
          go_enter Tryz.func10, Tryz.ntmps10
          go_wp2
          go_ret
          exact ⟨by rw [hfin.out]; rfl, Below.refl _ _⟩
        · exact absurd h0 (by omega)
  · have hz : s.data.toList = [] := by
      have : s.data.toList.length = 0 := by rw [Array.length_toList]; exact Nat.eq_zero_of_not_pos h0
      exact List.eq_nil_of_length_eq_zero this
    have hfin := Lib.hid (show validB s.data.toList = false from by rw [hz]; rfl)
    clear hz
    go_enter Tryz.func10, Tryz.ntmps10
    go_wp2
    go_ret
    exact ⟨by rw [hfin.out]; rfl, Below.refl _ _⟩

end Go.Proofs.YtebejllehbpahaaGreatDoor
