/- The test of a text. -/
import Derived.Test.YtebejllehbpahaaGreatDoorPa
import Derived.Lib.IndexBytes
/- The program's test of a number's text. -/
namespace Go.Proofs.YtebejllehbpahaaGreatDoor
open Go.RowKit Go.Proofs.ArM

theorem pget_data {s : ByteArray} {j : Nat} (h : j < s.size) : s[j] = s.data.toList[j]'(by simpa using h) := rfl
theorem phead_data {s : ByteArray} (h : 0 < s.size) : s.data.toList.headD 0 = s[0] := by
  rw [pget_data h]
  obtain ⟨⟨l⟩⟩ := s
  cases l with
  | nil => exact absurd h (Nat.lt_irrefl 0)
  | cons a l => rfl

theorem size_nil {s : ByteArray} (h : s.data.toList = []) : s.size = 0 := by
  have h1 : s.data.toList.length = s.size := by simp
  rw [h] at h1; exact h1.symm
theorem nil_size {s : ByteArray} (h : s.size = 0) : s.data.toList = [] := by
  have h1 : s.data.toList.length = s.size := by simp
  exact List.eq_nil_of_length_eq_zero (by rw [h1, h])

theorem coreB_lead {l : List UInt8} (h : (l.headD 0).toNat = 48) (h1 : l ≠ [48]) : coreB l = false := by
  cases l with
  | nil => simp at h
  | cons a l =>
    have ha : a = 48 := by apply UInt8.toNat_inj.1; simpa using h
    cases l with
    | nil => subst ha; exact absurd rfl h1
    | cons b l => exact coreB_no (.inr (.inr (.inl ⟨h, by simp⟩)))

theorem valid_of_minus {l : List UInt8} (h : (l.headD 0).toNat = 45) (hc : coreB l.tail = false ∨ l.tail = [48]) : validB l = false := by
  rw [validB, if_pos h]
  rcases hc with hc | hc
  · rw [hc, Bool.and_false]
  · rw [hc]; rfl
theorem valid_of_minus_yes {l : List UInt8} (h : (l.headD 0).toNat = 45) (hc : coreB l.tail = true) (h1 : (l.tail.headD 0).toNat ≠ 48) : validB l = true := by
  rw [validB, if_pos h, hc, Bool.and_true]
  simp only [Bool.not_eq_true', beq_eq_false_iff_ne, ne_eq]
  intro hx
  rw [hx] at h1
  exact h1 rfl
theorem valid_of_plain {l : List UInt8} (h : (l.headD 0).toNat ≠ 45) : validB l = coreB l := by rw [validB, if_neg h]

set_option maxHeartbeats 6400000 in
set_option maxRecDepth 100000 in
theorem pvalid_any (s : ByteArray) (w : World) (hs : s.size ≤ 1000000) :
    Calls Tryz.prog 9 #[.string s] w (OutV w (.bool (validB s.data.toList))) := by
  have HSZ0 := Lib.hid hs
  clear hs
  by_cases h0 : 0 < s.size
  · by_cases hz : (s.toList == [48]) = true
    · have hfin := Lib.hid (show validB s.data.toList = true from by
        rw [ByteArray.toList_eq] at hz
        rw [show s.data.toList = [48] from by simpa using hz]; rfl)
      go_enter Tryz.func9, Tryz.ntmps9
      go_wp2
      go_ret
      exact ⟨by rw [hfin.out]; rfl, Below.refl _ _⟩
    · have hz : (s.toList == [48]) = false := by simpa using hz
      have HZ := Lib.hid (show s.data.toList ≠ [48] from by rw [ByteArray.toList_eq] at hz; simpa using hz)
      have hne : s.toList.isEmpty = false := by
        rw [ByteArray.toList_eq]
        cases hl : s.data.toList with
        | nil => exact absurd (size_nil hl) (by omega)
        | cons a l => rfl
      obtain ⟨c0, hc0⟩ : ∃ c0, c0 = s[0].toNat := ⟨_, rfl⟩
      have HH := Lib.hid (show (s.data.toList.headD 0).toNat = c0 from by rw [phead_data h0, hc0])
      by_cases h45 : c0 = 45
      · have e45 : ((s[0].toNat : Int) == 45) = true := by rw [← hc0, h45]; rfl
        have H45 := Lib.hid (show (s.data.toList.headD 0).toNat = 45 from by rw [HH.out, h45])
        have hTl := Lib.hid (show (s.extract 1 s.size).data.toList = s.data.toList.tail from by rw [Lib.extract_to_end]; simp)
        have HSZ := Lib.hid (show s.size - 1 = (s.extract 1 s.size).size from by simp)
        clear hc0 h45
        by_cases hl1 : s.size - 1 < 1
        · have hfin := Lib.hid (show validB s.data.toList = false from valid_of_minus H45.out (.inl (by rw [← hTl.out]; exact coreB_no (.inl (by simp; omega)))))
          go_enter Tryz.func9, Tryz.ntmps9
          go_wp2
          go_ret
          exact ⟨by rw [hfin.out]; rfl, Below.refl _ _⟩
        · by_cases hl2 : 500 < s.size - 1
          · have hfin := Lib.hid (show validB s.data.toList = false from valid_of_minus H45.out (.inl (by rw [← hTl.out]; exact coreB_no (.inr (.inl (by simp; omega))))))
            go_enter Tryz.func9, Tryz.ntmps9
            go_wp2
            go_ret
            exact ⟨by rw [hfin.out]; rfl, Below.refl _ _⟩
          · have HT0 := Lib.hid (show 0 < (s.extract 1 s.size).size from by simp; omega)
            obtain ⟨c1, hc1⟩ : ∃ c1, c1 = ((s.extract 1 s.size)[0]'(HT0.out)).toNat := ⟨_, rfl⟩
            have HH1 := Lib.hid (show ((s.extract 1 s.size).data.toList.headD 0).toNat = c1 from by rw [phead_data HT0.out, hc1])
            have hTs : ¬ (s.size - 1 : Nat) = 0 := by omega
            by_cases h48 : c1 = 48
            · have e48 : ((((s.extract 1 s.size)[0]'(HT0.out)).toNat : Int) == 48) = true := by rw [← hc1, h48]; rfl
              have hfin := Lib.hid (show validB s.data.toList = false from valid_of_minus H45.out (by rcases Classical.em (s.data.toList.tail = [48]) with h | h; exact .inr h; exact .inl (coreB_lead (by rw [← hTl.out, HH1.out]; exact h48) h)))
              clear hc1 h48
              go_enter Tryz.func9, Tryz.ntmps9
              go_wp2
              go_ret
              exact ⟨by rw [hfin.out]; rfl, Below.refl _ _⟩
            · have e48 : ((((s.extract 1 s.size)[0]'(HT0.out)).toNat : Int) == 48) = false := by rw [← hc1, beq_eq_false_iff_ne]; omega
              have H48 := Lib.hid h48
              clear hc1 h48
              go_enter Tryz.func9, Tryz.ntmps9
              go_wp2_with fail
              go_loop [30] (fun i => ∃ k : Nat, i = .int .i64 k ∧ k ≤ s.size - 1 ∧ Hid (∀ j, ∀ h : j < (s.extract 1 s.size).data.toList.length, j < k → digB ((s.extract 1 s.size).data.toList[j]) = true)) (fun i => s.size - 1 - (intOf i).toNat)
              case atStart => exact ⟨0, rfl, Nat.zero_le _, Lib.hid (fun j _ h => by omega)⟩
              case round =>
                obtain ⟨k, rfl, hk, hall⟩ := hrel
                by_cases hlt : k < s.size - 1
                · have HLTT := Lib.hid (show k < (s.extract 1 s.size).size from by simp; omega)
                  obtain ⟨c, hc⟩ : ∃ c, c = ((s.extract 1 s.size)[k]'(HLTT.out)).toNat := ⟨_, rfl⟩
                  have HCd := Lib.hid (show digB ((s.extract 1 s.size).data.toList[k]'(by simpa using HLTT.out)) = (decide (48 ≤ c) && decide (c ≤ 57)) from by rw [hc]; rfl)
                  by_cases hd : 48 ≤ c ∧ c ≤ 57
                  · have hd1 : 48 ≤ (((s.extract 1 s.size)[k]'(HLTT.out)).toNat : Int) := by omega
                    have hd2 : (((s.extract 1 s.size)[k]'(HLTT.out)).toNat : Int) ≤ 57 := by omega
                    clear hc
                    go_wp2
                    go_round
                    case rel =>
                      refine ⟨k + 1, by go_num, by omega, Lib.hid (fun j hj hjk => ?_)⟩
                      by_cases hjk2 : j < k
                      · exact hall.out j hj hjk2
                      · obtain rfl : j = k := by omega
                        rw [HCd.out]; simp [hd.1, hd.2]
                    case measure => simp [intOf]; omega
                  · have hfin := Lib.hid (show validB s.data.toList = false from valid_of_minus H45.out (.inl (by rw [← hTl.out]; exact coreB_no (.inr (.inr (.inr ⟨k, by simpa using HLTT.out, by rw [HCd.out]; simp; omega⟩))))))
                    by_cases hd1 : 48 ≤ c
                    · have hd2 : 57 < (((s.extract 1 s.size)[k]'(HLTT.out)).toNat : Int) := by omega
                      have hd3 : 48 ≤ (((s.extract 1 s.size)[k]'(HLTT.out)).toNat : Int) := by omega
                      clear hc
                      go_wp2
                      go_ret
                      exact ⟨by rw [hfin.out]; rfl, Below.refl _ _⟩
                    · have hd2 : (((s.extract 1 s.size)[k]'(HLTT.out)).toNat : Int) < 48 := by omega
                      clear hc
                      go_wp2
                      go_ret
                      exact ⟨by rw [hfin.out]; rfl, Below.refl _ _⟩
                · have hfin := Lib.hid (show validB s.data.toList = true from valid_of_minus_yes H45.out (by rw [← hTl.out]; exact (coreB_yes (by simp; omega) (by simp; omega) (fun h => H48.out (by rw [← HH1.out]; exact h.1)) (fun j hj => hall.out j hj (by simp at hj; omega)))) (by rw [← hTl.out, HH1.out]; exact H48.out))
                  go_wp2
                  go_ret
                  exact ⟨by rw [hfin.out]; rfl, Below.refl _ _⟩
      · have e45 : ((s[0].toNat : Int) == 45) = false := by rw [← hc0, beq_eq_false_iff_ne]; omega
        have H45 := Lib.hid (show (s.data.toList.headD 0).toNat ≠ 45 from by rw [HH.out]; exact h45)
        clear hc0 h45
        by_cases hl1 : s.size < 1
        · omega
        · by_cases hl2 : 500 < s.size
          · have hfin := Lib.hid (show validB s.data.toList = false from (valid_of_plain H45.out).trans (coreB_no (.inr (.inl (by simp; omega)))))
            go_enter Tryz.func9, Tryz.ntmps9
            go_wp2
            go_ret
            exact ⟨by rw [hfin.out]; rfl, Below.refl _ _⟩
          · have HT0 := Lib.hid (show 0 < (s).size from by omega)
            obtain ⟨c1, hc1⟩ : ∃ c1, c1 = ((s)[0]'(HT0.out)).toNat := ⟨_, rfl⟩
            have HH1 := Lib.hid (show ((s).data.toList.headD 0).toNat = c1 from by rw [phead_data HT0.out, hc1])
            have hTs : ¬ (s.size : Nat) = 0 := by omega
            by_cases h48 : c1 = 48
            · have e48 : ((((s)[0]'(HT0.out)).toNat : Int) == 48) = true := by rw [← hc1, h48]; rfl
              have hfin := Lib.hid (show validB s.data.toList = false from (valid_of_plain H45.out).trans (coreB_lead (by rw [HH1.out]; exact h48) HZ.out))
              clear hc1 h48
              go_enter Tryz.func9, Tryz.ntmps9
              go_wp2
              go_ret
              exact ⟨by rw [hfin.out]; rfl, Below.refl _ _⟩
            · have e48 : ((((s)[0]'(HT0.out)).toNat : Int) == 48) = false := by rw [← hc1, beq_eq_false_iff_ne]; omega
              have H48 := Lib.hid h48
              clear hc1 h48
              go_enter Tryz.func9, Tryz.ntmps9
              go_wp2_with fail
              go_loop [30] (fun i => ∃ k : Nat, i = .int .i64 k ∧ k ≤ s.size ∧ Hid (∀ j, ∀ h : j < (s).data.toList.length, j < k → digB ((s).data.toList[j]) = true)) (fun i => s.size - (intOf i).toNat)
              case atStart => exact ⟨0, rfl, Nat.zero_le _, Lib.hid (fun j _ h => by omega)⟩
              case round =>
                obtain ⟨k, rfl, hk, hall⟩ := hrel
                by_cases hlt : k < s.size
                · have HLTT := Lib.hid (show k < (s).size from by omega)
                  obtain ⟨c, hc⟩ : ∃ c, c = ((s)[k]'(HLTT.out)).toNat := ⟨_, rfl⟩
                  have HCd := Lib.hid (show digB ((s).data.toList[k]'(by simpa using HLTT.out)) = (decide (48 ≤ c) && decide (c ≤ 57)) from by rw [hc]; rfl)
                  by_cases hd : 48 ≤ c ∧ c ≤ 57
                  · have hd1 : 48 ≤ (((s)[k]'(HLTT.out)).toNat : Int) := by omega
                    have hd2 : (((s)[k]'(HLTT.out)).toNat : Int) ≤ 57 := by omega
                    clear hc
                    go_wp2
                    go_round
                    case rel =>
                      refine ⟨k + 1, by go_num, by omega, Lib.hid (fun j hj hjk => ?_)⟩
                      by_cases hjk2 : j < k
                      · exact hall.out j hj hjk2
                      · obtain rfl : j = k := by omega
                        rw [HCd.out]; simp [hd.1, hd.2]
                    case measure => simp [intOf]; omega
                  · have hfin := Lib.hid (show validB s.data.toList = false from (valid_of_plain H45.out).trans (coreB_no (.inr (.inr (.inr ⟨k, by simpa using HLTT.out, by rw [HCd.out]; simp; omega⟩)))))
                    by_cases hd1 : 48 ≤ c
                    · have hd2 : 57 < (((s)[k]'(HLTT.out)).toNat : Int) := by omega
                      have hd3 : 48 ≤ (((s)[k]'(HLTT.out)).toNat : Int) := by omega
                      clear hc
                      go_wp2
                      go_ret
                      exact ⟨by rw [hfin.out]; rfl, Below.refl _ _⟩
                    · have hd2 : (((s)[k]'(HLTT.out)).toNat : Int) < 48 := by omega
                      clear hc
                      go_wp2
                      go_ret
                      exact ⟨by rw [hfin.out]; rfl, Below.refl _ _⟩
                · have hfin := Lib.hid (show validB s.data.toList = true from (valid_of_plain H45.out).trans (coreB_yes (by simp; omega) (by simp; omega) (fun h => H48.out (by rw [← HH1.out]; exact h.1)) (fun j hj => hall.out j hj (by simp at hj; omega))))
                  go_wp2
                  go_ret
                  exact ⟨by rw [hfin.out]; rfl, Below.refl _ _⟩
  · have he : s.data.toList = [] := nil_size (by omega)
    have hz : (s.toList == [48]) = false := by rw [ByteArray.toList_eq, he]; rfl
    have hne : s.toList.isEmpty = true := by rw [ByteArray.toList_eq, he]; rfl
    have hne2 : s.toList = [] := by rw [ByteArray.toList_eq, he]
    have hfin := Lib.hid (show validB s.data.toList = false from by rw [he]; rfl)
    have hs0 : s.size < 1 := by omega
    clear he h0
    go_enter Tryz.func9, Tryz.ntmps9
    go_wp2
    go_ret
    exact ⟨by rw [hfin.out]; rfl, Below.refl _ _⟩
end Go.Proofs.YtebejllehbpahaaGreatDoor
