/- The tests of texts: names, words, numbers, variables: the reference's. -/
import Derived.Test.YtajdpchojimigaaTx
import Derived.Test.YtajdpchojimigaaTl
namespace Go.Proofs.Ytajdpchojimigaa
open Go.RowKit TmM

set_option maxHeartbeats 1600000 in
theorem word_any (s : ByteArray) (w : World) (hs : s.size ≤ 100000000) : Calls Try.prog 139 #[.string s] w (Pure w (.bool (wordB s.data.toList))) := by
  go_enter Try.func139, Try.ntmps139
  go_wp2_with fail
  go_loop [3] (fun i => ∃ k : Nat, i = .int .i64 k ∧ k ≤ s.size ∧ Hid (∀ j (hj : j < s.size), j < k → plainB s[j] = true)) (fun i => s.size - (intOf i).toNat)
  case atStart => exact ⟨0, rfl, Nat.zero_le _, Lib.hid (fun j _ h => by omega)⟩
  case round =>
    obtain ⟨k, rfl, hk, hall⟩ := hrel
    by_cases hlt : k < s.size
    · obtain ⟨n, hn⟩ : ∃ n, n = s[k].toNat := ⟨_, rfl⟩
      have HP := Lib.hid (show plainB s[k] = (decide (32 ≤ n) && decide (n ≤ 126)) from by rw [hn]; rfl)
      by_cases h1 : n < 32
      · have HR := Lib.hid (show wordB s.data.toList = false from by rw [wordB, all_bad hlt (by rw [HP.out, decide_eq_false (by omega), Bool.false_and]), Bool.and_false])
        have a1 : (s[k].toNat : Int) < 32 := by omega
        clear hn
        go_wp2
        go_ret
        exact ⟨by rw [HR.out]; rfl, rfl⟩
      · by_cases h2 : 126 < n
        · have HR := Lib.hid (show wordB s.data.toList = false from by rw [wordB, all_bad hlt (by rw [HP.out, decide_eq_false (show ¬ n ≤ 126 by omega), Bool.and_false]), Bool.and_false])
          have a1 : ¬ (s[k].toNat : Int) < 32 := by omega
          have a2 : 126 < (s[k].toNat : Int) := by omega
          clear hn
          go_wp2
          go_ret
          exact ⟨by rw [HR.out]; rfl, rfl⟩
        · have a1 : ¬ (s[k].toNat : Int) < 32 := by omega
          have a2 : ¬ 126 < (s[k].toNat : Int) := by omega
          clear hn
          go_wp2
          go_round
          case rel => exact ⟨k + 1, by go_num, by omega, Lib.hid (fun j hj hjk => by
            rcases Nat.lt_succ_iff_lt_or_eq.1 hjk with h | h
            · exact hall.out j hj h
            · subst h; rw [HP.out]; simp; omega)⟩
          case measure => simp [intOf]; omega
    · have HA := Lib.hid (show wordB s.data.toList = (decide (0 < s.size) && decide (s.size ≤ 60)) from by rw [wordB, all_good (fun j hj => hall.out j hj (by omega)), size_list, Bool.and_true])
      by_cases h0 : 0 < s.size
      · have e0 := empty_of h0
        have e1 := not_nil_of h0
        by_cases h60 : s.size ≤ 60
        · have h61 : (s.size : Int) ≤ 60 := by omega
          go_wp2
          go_ret
          exact ⟨by rw [HA.out, decide_eq_true h0, decide_eq_true h60]; rfl, rfl⟩
        · have h61 : ¬ (s.size : Int) ≤ 60 := by omega
          go_wp2
          go_ret
          exact ⟨by rw [HA.out, decide_eq_false h60, Bool.and_false]; rfl, rfl⟩
      · have e0 := nil_of (s := s) (by omega)
        go_wp2
        go_ret
        exact ⟨by rw [HA.out, decide_eq_false h0]; rfl, rfl⟩

set_option maxHeartbeats 1600000 in
theorem var_any (s : ByteArray) (w : World) (hs : s.size ≤ 100000000) : Calls Try.prog 71 #[.string s] w (Pure w (.bool (varB s.data.toList))) := by
  go_enter Try.func71, Try.ntmps71
  go_wp2_with fail
  go_loop [3] (fun i => ∃ k : Nat, i = .int .i64 k ∧ k ≤ s.size ∧ Hid (∀ j (hj : j < s.size), j < k → (letterB s[j] || digitB s[j]) = true)) (fun i => s.size - (intOf i).toNat)
  case atStart => exact ⟨0, rfl, Nat.zero_le _, Lib.hid (fun j _ h => by omega)⟩
  case round =>
    obtain ⟨k, rfl, hk, hall⟩ := hrel
    by_cases hlt : k < s.size
    · obtain ⟨l, hl⟩ : ∃ l, l = letterB s[k] := ⟨_, rfl⟩
      obtain ⟨d, hd⟩ : ∃ d, d = digitB s[k] := ⟨_, rfl⟩
      have L := Lib.hid (fun w => letter_any s[k] w)
      have D := Lib.hid (fun w => digit_any s[k] w)
      rw [← hl] at L
      rw [← hd] at D
      have HL := Lib.hid hl
      have HD := Lib.hid hd
      clear hl hd
      cases l
      · cases d
        · have HR := Lib.hid (show varB s.data.toList = false from by rw [varB, all_bad (p := fun b => letterB b || digitB b) hlt (by rw [← HL.out, ← HD.out]; rfl), Bool.and_false])
          go_wp2_with (first
            | (go_at_call 93; refine (L.out _).mono ?_; rintro e w' ⟨rfl, rfl⟩)
            | (go_at_call 94; refine (D.out _).mono ?_; rintro e w' ⟨rfl, rfl⟩))
          go_ret
          exact ⟨by rw [HR.out]; rfl, rfl⟩
        · go_wp2_with (first
            | (go_at_call 93; refine (L.out _).mono ?_; rintro e w' ⟨rfl, rfl⟩)
            | (go_at_call 94; refine (D.out _).mono ?_; rintro e w' ⟨rfl, rfl⟩))
          go_round
          case rel => exact ⟨k + 1, by go_num, by omega, Lib.hid (fun j hj hjk => by
            rcases Nat.lt_succ_iff_lt_or_eq.1 hjk with h | h
            · exact hall.out j hj h
            · subst h; rw [← HD.out]; simp)⟩
          case measure => simp [intOf]; omega
      · go_wp2_with (first
          | (go_at_call 93; refine (L.out _).mono ?_; rintro e w' ⟨rfl, rfl⟩)
          | (go_at_call 94; refine (D.out _).mono ?_; rintro e w' ⟨rfl, rfl⟩))
        go_round
        case rel => exact ⟨k + 1, by go_num, by omega, Lib.hid (fun j hj hjk => by
          rcases Nat.lt_succ_iff_lt_or_eq.1 hjk with h | h
          · exact hall.out j hj h
          · subst h; rw [← HL.out]; rfl)⟩
        case measure => simp [intOf]; omega
    · have HA := Lib.hid (show varB s.data.toList = (decide (0 < s.size) && decide (s.size ≤ 40)) from by rw [varB, all_good (fun j hj => hall.out j hj (by omega)), size_list, Bool.and_true])
      by_cases h0 : 0 < s.size
      · have e0 := empty_of h0
        have e1 := not_nil_of h0
        by_cases h60 : s.size ≤ 40
        · have h61 : (s.size : Int) ≤ 40 := by omega
          go_wp2
          go_ret
          exact ⟨by rw [HA.out, decide_eq_true h0, decide_eq_true h60]; rfl, rfl⟩
        · have h61 : ¬ (s.size : Int) ≤ 40 := by omega
          go_wp2
          go_ret
          exact ⟨by rw [HA.out, decide_eq_false h60, Bool.and_false]; rfl, rfl⟩
      · have e0 := nil_of (s := s) (by omega)
        go_wp2
        go_ret
        exact ⟨by rw [HA.out, decide_eq_false h0]; rfl, rfl⟩

set_option maxHeartbeats 1600000 in
theorem name_any (s : ByteArray) (w : World) (hs : s.size ≤ 100000000) : Calls Try.prog 130 #[.string s, .int .i64 40] w (Pure w (.bool (nameB 40 s.data.toList))) := by
  by_cases h0 : 0 < s.size
  · have e0 := empty_of h0
    have e1 := not_nil_of h0
    obtain ⟨r, hr⟩ := cons_of h0
    have HN := Lib.hid (show nameB 40 s.data.toList = (decide (s.size ≤ 40) && letterB s[0] && s.data.toList.all innerB) from by rw [← size_list s, hr]; rfl)
    clear hr
    by_cases h40 : s.size ≤ 40
    · have h41 : ¬ 40 < (s.size : Int) := by omega
      obtain ⟨l, hl⟩ : ∃ l, l = letterB s[0] := ⟨_, rfl⟩
      have L := Lib.hid (fun w => letter_any s[0] w)
      rw [← hl] at L
      have HL := Lib.hid hl
      clear hl
      cases l
      · have HR := Lib.hid (show nameB 40 s.data.toList = false from by rw [HN.out, ← HL.out, Bool.and_false, Bool.false_and])
        go_enter Try.func130, Try.ntmps130
        go_wp2_with (go_at_call 93; refine (L.out _).mono ?_; rintro e w' ⟨rfl, rfl⟩)
        go_ret
        exact ⟨by rw [HR.out]; rfl, rfl⟩
      · have HA := Lib.hid (show nameB 40 s.data.toList = s.data.toList.all innerB from by rw [HN.out, ← HL.out, decide_eq_true h40]; rfl)
        go_enter Try.func130, Try.ntmps130
        go_wp2_with (go_at_call 93; refine (L.out _).mono ?_; rintro e w' ⟨rfl, rfl⟩)
        go_loop [5] (fun i => ∃ k : Nat, i = .int .i64 k ∧ k ≤ s.size ∧ Hid (∀ j (hj : j < s.size), j < k → innerB s[j] = true)) (fun i => s.size - (intOf i).toNat)
        case atStart => exact ⟨0, rfl, Nat.zero_le _, Lib.hid (fun j _ h => by omega)⟩
        case round =>
          obtain ⟨k, rfl, hk, hall⟩ := hrel
          by_cases hlt : k < s.size
          · obtain ⟨i, hi⟩ : ∃ i, i = innerB s[k] := ⟨_, rfl⟩
            have I := Lib.hid (fun w => inner_any s[k] w)
            rw [← hi] at I
            have HI := Lib.hid hi
            clear hi
            cases i
            · have HR := Lib.hid (show nameB 40 s.data.toList = false from by rw [HA.out, all_bad hlt HI.out.symm])
              go_wp2_with (go_at_call 145; refine (I.out _).mono ?_; rintro e w' ⟨rfl, rfl⟩)
              go_ret
              exact ⟨by rw [HR.out]; rfl, rfl⟩
            · go_wp2_with (go_at_call 145; refine (I.out _).mono ?_; rintro e w' ⟨rfl, rfl⟩)
              go_round
              case rel => exact ⟨k + 1, by go_num, by omega, Lib.hid (fun j hj hjk => by
                rcases Nat.lt_succ_iff_lt_or_eq.1 hjk with h | h
                · exact hall.out j hj h
                · subst h; exact HI.out.symm)⟩
              case measure => simp [intOf]; omega
          · have HR := Lib.hid (show nameB 40 s.data.toList = true from by rw [HA.out, all_good (fun j hj => hall.out j hj (by omega))])
            go_wp2
            go_ret
            exact ⟨by rw [HR.out]; rfl, rfl⟩
    · have h41 : 40 < (s.size : Int) := by omega
      have HR := Lib.hid (show nameB 40 s.data.toList = false from by rw [HN.out, decide_eq_false h40]; rfl)
      go_enter Try.func130, Try.ntmps130
      go_wp2
      go_ret
      exact ⟨by rw [HR.out]; rfl, rfl⟩
  · have e0 := nil_of (s := s) (by omega)
    have HR := Lib.hid (show nameB 40 s.data.toList = false from by rw [← ByteArray.toList_eq, e0]; rfl)
    go_enter Try.func130, Try.ntmps130
    go_wp2
    go_ret
    exact ⟨by rw [HR.out]; rfl, rfl⟩
end Go.Proofs.Ytajdpchojimigaa
