/- The reference's test of the text of a number. -/
import Derived.Test.YtajdpchojimigaaTy
namespace Go.Proofs.Ytajdpchojimigaa
open Go.RowKit TmM

/-- the rest of a number's text, behind its sign. -/
def coreB (r : List UInt8) : Bool := decide (0 < r.length) && decide (r.length ≤ 500) && r.all digitB && !(r.head? == some 48)
theorem numB_core (s : List UInt8) (h : ¬ s = [48]) : numB s = coreB (unsign s) := by
  rw [numB, show (s == [48]) = false by simpa using h, Bool.false_or]; rfl
theorem unsign_cons (b : UInt8) (r : List UInt8) : unsign (b :: r) = if b = 45 then r else b :: r := by
  unfold unsign
  split
  · rename_i h; simp at h; rw [if_pos h.1, h.2]
  · rename_i h; rw [if_neg]; intro e; exact h r (by rw [e])

theorem coreB_bad {s : ByteArray} {k : Nat} (hk : k < s.size) (h : digitB s[k] = false) : coreB s.data.toList = false := by
  rw [coreB, all_bad hk h, Bool.and_false, Bool.false_and]
theorem coreB_good {s : ByteArray} (h0 : 0 < s.size) (h : ∀ j (hj : j < s.size), digitB s[j] = true) : coreB s.data.toList = (decide (s.size ≤ 500) && !(s[0] == 48)) := by
  obtain ⟨r, hr⟩ := cons_of h0
  have e : s.data.toList.head? = some s[0] := by rw [hr]; rfl
  rw [coreB, all_good h, size_list, decide_eq_true h0, e]
  simp

set_option maxHeartbeats 3200000 in
theorem number_any (s : ByteArray) (w : World) (hs : s.size ≤ 100000000) : Calls Try.prog 141 #[.string s] w (Pure w (.bool (numB s.data.toList))) := by
  by_cases hz : s.data.toList = [48]
  · have e0 : (s.toList == [48]) = true := by rw [ByteArray.toList_eq, hz]; rfl
    have HR := Lib.hid (show numB s.data.toList = true from by rw [hz]; rfl)
    clear hz
    go_enter Try.func141, Try.ntmps141
    go_wp2
    go_ret
    exact ⟨by rw [HR.out]; rfl, rfl⟩
  · have e0 : (s.toList == [48]) = false := by rw [ByteArray.toList_eq]; simpa using hz
    have hN := numB_core _ hz
    obtain ⟨R, hR⟩ : ∃ R, R = numB s.data.toList := ⟨_, rfl⟩
    rw [← hR] at hN ⊢
    have HN := Lib.hid hN
    clear hz hN hR
    have HW := Lib.hid (show ∃ s' : ByteArray, ((0 < s.size ∧ (∃ h : 0 < s.size, s[0] = 45) ∧ s' = s.extract 1 s.size) ∨ (s.size = 0 ∧ s' = s) ∨ (0 < s.size ∧ (∃ h : 0 < s.size, s[0] ≠ 45) ∧ s' = s)) ∧ R = coreB s'.data.toList ∧ s'.size ≤ s.size from by
      by_cases h0 : 0 < s.size
      · obtain ⟨r, hr⟩ := cons_of h0
        by_cases h1 : s[0] = 45
        · exact ⟨s.extract 1 s.size, .inl ⟨h0, ⟨h0, h1⟩, rfl⟩, by rw [HN.out, ext_data, hr, unsign_cons, if_pos h1]; rfl, by simp⟩
        · exact ⟨s, .inr (.inr ⟨h0, ⟨h0, h1⟩, rfl⟩), by rw [HN.out, hr, unsign_cons, if_neg h1], Nat.le_refl _⟩
      · have hn : s.data.toList = [] := List.eq_nil_of_length_eq_zero (by rw [size_list]; omega)
        exact ⟨s, .inr (.inl ⟨by omega, rfl⟩), by rw [HN.out, hn]; rfl, Nat.le_refl _⟩)
    obtain ⟨s', hway, hnum, hsz⟩ := HW.out
    have HNUM := Lib.hid hnum
    have hs' : s'.size ≤ 100000000 := by omega
    clear HW HN hnum hsz
    rcases hway with ⟨h0, ⟨_, h1⟩, hext⟩ | ⟨h0, hext⟩ | ⟨h0, ⟨_, h1⟩, hext⟩
    have e2 := empty_of h0
    have e3 := not_nil_of h0
    have e45 : ((s[0].toNat : Int) == 45) = true := by rw [h1]; rfl
    have HE := Lib.hid hext
    clear h1 hext
    go_enter Try.func141, Try.ntmps141
    go_wp2_with fail
    rw [← HE.out]
    clear e0 e2 e3 e45 HE
    rotate_left
    subst hext
    have e2 := nil_of h0
    go_enter Try.func141, Try.ntmps141
    go_wp2_with fail
    clear e0 e2 h0
    rotate_left
    subst hext
    have e2 := empty_of h0
    have e3 := not_nil_of h0
    have e45 : ((s'[0].toNat : Int) == 45) = false := by
      rw [beq_eq_false_iff_ne]
      intro e
      exact h1 (UInt8.toNat_inj.1 (by have e' : s'[0].toNat = 45 := by omega
                                      exact e'))
    clear h1
    go_enter Try.func141, Try.ntmps141
    go_wp2_with fail
    clear e0 e2 e3 e45
    rotate_left
    all_goals
      go_loop [3] (fun i => ∃ k : Nat, i = .int .i64 k ∧ k ≤ s'.size ∧ Hid (∀ j (hj : j < s'.size), j < k → digitB s'[j] = true)) (fun i => s'.size - (intOf i).toNat)
      case atStart => exact ⟨0, rfl, Nat.zero_le _, Lib.hid (fun j _ h => by omega)⟩
      case round =>
        obtain ⟨k, rfl, hk, hall⟩ := hrel
        by_cases hlt : k < s'.size
        · obtain ⟨d, hd⟩ : ∃ d, d = digitB s'[k] := ⟨_, rfl⟩
          have D := Lib.hid (fun w => digit_any s'[k] w)
          rw [← hd] at D
          have HD := Lib.hid hd
          clear hd
          cases d
          · have HR := Lib.hid (show R = false from by rw [HNUM.out, coreB_bad hlt HD.out.symm])
            go_wp2_with (go_at_call 94; refine (D.out _).mono ?_; rintro e w' ⟨rfl, rfl⟩)
            go_ret
            exact ⟨by rw [HR.out]; rfl, rfl⟩
          · go_wp2_with (go_at_call 94; refine (D.out _).mono ?_; rintro e w' ⟨rfl, rfl⟩)
            go_round
            case rel => exact ⟨k + 1, by go_num, by omega, Lib.hid (fun j hj hjk => by
              rcases Nat.lt_succ_iff_lt_or_eq.1 hjk with h | h
              · exact hall.out j hj h
              · subst h; exact HD.out.symm)⟩
            case measure => simp [intOf]; omega
        · by_cases h0 : 0 < s'.size
          · have e2 := empty_of h0
            have e3 := not_nil_of h0
            have HA := Lib.hid (show R = (decide (s'.size ≤ 500) && !(s'[0] == 48)) from by rw [HNUM.out, coreB_good h0 (fun j hj => hall.out j hj (by omega))])
            by_cases h5 : s'.size ≤ 500
            · have h51 : (s'.size : Int) ≤ 500 := by omega
              by_cases h48 : s'[0] = 48
              · have e48 : ((s'[0].toNat : Int) != 48) = false := by rw [h48]; rfl
                have HR := Lib.hid (show R = false from by rw [HA.out, h48]; simp)
                clear h48
                go_wp2
                go_ret
                exact ⟨by rw [HR.out]; rfl, rfl⟩
              · have e48 : ((s'[0].toNat : Int) != 48) = true := by
                  rw [bne_iff_ne]
                  intro e
                  have e' : s'[0].toNat = 48 := by omega
                  exact h48 (UInt8.toNat_inj.1 e')
                have HR := Lib.hid (show R = true from by rw [HA.out, decide_eq_true h5, show (s'[0] == 48) = false by simpa using h48]; rfl)
                clear h48
                go_wp2
                go_ret
                exact ⟨by rw [HR.out]; rfl, rfl⟩
            · have h51 : ¬ (s'.size : Int) ≤ 500 := by omega
              have HR := Lib.hid (show R = false from by rw [HA.out, decide_eq_false h5]; rfl)
              go_wp2
              go_ret
              exact ⟨by rw [HR.out]; rfl, rfl⟩
          · have e2 := nil_of (s := s') (by omega)
            have HR := Lib.hid (show R = false from by rw [HNUM.out, ← ByteArray.toList_eq, e2]; rfl)
            go_wp2
            go_ret
            exact ⟨by rw [HR.out]; rfl, rfl⟩
end Go.Proofs.Ytajdpchojimigaa
