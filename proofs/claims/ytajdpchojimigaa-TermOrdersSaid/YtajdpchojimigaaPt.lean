/- The program's tests of texts. -/
import Derived.Test.YtajdpchojimigaaPc
import Derived.Test.YtajdpchojimigaaTn
namespace Go.Proofs.Ytajdpchojimigaa
open Go.RowKit TmM

def spanN (m : Nat) (s : List UInt8) : Nat := (s.takeWhile (fun b => isN m b.toNat)).length
theorem take_while_at {p : UInt8 → Bool} : ∀ {l : List UInt8} {k : Nat} (_ : ∀ j (hj : j < l.length), j < k → p l[j] = true) (hk : k < l.length) (_ : p l[k] = false), (l.takeWhile p).length = k
  | [], k, _, hk, _ => by simp at hk
  | b :: r, 0, _, _, h => by simp [show p b = false from h]
  | b :: r, k + 1, ha, hk, h => by
    have h0 : p b = true := ha 0 (by simp) (by omega)
    have := take_while_at (p := p) (l := r) (k := k) (fun j hj hjk => by have := ha (j + 1) (by simpa using hj) (by omega); simpa using this) (by simpa using hk) (by simpa using h)
    simp [h0, this]
theorem take_while_all {p : UInt8 → Bool} {l : List UInt8} (h : l.all p = true) : (l.takeWhile p).length = l.length := by
  induction l with
  | nil => rfl
  | cons b r ih => simp at h; simp [h.1]; simpa using ih (by simpa using h.2)
theorem span_eq (m : Nat) (s : ByteArray) : decide (spanN m s.data.toList = s.size) = s.data.toList.all (fun b => isN m b.toNat) := by
  rw [← size_list s]
  cases h : s.data.toList.all (fun b => isN m b.toNat)
  · rw [decide_eq_false_iff_not]
    intro e
    have hp := List.takeWhile_prefix (l := s.data.toList) (fun b => isN m b.toNat)
    have he := hp.eq_of_length e
    have ha := List.all_takeWhile (l := s.data.toList) (p := fun b => isN m b.toNat)
    rw [he, h] at ha
    cases ha
  · rw [decide_eq_true_eq]; exact take_while_all h
theorem span_le (m : Nat) (s : ByteArray) : spanN m s.data.toList ≤ s.size := by
  rw [← size_list s]; exact (List.takeWhile_prefix _).length_le
theorem all_word (l : List UInt8) : l.all (fun b => isN 16 b.toNat) = l.all plainB := rfl
theorem all_digit (l : List UInt8) : l.all (fun b => isN 2 b.toNat) = l.all digitB := rfl
theorem all_var (l : List UInt8) : l.all (fun b => isN 3 b.toNat) = l.all (fun b => letterB b || digitB b) := by simp only [isN_both]
theorem all_name (l : List UInt8) : l.all (fun b => isN 7 b.toNat) = l.all innerB := by simp only [isN_inner]

set_option maxHeartbeats 800000 in
theorem sized_any (s : ByteArray) (n : Nat) (w : World) (hs : s.size ≤ 100000000) (_ : n ≤ 1000) : Calls Try.prog 91 #[.string s, .int .i64 (n : Int)] w (Pure w (.bool (decide (0 < s.size) && decide (s.size ≤ n)))) := by
  obtain ⟨R, hR⟩ : ∃ R, R = (decide (0 < s.size) && decide (s.size ≤ n)) := ⟨_, rfl⟩
  rw [← hR]
  have HR := Lib.hid hR
  clear hR
  by_cases h0 : 0 < s.size
  · have h1 : (1 : Int) ≤ (s.size : Int) := by omega
    by_cases h2 : s.size ≤ n
    · have h3 : (s.size : Int) ≤ (n : Int) := by omega
      have HQ := Lib.hid (show R = true from by rw [HR.out, decide_eq_true h0, decide_eq_true h2]; rfl)
      go_enter Try.func91, Try.ntmps91
      go_wp2
      go_ret
      exact ⟨by rw [HQ.out]; rfl, rfl⟩
    · have h3 : ¬ (s.size : Int) ≤ (n : Int) := by omega
      have HQ := Lib.hid (show R = false from by rw [HR.out, decide_eq_false h2, Bool.and_false])
      go_enter Try.func91, Try.ntmps91
      go_wp2
      go_ret
      exact ⟨by rw [HQ.out]; rfl, rfl⟩
  · have h1 : ¬ (1 : Int) ≤ (s.size : Int) := by omega
    have HQ := Lib.hid (show R = false from by rw [HR.out, decide_eq_false h0, Bool.false_and])
    go_enter Try.func91, Try.ntmps91
    go_wp2
    go_ret
    exact ⟨by rw [HQ.out]; rfl, rfl⟩

set_option maxHeartbeats 1600000 in
theorem span_any (s : ByteArray) (m : Nat) (w : World) (hs : s.size ≤ 100000000) (hm : m ∈ [1, 2, 3, 7, 16]) : Calls Try.prog 92 #[.string s, .int .i64 (m : Int)] w (Pure w (.int .i64 (spanN m s.data.toList))) := by
  have HM := Lib.hid hm
  clear hm
  go_enter Try.func92, Try.ntmps92
  go_wp2_with fail
  go_loop [8] (fun i => ∃ k : Nat, i = .int .i64 k ∧ k ≤ s.size ∧ Hid (∀ j (hj : j < s.size), j < k → isN m s[j].toNat = true)) (fun i => s.size - (intOf i).toNat)
  case atStart => exact ⟨0, rfl, Nat.zero_le _, Lib.hid (fun j _ h => by omega)⟩
  case round =>
    obtain ⟨k, rfl, hk, hall⟩ := hrel
    by_cases hlt : k < s.size
    · obtain ⟨i, hi⟩ : ∃ i, i = isN m s[k].toNat := ⟨_, rfl⟩
      have I := Lib.hid (fun w => is_any s[k].toNat m w s[k].toNat_lt HM.out)
      rw [← hi] at I
      have HI := Lib.hid hi
      clear hi
      cases i
      · have HV := Lib.hid (show spanN m s.data.toList = k from take_while_at (p := fun b => isN m b.toNat) (fun j hj hjk => hall.out j (by simpa using hj) hjk) (by simpa using hlt) HI.out.symm)
        go_wp2_with (go_at_call 107; refine (I.out _).mono ?_; rintro e w' ⟨rfl, rfl⟩)
        go_ret
        exact ⟨by rw [HV.out]; rfl, rfl⟩
      · go_wp2_with (go_at_call 107; refine (I.out _).mono ?_; rintro e w' ⟨rfl, rfl⟩)
        go_round
        case rel => exact ⟨k + 1, by go_num, by omega, Lib.hid (fun j hj hjk => by
          rcases Nat.lt_succ_iff_lt_or_eq.1 hjk with h | h
          · exact hall.out j hj h
          · subst h; exact HI.out.symm)⟩
        case measure => simp [intOf]; omega
    · have HV := Lib.hid (show spanN m s.data.toList = s.size from of_decide_eq_true (by rw [span_eq, all_good (p := fun b => isN m b.toNat) (fun j hj => hall.out j hj (by omega))]))
      go_wp2
      go_ret
      exact ⟨by rw [HV.out]; rfl, rfl⟩

/-- the length of an identifier at a text's beginning. -/
def identN (s : List UInt8) : Nat := match s with
  | [] => 0
  | b :: _ => if letterB b then spanN 7 s else 0

set_option maxHeartbeats 1600000 in
theorem ident_any (s : ByteArray) (w : World) (hs : s.size ≤ 100000000) : Calls Try.prog 121 #[.string s] w (Pure w (.int .i64 (identN s.data.toList))) := by
  by_cases h0 : 0 < s.size
  · have e0 := empty_of h0
    have e1 := not_nil_of h0
    obtain ⟨r, hr⟩ := cons_of h0
    have I0 := fun w => is_any s[0].toNat 1 w s[0].toNat_lt (by simp)
    simp only [isN_letter] at I0
    have SP := Lib.hid (fun w => span_any s 7 w hs (by simp))
    obtain ⟨l, hl⟩ : ∃ l, l = letterB s[0] := ⟨_, rfl⟩
    have HV := Lib.hid (show identN s.data.toList = if l then spanN 7 s.data.toList else 0 from by rw [hl, hr]; rfl)
    rw [← hl] at I0
    have I := Lib.hid I0
    clear I0 hl hr
    cases l
    · have HQ := Lib.hid (show identN s.data.toList = 0 from HV.out)
      go_enter Try.func121, Try.ntmps121
      go_wp2_with (go_at_call 107; refine (I.out _).mono ?_; rintro e w' ⟨rfl, rfl⟩)
      go_ret
      exact ⟨by rw [HQ.out]; rfl, rfl⟩
    · have HQ := Lib.hid (show identN s.data.toList = spanN 7 s.data.toList from HV.out)
      go_enter Try.func121, Try.ntmps121
      go_wp2_with (first
        | (go_at_call 107; refine (I.out _).mono ?_; rintro e w' ⟨rfl, rfl⟩)
        | (go_at_call 92; refine (SP.out _).mono ?_; rintro e w' ⟨rfl, rfl⟩))
      go_ret
      exact ⟨by rw [HQ.out]; rfl, rfl⟩
  · have e0 := nil_of (s := s) (by omega)
    have HQ := Lib.hid (show identN s.data.toList = 0 from by rw [← ByteArray.toList_eq, e0]; rfl)
    go_enter Try.func121, Try.ntmps121
    go_wp2
    go_ret
    exact ⟨by rw [HQ.out]; rfl, rfl⟩


set_option maxHeartbeats 1600000 in
theorem pword_any (s : ByteArray) (w : World) (hs : s.size ≤ 100000000) : Calls Try.prog 88 #[.string s] w (Pure w (.bool (wordB s.data.toList))) := by
  have SZ0 := fun w => sized_any s 60 w hs (by omega)
  have SP0 := fun w => span_any s 16 w hs (by simp)
  have hr : wordB s.data.toList = ((decide (0 < s.size) && decide (s.size ≤ 60)) && decide (spanN 16 s.data.toList = s.size)) := by rw [span_eq, all_word, wordB, size_list]
  obtain ⟨z, hz⟩ : ∃ z, z = (decide (0 < s.size) && decide (s.size ≤ 60)) := ⟨_, rfl⟩
  obtain ⟨n, hn⟩ : ∃ n, n = spanN 16 s.data.toList := ⟨_, rfl⟩
  rw [← hz] at SZ0
  rw [← hn] at SP0
  rw [← hz, ← hn] at hr
  have SZ := Lib.hid SZ0
  have SP := Lib.hid SP0
  have HR := Lib.hid hr
  clear SZ0 SP0 hz hn hr
  cases z
  · have HQ := Lib.hid (show wordB s.data.toList = false from by rw [HR.out]; rfl)
    go_enter Try.func88, Try.ntmps88
    go_wp2_with (go_at_call 91; refine (SZ.out _).mono ?_; rintro e w' ⟨rfl, rfl⟩)
    go_ret
    exact ⟨by rw [HQ.out]; rfl, rfl⟩
  · by_cases hq : n = s.size
    · have hb : ((n : Int) == (s.size : Int)) = true := by rw [hq]; simp
      have HQ := Lib.hid (show wordB s.data.toList = true from by rw [HR.out, decide_eq_true hq]; rfl)
      clear hq
      go_enter Try.func88, Try.ntmps88
      go_wp2_with (first
        | (go_at_call 91; refine (SZ.out _).mono ?_; rintro e w' ⟨rfl, rfl⟩)
        | (go_at_call 92; refine (SP.out _).mono ?_; rintro e w' ⟨rfl, rfl⟩))
      go_ret
      exact ⟨by rw [HQ.out]; rfl, rfl⟩
    · have hb : ((n : Int) == (s.size : Int)) = false := by rw [beq_eq_false_iff_ne]; omega
      have HQ := Lib.hid (show wordB s.data.toList = false from by rw [HR.out, decide_eq_false hq]; rfl)
      clear hq
      go_enter Try.func88, Try.ntmps88
      go_wp2_with (first
        | (go_at_call 91; refine (SZ.out _).mono ?_; rintro e w' ⟨rfl, rfl⟩)
        | (go_at_call 92; refine (SP.out _).mono ?_; rintro e w' ⟨rfl, rfl⟩))
      go_ret
      exact ⟨by rw [HQ.out]; rfl, rfl⟩


set_option maxHeartbeats 1600000 in
theorem pvar_any (s : ByteArray) (w : World) (hs : s.size ≤ 100000000) : Calls Try.prog 70 #[.string s] w (Pure w (.bool (varB s.data.toList))) := by
  have SZ0 := fun w => sized_any s 40 w hs (by omega)
  have SP0 := fun w => span_any s 3 w hs (by simp)
  have hr : varB s.data.toList = ((decide (0 < s.size) && decide (s.size ≤ 40)) && decide (spanN 3 s.data.toList = s.size)) := by rw [span_eq, all_var, varB, size_list]
  obtain ⟨z, hz⟩ : ∃ z, z = (decide (0 < s.size) && decide (s.size ≤ 40)) := ⟨_, rfl⟩
  obtain ⟨n, hn⟩ : ∃ n, n = spanN 3 s.data.toList := ⟨_, rfl⟩
  rw [← hz] at SZ0
  rw [← hn] at SP0
  rw [← hz, ← hn] at hr
  have SZ := Lib.hid SZ0
  have SP := Lib.hid SP0
  have HR := Lib.hid hr
  clear SZ0 SP0 hz hn hr
  cases z
  · have HQ := Lib.hid (show varB s.data.toList = false from by rw [HR.out]; rfl)
    go_enter Try.func70, Try.ntmps70
    go_wp2_with (go_at_call 91; refine (SZ.out _).mono ?_; rintro e w' ⟨rfl, rfl⟩)
    go_ret
    exact ⟨by rw [HQ.out]; rfl, rfl⟩
  · by_cases hq : n = s.size
    · have hb : ((n : Int) == (s.size : Int)) = true := by rw [hq]; simp
      have HQ := Lib.hid (show varB s.data.toList = true from by rw [HR.out, decide_eq_true hq]; rfl)
      clear hq
      go_enter Try.func70, Try.ntmps70
      go_wp2_with (first
        | (go_at_call 91; refine (SZ.out _).mono ?_; rintro e w' ⟨rfl, rfl⟩)
        | (go_at_call 92; refine (SP.out _).mono ?_; rintro e w' ⟨rfl, rfl⟩))
      go_ret
      exact ⟨by rw [HQ.out]; rfl, rfl⟩
    · have hb : ((n : Int) == (s.size : Int)) = false := by rw [beq_eq_false_iff_ne]; omega
      have HQ := Lib.hid (show varB s.data.toList = false from by rw [HR.out, decide_eq_false hq]; rfl)
      clear hq
      go_enter Try.func70, Try.ntmps70
      go_wp2_with (first
        | (go_at_call 91; refine (SZ.out _).mono ?_; rintro e w' ⟨rfl, rfl⟩)
        | (go_at_call 92; refine (SP.out _).mono ?_; rintro e w' ⟨rfl, rfl⟩))
      go_ret
      exact ⟨by rw [HQ.out]; rfl, rfl⟩


theorem name_ident (s : ByteArray) : nameB 40 s.data.toList = ((decide (0 < s.size) && decide (s.size ≤ 40)) && decide (identN s.data.toList = s.size)) := by
  by_cases h0 : 0 < s.size
  · obtain ⟨r, hr⟩ := cons_of h0
    have hn : nameB 40 s.data.toList = (decide (s.size ≤ 40) && letterB s[0] && s.data.toList.all innerB) := by rw [← size_list s, hr]; rfl
    have hi : identN s.data.toList = if letterB s[0] then spanN 7 s.data.toList else 0 := by rw [hr]; rfl
    rw [hn, hi, decide_eq_true h0, Bool.true_and]
    cases letterB s[0]
    · rw [if_neg (by simp), decide_eq_false (show ¬ 0 = s.size by omega)]; simp
    · rw [if_pos rfl, span_eq, all_name, Bool.and_true]
  · have hn : s.data.toList = [] := List.eq_nil_of_length_eq_zero (by rw [size_list]; omega)
    rw [hn, decide_eq_false h0]; rfl


set_option maxHeartbeats 1600000 in
theorem pname_any (s : ByteArray) (w : World) (hs : s.size ≤ 100000000) : Calls Try.prog 90 #[.string s] w (Pure w (.bool (nameB 40 s.data.toList))) := by
  have SZ0 := fun w => sized_any s 40 w hs (by omega)
  have SP0 := fun w => ident_any s w hs
  have hr : nameB 40 s.data.toList = ((decide (0 < s.size) && decide (s.size ≤ 40)) && decide (identN s.data.toList = s.size)) := by exact name_ident s
  obtain ⟨z, hz⟩ : ∃ z, z = (decide (0 < s.size) && decide (s.size ≤ 40)) := ⟨_, rfl⟩
  obtain ⟨n, hn⟩ : ∃ n, n = identN s.data.toList := ⟨_, rfl⟩
  rw [← hz] at SZ0
  rw [← hn] at SP0
  rw [← hz, ← hn] at hr
  have SZ := Lib.hid SZ0
  have SP := Lib.hid SP0
  have HR := Lib.hid hr
  clear SZ0 SP0 hz hn hr
  cases z
  · have HQ := Lib.hid (show nameB 40 s.data.toList = false from by rw [HR.out]; rfl)
    go_enter Try.func90, Try.ntmps90
    go_wp2_with (go_at_call 91; refine (SZ.out _).mono ?_; rintro e w' ⟨rfl, rfl⟩)
    go_ret
    exact ⟨by rw [HQ.out]; rfl, rfl⟩
  · by_cases hq : n = s.size
    · have hb : ((n : Int) == (s.size : Int)) = true := by rw [hq]; simp
      have HQ := Lib.hid (show nameB 40 s.data.toList = true from by rw [HR.out, decide_eq_true hq]; rfl)
      clear hq
      go_enter Try.func90, Try.ntmps90
      go_wp2_with (first
        | (go_at_call 91; refine (SZ.out _).mono ?_; rintro e w' ⟨rfl, rfl⟩)
        | (go_at_call 121; refine (SP.out _).mono ?_; rintro e w' ⟨rfl, rfl⟩))
      go_ret
      exact ⟨by rw [HQ.out]; rfl, rfl⟩
    · have hb : ((n : Int) == (s.size : Int)) = false := by rw [beq_eq_false_iff_ne]; omega
      have HQ := Lib.hid (show nameB 40 s.data.toList = false from by rw [HR.out, decide_eq_false hq]; rfl)
      clear hq
      go_enter Try.func90, Try.ntmps90
      go_wp2_with (first
        | (go_at_call 91; refine (SZ.out _).mono ?_; rintro e w' ⟨rfl, rfl⟩)
        | (go_at_call 121; refine (SP.out _).mono ?_; rintro e w' ⟨rfl, rfl⟩))
      go_ret
      exact ⟨by rw [HQ.out]; rfl, rfl⟩


theorem core_eq {s : ByteArray} (h0 : 0 < s.size) : coreB s.data.toList = (decide (s.size ≤ 500) && decide (spanN 2 s.data.toList = s.size) && !(s[0] == 48)) := by
  obtain ⟨r, hr⟩ := cons_of h0
  have e : s.data.toList.head? = some s[0] := by rw [hr]; rfl
  rw [coreB, span_eq, all_digit, size_list, decide_eq_true h0, e]
  simp

set_option maxHeartbeats 6400000 in
theorem pnumber_any (s : ByteArray) (w : World) (hs : s.size ≤ 100000000) : Calls Try.prog 89 #[.string s] w (Pure w (.bool (numB s.data.toList))) := by
  by_cases hz : s.data.toList = [48]
  · have e0 : (s.toList == [48]) = true := by rw [ByteArray.toList_eq, hz]; rfl
    have HR := Lib.hid (show numB s.data.toList = true from by rw [hz]; rfl)
    clear hz
    go_enter Try.func89, Try.ntmps89
    go_wp2
    go_ret
    exact ⟨by rw [HR.out]; rfl, rfl⟩
  · have e0 : (s.toList == [48]) = false := by rw [ByteArray.toList_eq]; simpa using hz
    have hN := numB_core _ hz
    obtain ⟨R, hR⟩ : ∃ R, R = numB s.data.toList := ⟨_, rfl⟩
    rw [← hR] at hN ⊢
    have HN := Lib.hid hN
    clear hz hN hR
    have HW := Lib.hid (show ∃ s' : ByteArray, ((0 < s.size ∧ (∃ h : 0 < s.size, s[0] = 45) ∧ s' = s.extract 1 s.size) ∨ (s.size = 0 ∧ s' = s) ∨ (0 < s.size ∧ (∃ h : 0 < s.size, s[0] ≠ 45) ∧ s' = s)) ∧ R = coreB s'.data.toList ∧ s'.size ≤ s.size from by
      by_cases h0 : 0 < s.size
      · obtain ⟨r, hr⟩ := cons_of h0
        by_cases h1 : s[0] = 45
        · exact ⟨s.extract 1 s.size, .inl ⟨h0, ⟨h0, h1⟩, rfl⟩, by rw [HN.out, ext_data, hr, unsign_cons, if_pos h1]; rfl, by simp⟩
        · exact ⟨s, .inr (.inr ⟨h0, ⟨h0, h1⟩, rfl⟩), by rw [HN.out, hr, unsign_cons, if_neg h1], Nat.le_refl _⟩
      · have hn : s.data.toList = [] := List.eq_nil_of_length_eq_zero (by rw [size_list]; omega)
        exact ⟨s, .inr (.inl ⟨by omega, rfl⟩), by rw [HN.out, hn]; rfl, Nat.le_refl _⟩)
    obtain ⟨s', hway, hnum, hsz⟩ := HW.out
    have HNUM := Lib.hid hnum
    have hs' : s'.size ≤ 100000000 := by omega
    have SZ0 := fun w => sized_any s' 500 w hs' (by omega)
    have SP0 := fun w => span_any s' 2 w hs' (by simp)
    obtain ⟨z, hzz⟩ : ∃ z, z = (decide (0 < s'.size) && decide (s'.size ≤ 500)) := ⟨_, rfl⟩
    obtain ⟨n, hn⟩ : ∃ n, n = spanN 2 s'.data.toList := ⟨_, rfl⟩
    rw [← hzz] at SZ0
    rw [← hn] at SP0
    have SZ := Lib.hid SZ0
    have SP := Lib.hid SP0
    have HZ := Lib.hid hzz
    have HSN := Lib.hid hn
    clear HW HN hnum hsz SZ0 SP0 hzz hn
    rcases hway with ⟨h0, ⟨_, h1⟩, hext⟩ | ⟨h0, hext⟩ | ⟨h0, ⟨_, h1⟩, hext⟩
    have e2 := empty_of h0
    have e3 := not_nil_of h0
    have e45 : ((s[0].toNat : Int) == 45) = true := by rw [h1]; rfl
    have HE := Lib.hid hext
    clear h1 hext
    go_enter Try.func89, Try.ntmps89
    go_wp2_with fail
    rw [← HE.out]
    clear e0 e2 e3 e45 HE
    rotate_left
    subst hext
    have e2 := nil_of h0
    go_enter Try.func89, Try.ntmps89
    go_wp2_with fail
    clear e0 e2 h0
    rotate_left
    subst hext
    have e2 := empty_of h0
    have e3 := not_nil_of h0
    have e45 : ((s'[0].toNat : Int) == 45) = false := by
      rw [beq_eq_false_iff_ne]
      intro e
      exact h1 (UInt8.toNat_inj.1 (by have e' : s'[0].toNat = 45 := by omega
                                      exact e'))
    clear h1
    go_enter Try.func89, Try.ntmps89
    go_wp2_with fail
    clear e0 e2 e3 e45
    rotate_left
    all_goals
      refine (SZ.out _).mono ?_
      rintro e w' ⟨rfl, rfl⟩
      cases z
      · have HQ := Lib.hid (show R = false from by
          have h1 := HZ.out
          rw [HNUM.out, coreB, size_list]
          rw [show (decide (0 < s'.size) && decide (s'.size ≤ 500)) = false from h1.symm]; rfl)
        go_wp2
        go_ret
        exact ⟨by rw [HQ.out]; rfl, rfl⟩
      · have h5 := HZ.out.symm
        rw [Bool.and_eq_true, decide_eq_true_eq, decide_eq_true_eq] at h5
        obtain ⟨h0', h5'⟩ := h5
        have HA := Lib.hid (show R = (decide (n = s'.size) && !(s'[0] == 48)) from by rw [HNUM.out, core_eq h0', ← HSN.out, decide_eq_true h5', Bool.true_and])
        by_cases hq : n = s'.size
        · have hb : ((n : Int) == (s'.size : Int)) = true := by rw [hq]; simp
          have HA2 := Lib.hid (show R = !(s'[0] == 48) from by rw [HA.out, decide_eq_true hq]; rfl)
          clear hq
          by_cases h48 : s'[0] = 48
          · have e48 : ((s'[0].toNat : Int) != 48) = false := by rw [h48]; rfl
            have HR := Lib.hid (show R = false from by rw [HA2.out, h48]; rfl)
            clear h48
            go_wp2_with (go_at_call 92; refine (SP.out _).mono ?_; rintro e w' ⟨rfl, rfl⟩)
            go_ret
            exact ⟨by rw [HR.out]; rfl, rfl⟩
          · have e48 : ((s'[0].toNat : Int) != 48) = true := by
              rw [bne_iff_ne]
              intro e
              have e' : s'[0].toNat = 48 := by omega
              exact h48 (UInt8.toNat_inj.1 e')
            have HR := Lib.hid (show R = true from by rw [HA2.out, show (s'[0] == 48) = false by simpa using h48]; rfl)
            clear h48
            go_wp2_with (go_at_call 92; refine (SP.out _).mono ?_; rintro e w' ⟨rfl, rfl⟩)
            go_ret
            exact ⟨by rw [HR.out]; rfl, rfl⟩
        · have hb : ((n : Int) == (s'.size : Int)) = false := by rw [beq_eq_false_iff_ne]; omega
          have HQ := Lib.hid (show R = false from by rw [HA.out, decide_eq_false hq]; rfl)
          clear hq
          go_wp2_with (go_at_call 92; refine (SP.out _).mono ?_; rintro e w' ⟨rfl, rfl⟩)
          go_ret
          exact ⟨by rw [HQ.out]; rfl, rfl⟩

end Go.Proofs.Ytajdpchojimigaa
