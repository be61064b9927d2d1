/- The tests of texts: bytes, names, words, numbers, variables: the reference's. -/
import Derived.Test.YtajdpchojimigaaMem
import Derived.Laws.IdiomStrings
import Derived.WalkSpells
namespace Go.Proofs.Ytajdpchojimigaa
open Go.RowKit TmM

/-- a result, the world as it was. -/
def Pure (w : World) (v : Value) (e : Ending) (w' : World) : Prop := e = .returned v ∧ w = w'

theorem byte_le (b : UInt8) : (0 : Int) ≤ (b.toNat : Int) ∧ (b.toNat : Int) ≤ 255 := ⟨by omega, by have := b.toNat_lt; omega⟩

set_option maxHeartbeats 800000 in
theorem digit_any (b : UInt8) (w : World) : Calls Try.prog 94 #[.int .u8 (b.toNat : Int)] w (Pure w (.bool (digitB b))) := by
  obtain ⟨n, hn⟩ : ∃ n : Nat, n = b.toNat := ⟨_, rfl⟩
  have hr : digitB b = (decide (48 ≤ n) && decide (n ≤ 57)) := by rw [hn]; rfl
  have HR := Lib.hid hr
  rw [← hn]
  clear hr hn
  by_cases h1 : (48 : Int) ≤ (n : Int)
  · by_cases h2 : (n : Int) ≤ 57
    · go_enter Try.func94, Try.ntmps94
      go_wp2
      go_ret
      exact ⟨by rw [HR.out, decide_eq_true (by omega), decide_eq_true (by omega)]; rfl, rfl⟩
    · go_enter Try.func94, Try.ntmps94
      go_wp2
      go_ret
      exact ⟨by rw [HR.out, decide_eq_false (show ¬ n ≤ 57 by omega), Bool.and_false]; rfl, rfl⟩
  · go_enter Try.func94, Try.ntmps94
    go_wp2
    go_ret
    exact ⟨by rw [HR.out, decide_eq_false (show ¬ 48 ≤ n by omega), Bool.false_and]; rfl, rfl⟩

set_option maxHeartbeats 1600000 in
theorem letter_any (b : UInt8) (w : World) : Calls Try.prog 93 #[.int .u8 (b.toNat : Int)] w (Pure w (.bool (letterB b))) := by
  obtain ⟨n, hn⟩ : ∃ n : Nat, n = b.toNat := ⟨_, rfl⟩
  have hr : letterB b = ((decide (97 ≤ n) && decide (n ≤ 122)) || (decide (65 ≤ n) && decide (n ≤ 90))) := by rw [hn]; rfl
  have HR := Lib.hid hr
  rw [← hn]
  clear hr hn
  rcases (show n < 65 ∨ (65 ≤ n ∧ n ≤ 90) ∨ (90 < n ∧ n < 97) ∨ (97 ≤ n ∧ n ≤ 122) ∨ 122 < n by omega) with h | ⟨h1, h2⟩ | ⟨h1, h2⟩ | ⟨h1, h2⟩ | h
  · have a1 : ¬ (97 : Int) ≤ (n : Int) := by omega
    have a3 : ¬ (65 : Int) ≤ (n : Int) := by omega
    go_enter Try.func93, Try.ntmps93
    go_wp2
    go_ret
    exact ⟨by rw [HR.out, decide_eq_false (show ¬ 97 ≤ n by omega), decide_eq_false (show ¬ 65 ≤ n by omega)]; rfl, rfl⟩
  · have a1 : ¬ (97 : Int) ≤ (n : Int) := by omega
    have a3 : (65 : Int) ≤ (n : Int) := by omega
    have a4 : (n : Int) ≤ 90 := by omega
    go_enter Try.func93, Try.ntmps93
    go_wp2
    go_ret
    exact ⟨by rw [HR.out, decide_eq_false (show ¬ 97 ≤ n by omega), decide_eq_true h1, decide_eq_true h2]; rfl, rfl⟩
  · have a1 : ¬ (97 : Int) ≤ (n : Int) := by omega
    have a3 : (65 : Int) ≤ (n : Int) := by omega
    have a4 : ¬ (n : Int) ≤ 90 := by omega
    go_enter Try.func93, Try.ntmps93
    go_wp2
    go_ret
    exact ⟨by rw [HR.out, decide_eq_false (show ¬ 97 ≤ n by omega), decide_eq_false (show ¬ n ≤ 90 by omega), Bool.and_false]; rfl, rfl⟩
  · have a1 : (97 : Int) ≤ (n : Int) := by omega
    have a2 : (n : Int) ≤ 122 := by omega
    go_enter Try.func93, Try.ntmps93
    go_wp2
    go_ret
    exact ⟨by rw [HR.out, decide_eq_true h1, decide_eq_true h2]; rfl, rfl⟩
  · have a1 : (97 : Int) ≤ (n : Int) := by omega
    have a2 : ¬ (n : Int) ≤ 122 := by omega
    have a3 : (65 : Int) ≤ (n : Int) := by omega
    have a4 : ¬ (n : Int) ≤ 90 := by omega
    go_enter Try.func93, Try.ntmps93
    go_wp2
    go_ret
    exact ⟨by rw [HR.out, decide_eq_false (show ¬ n ≤ 122 by omega), decide_eq_false (show ¬ n ≤ 90 by omega), Bool.and_false, Bool.and_false]; rfl, rfl⟩

set_option maxHeartbeats 1600000 in
theorem inner_any (b : UInt8) (w : World) : Calls Try.prog 145 #[.int .u8 (b.toNat : Int)] w (Pure w (.bool (innerB b))) := by
  have L := Lib.hid (fun w => letter_any b w)
  have D := Lib.hid (fun w => digit_any b w)
  obtain ⟨n, hn⟩ : ∃ n : Nat, n = b.toNat := ⟨_, rfl⟩
  have hr : innerB b = (letterB b || digitB b || n == 45 || n == 95) := by rw [hn]; rfl
  obtain ⟨l, hl⟩ : ∃ l, l = letterB b := ⟨_, rfl⟩
  obtain ⟨d, hd⟩ : ∃ d, d = digitB b := ⟨_, rfl⟩
  rw [← hl, ← hd] at hr
  rw [← hl, ← hn] at L
  rw [← hd, ← hn] at D
  rw [← hn]
  have HR := Lib.hid hr
  clear hr hl hd hn
  cases l
  · cases d
    · by_cases h1 : (n : Int) = 45
      · have hb : ((n : Int) == 45) = true := by rw [h1]; rfl
        have H1 := Lib.hid h1
        clear h1
        go_enter Try.func145, Try.ntmps145
        go_wp2_with (first
          | (go_at_call 93; refine (L.out _).mono ?_; rintro e w' ⟨rfl, rfl⟩)
          | (go_at_call 94; refine (D.out _).mono ?_; rintro e w' ⟨rfl, rfl⟩))
        go_ret
        exact ⟨by rw [HR.out, show n = 45 by have := H1.out; omega]; simp, rfl⟩
      · have hb : ((n : Int) == 45) = false := by simpa using h1
        by_cases h2 : (n : Int) = 95
        · have hb2 : ((n : Int) == 95) = true := by rw [h2]; rfl
          have H2 := Lib.hid h2
          clear h2
          go_enter Try.func145, Try.ntmps145
          go_wp2_with (first
            | (go_at_call 93; refine (L.out _).mono ?_; rintro e w' ⟨rfl, rfl⟩)
            | (go_at_call 94; refine (D.out _).mono ?_; rintro e w' ⟨rfl, rfl⟩))
          go_ret
          exact ⟨by rw [HR.out, show n = 95 by have := H2.out; omega]; simp, rfl⟩
        · have hb2 : ((n : Int) == 95) = false := by simpa using h2
          go_enter Try.func145, Try.ntmps145
          go_wp2_with (first
            | (go_at_call 93; refine (L.out _).mono ?_; rintro e w' ⟨rfl, rfl⟩)
            | (go_at_call 94; refine (D.out _).mono ?_; rintro e w' ⟨rfl, rfl⟩))
          go_ret
          exact ⟨by rw [HR.out, show (n == 45) = false by simp; omega, show (n == 95) = false by simp; omega]; rfl, rfl⟩
    · go_enter Try.func145, Try.ntmps145
      go_wp2_with (first
        | (go_at_call 93; refine (L.out _).mono ?_; rintro e w' ⟨rfl, rfl⟩)
        | (go_at_call 94; refine (D.out _).mono ?_; rintro e w' ⟨rfl, rfl⟩))
      go_ret
      exact ⟨by rw [HR.out]; simp, rfl⟩
  · go_enter Try.func145, Try.ntmps145
    go_wp2_with (first
      | (go_at_call 93; refine (L.out _).mono ?_; rintro e w' ⟨rfl, rfl⟩)
      | (go_at_call 94; refine (D.out _).mono ?_; rintro e w' ⟨rfl, rfl⟩))
    go_ret
    exact ⟨by rw [HR.out]; simp, rfl⟩
end Go.Proofs.Ytajdpchojimigaa
