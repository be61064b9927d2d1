/- The program's classes of bytes. -/
import Derived.Test.YtajdpchojimigaaTy
namespace Go.Proofs.Ytajdpchojimigaa
open Go.RowKit TmM

/-- the classes of a byte, as one number. -/
def clsN (n : Nat) : Nat :=
  if (65 ≤ n && n ≤ 90) || (97 ≤ n && n ≤ 122) then 17 else if 48 ≤ n && n ≤ 57 then 18 else if n == 45 || n == 95 then 20 else if n == 32 then 24 else if n == 9 || n == 10 || n == 13 then 8 else if 32 ≤ n && n ≤ 126 then 16 else 0
def isN (m n : Nat) : Bool :=
  let l := (65 ≤ n && n ≤ 90) || (97 ≤ n && n ≤ 122)
  let d := 48 ≤ n && n ≤ 57
  if m == 1 then l else if m == 2 then d else if m == 3 then l || d else if m == 7 then l || d || n == 45 || n == 95 else 32 ≤ n && n ≤ 126
theorem clsN_values : ∀ n, n < 256 → (clsN n = 17 ∨ clsN n = 18 ∨ clsN n = 20 ∨ clsN n = 24 ∨ clsN n = 8 ∨ clsN n = 16 ∨ clsN n = 0) := by decide +kernel
theorem clsN_is : ∀ n, n < 256 → ∀ m ∈ [1, 2, 3, 7, 16], isN m n = (Nat.land (clsN n) m != 0) := by decide +kernel
theorem isN_letter (b : UInt8) : isN 1 b.toNat = letterB b := by simp only [isN, letterB]; exact Bool.or_comm _ _
theorem isN_digit (b : UInt8) : isN 2 b.toNat = digitB b := rfl
theorem isN_both (b : UInt8) : isN 3 b.toNat = (letterB b || digitB b) := by rw [← isN_letter, ← isN_digit]; rfl
theorem isN_inner (b : UInt8) : isN 7 b.toNat = innerB b := by rw [innerB, ← isN_letter, ← isN_digit]; rfl
theorem isN_plain (b : UInt8) : isN 16 b.toNat = plainB b := rfl

set_option maxHeartbeats 6400000 in
theorem class_any (n : Nat) (w : World) (hn : n < 256) : Calls Try.prog 134 #[.int .u8 (n : Int)] w (Pure w (.int .i64 (clsN n))) := by
  rcases (show (0 ≤ n ∧ n ≤ 8) ∨ n = 9 ∨ n = 10 ∨ (11 ≤ n ∧ n ≤ 12) ∨ n = 13 ∨ (14 ≤ n ∧ n ≤ 31) ∨ n = 32 ∨ (33 ≤ n ∧ n ≤ 44) ∨ n = 45 ∨ (46 ≤ n ∧ n ≤ 47) ∨ (48 ≤ n ∧ n ≤ 57) ∨ (58 ≤ n ∧ n ≤ 64) ∨ (65 ≤ n ∧ n ≤ 90) ∨ (91 ≤ n ∧ n ≤ 94) ∨ n = 95 ∨ (96 ≤ n ∧ n ≤ 96) ∨ (97 ≤ n ∧ n ≤ 122) ∨ (123 ≤ n ∧ n ≤ 126) ∨ (127 ≤ n ∧ n ≤ 255) by omega) with ⟨h1, h2⟩ | rfl | rfl | ⟨h1, h2⟩ | rfl | ⟨h1, h2⟩ | rfl | ⟨h1, h2⟩ | rfl | ⟨h1, h2⟩ | ⟨h1, h2⟩ | ⟨h1, h2⟩ | ⟨h1, h2⟩ | ⟨h1, h2⟩ | rfl | ⟨h1, h2⟩ | ⟨h1, h2⟩ | ⟨h1, h2⟩ | ⟨h1, h2⟩
  · have HV := Lib.hid (show clsN n = 0 from (show ∀ n, n < 9 → 0 ≤ n → clsN n = 0 by decide +kernel) n (by omega) h1)
    have a1 : (0 : Int) ≤ (n : Int) := by omega
    have a2 : (n : Int) ≤ 8 := by omega
    have e45 : ((n : Int) == 45) = false := by rw [beq_eq_false_iff_ne]; omega
    have e95 : ((n : Int) == 95) = false := by rw [beq_eq_false_iff_ne]; omega
    have e32 : ((n : Int) == 32) = false := by rw [beq_eq_false_iff_ne]; omega
    have e9 : ((n : Int) == 9) = false := by rw [beq_eq_false_iff_ne]; omega
    have e10 : ((n : Int) == 10) = false := by rw [beq_eq_false_iff_ne]; omega
    have e13 : ((n : Int) == 13) = false := by rw [beq_eq_false_iff_ne]; omega
    clear hn h1 h2
    go_enter Try.func134, Try.ntmps134
    go_wp2
    go_ret
    exact ⟨by rw [HV.out]; rfl, rfl⟩
  · go_enter Try.func134, Try.ntmps134
    go_wp2
    go_ret
    exact ⟨rfl, rfl⟩
  · go_enter Try.func134, Try.ntmps134
    go_wp2
    go_ret
    exact ⟨rfl, rfl⟩
  · have HV := Lib.hid (show clsN n = 0 from (show ∀ n, n < 13 → 11 ≤ n → clsN n = 0 by decide +kernel) n (by omega) h1)
    have a1 : (11 : Int) ≤ (n : Int) := by omega
    have a2 : (n : Int) ≤ 12 := by omega
    have e45 : ((n : Int) == 45) = false := by rw [beq_eq_false_iff_ne]; omega
    have e95 : ((n : Int) == 95) = false := by rw [beq_eq_false_iff_ne]; omega
    have e32 : ((n : Int) == 32) = false := by rw [beq_eq_false_iff_ne]; omega
    have e9 : ((n : Int) == 9) = false := by rw [beq_eq_false_iff_ne]; omega
    have e10 : ((n : Int) == 10) = false := by rw [beq_eq_false_iff_ne]; omega
    have e13 : ((n : Int) == 13) = false := by rw [beq_eq_false_iff_ne]; omega
    clear hn h1 h2
    go_enter Try.func134, Try.ntmps134
    go_wp2
    go_ret
    exact ⟨by rw [HV.out]; rfl, rfl⟩
  · go_enter Try.func134, Try.ntmps134
    go_wp2
    go_ret
    exact ⟨rfl, rfl⟩
  · have HV := Lib.hid (show clsN n = 0 from (show ∀ n, n < 32 → 14 ≤ n → clsN n = 0 by decide +kernel) n (by omega) h1)
    have a1 : (14 : Int) ≤ (n : Int) := by omega
    have a2 : (n : Int) ≤ 31 := by omega
    have e45 : ((n : Int) == 45) = false := by rw [beq_eq_false_iff_ne]; omega
    have e95 : ((n : Int) == 95) = false := by rw [beq_eq_false_iff_ne]; omega
    have e32 : ((n : Int) == 32) = false := by rw [beq_eq_false_iff_ne]; omega
    have e9 : ((n : Int) == 9) = false := by rw [beq_eq_false_iff_ne]; omega
    have e10 : ((n : Int) == 10) = false := by rw [beq_eq_false_iff_ne]; omega
    have e13 : ((n : Int) == 13) = false := by rw [beq_eq_false_iff_ne]; omega
    clear hn h1 h2
    go_enter Try.func134, Try.ntmps134
    go_wp2
    go_ret
    exact ⟨by rw [HV.out]; rfl, rfl⟩
  · go_enter Try.func134, Try.ntmps134
    go_wp2
    go_ret
    exact ⟨rfl, rfl⟩
  · have HV := Lib.hid (show clsN n = 16 from (show ∀ n, n < 45 → 33 ≤ n → clsN n = 16 by decide +kernel) n (by omega) h1)
    have a1 : (33 : Int) ≤ (n : Int) := by omega
    have a2 : (n : Int) ≤ 44 := by omega
    have e45 : ((n : Int) == 45) = false := by rw [beq_eq_false_iff_ne]; omega
    have e95 : ((n : Int) == 95) = false := by rw [beq_eq_false_iff_ne]; omega
    have e32 : ((n : Int) == 32) = false := by rw [beq_eq_false_iff_ne]; omega
    have e9 : ((n : Int) == 9) = false := by rw [beq_eq_false_iff_ne]; omega
    have e10 : ((n : Int) == 10) = false := by rw [beq_eq_false_iff_ne]; omega
    have e13 : ((n : Int) == 13) = false := by rw [beq_eq_false_iff_ne]; omega
    clear hn h1 h2
    go_enter Try.func134, Try.ntmps134
    go_wp2
    go_ret
    exact ⟨by rw [HV.out]; rfl, rfl⟩
  · go_enter Try.func134, Try.ntmps134
    go_wp2
    go_ret
    exact ⟨rfl, rfl⟩
  · have HV := Lib.hid (show clsN n = 16 from (show ∀ n, n < 48 → 46 ≤ n → clsN n = 16 by decide +kernel) n (by omega) h1)
    have a1 : (46 : Int) ≤ (n : Int) := by omega
    have a2 : (n : Int) ≤ 47 := by omega
    have e45 : ((n : Int) == 45) = false := by rw [beq_eq_false_iff_ne]; omega
    have e95 : ((n : Int) == 95) = false := by rw [beq_eq_false_iff_ne]; omega
    have e32 : ((n : Int) == 32) = false := by rw [beq_eq_false_iff_ne]; omega
    have e9 : ((n : Int) == 9) = false := by rw [beq_eq_false_iff_ne]; omega
    have e10 : ((n : Int) == 10) = false := by rw [beq_eq_false_iff_ne]; omega
    have e13 : ((n : Int) == 13) = false := by rw [beq_eq_false_iff_ne]; omega
    clear hn h1 h2
    go_enter Try.func134, Try.ntmps134
    go_wp2
    go_ret
    exact ⟨by rw [HV.out]; rfl, rfl⟩
  · have HV := Lib.hid (show clsN n = 18 from (show ∀ n, n < 58 → 48 ≤ n → clsN n = 18 by decide +kernel) n (by omega) h1)
    have a1 : (48 : Int) ≤ (n : Int) := by omega
    have a2 : (n : Int) ≤ 57 := by omega
    have e45 : ((n : Int) == 45) = false := by rw [beq_eq_false_iff_ne]; omega
    have e95 : ((n : Int) == 95) = false := by rw [beq_eq_false_iff_ne]; omega
    have e32 : ((n : Int) == 32) = false := by rw [beq_eq_false_iff_ne]; omega
    have e9 : ((n : Int) == 9) = false := by rw [beq_eq_false_iff_ne]; omega
    have e10 : ((n : Int) == 10) = false := by rw [beq_eq_false_iff_ne]; omega
    have e13 : ((n : Int) == 13) = false := by rw [beq_eq_false_iff_ne]; omega
    clear hn h1 h2
    go_enter Try.func134, Try.ntmps134
    go_wp2
    go_ret
    exact ⟨by rw [HV.out]; rfl, rfl⟩
  · have HV := Lib.hid (show clsN n = 16 from (show ∀ n, n < 65 → 58 ≤ n → clsN n = 16 by decide +kernel) n (by omega) h1)
    have a1 : (58 : Int) ≤ (n : Int) := by omega
    have a2 : (n : Int) ≤ 64 := by omega
    have e45 : ((n : Int) == 45) = false := by rw [beq_eq_false_iff_ne]; omega
    have e95 : ((n : Int) == 95) = false := by rw [beq_eq_false_iff_ne]; omega
    have e32 : ((n : Int) == 32) = false := by rw [beq_eq_false_iff_ne]; omega
    have e9 : ((n : Int) == 9) = false := by rw [beq_eq_false_iff_ne]; omega
    have e10 : ((n : Int) == 10) = false := by rw [beq_eq_false_iff_ne]; omega
    have e13 : ((n : Int) == 13) = false := by rw [beq_eq_false_iff_ne]; omega
    clear hn h1 h2
    go_enter Try.func134, Try.ntmps134
    go_wp2
    go_ret
    exact ⟨by rw [HV.out]; rfl, rfl⟩
  · have HV := Lib.hid (show clsN n = 17 from (show ∀ n, n < 91 → 65 ≤ n → clsN n = 17 by decide +kernel) n (by omega) h1)
    have a1 : (65 : Int) ≤ (n : Int) := by omega
    have a2 : (n : Int) ≤ 90 := by omega
    have e45 : ((n : Int) == 45) = false := by rw [beq_eq_false_iff_ne]; omega
    have e95 : ((n : Int) == 95) = false := by rw [beq_eq_false_iff_ne]; omega
    have e32 : ((n : Int) == 32) = false := by rw [beq_eq_false_iff_ne]; omega
    have e9 : ((n : Int) == 9) = false := by rw [beq_eq_false_iff_ne]; omega
    have e10 : ((n : Int) == 10) = false := by rw [beq_eq_false_iff_ne]; omega
    have e13 : ((n : Int) == 13) = false := by rw [beq_eq_false_iff_ne]; omega
    clear hn h1 h2
    go_enter Try.func134, Try.ntmps134
    go_wp2
    go_ret
    exact ⟨by rw [HV.out]; rfl, rfl⟩
  · have HV := Lib.hid (show clsN n = 16 from (show ∀ n, n < 95 → 91 ≤ n → clsN n = 16 by decide +kernel) n (by omega) h1)
    have a1 : (91 : Int) ≤ (n : Int) := by omega
    have a2 : (n : Int) ≤ 94 := by omega
    have e45 : ((n : Int) == 45) = false := by rw [beq_eq_false_iff_ne]; omega
    have e95 : ((n : Int) == 95) = false := by rw [beq_eq_false_iff_ne]; omega
    have e32 : ((n : Int) == 32) = false := by rw [beq_eq_false_iff_ne]; omega
    have e9 : ((n : Int) == 9) = false := by rw [beq_eq_false_iff_ne]; omega
    have e10 : ((n : Int) == 10) = false := by rw [beq_eq_false_iff_ne]; omega
    have e13 : ((n : Int) == 13) = false := by rw [beq_eq_false_iff_ne]; omega
    clear hn h1 h2
    go_enter Try.func134, Try.ntmps134
    go_wp2
    go_ret
    exact ⟨by rw [HV.out]; rfl, rfl⟩
  · go_enter Try.func134, Try.ntmps134
    go_wp2
    go_ret
    exact ⟨rfl, rfl⟩
  · have HV := Lib.hid (show clsN n = 16 from (show ∀ n, n < 97 → 96 ≤ n → clsN n = 16 by decide +kernel) n (by omega) h1)
    have a1 : (96 : Int) ≤ (n : Int) := by omega
    have a2 : (n : Int) ≤ 96 := by omega
    have e45 : ((n : Int) == 45) = false := by rw [beq_eq_false_iff_ne]; omega
    have e95 : ((n : Int) == 95) = false := by rw [beq_eq_false_iff_ne]; omega
    have e32 : ((n : Int) == 32) = false := by rw [beq_eq_false_iff_ne]; omega
    have e9 : ((n : Int) == 9) = false := by rw [beq_eq_false_iff_ne]; omega
    have e10 : ((n : Int) == 10) = false := by rw [beq_eq_false_iff_ne]; omega
    have e13 : ((n : Int) == 13) = false := by rw [beq_eq_false_iff_ne]; omega
    clear hn h1 h2
    go_enter Try.func134, Try.ntmps134
    go_wp2
    go_ret
    exact ⟨by rw [HV.out]; rfl, rfl⟩
  · have HV := Lib.hid (show clsN n = 17 from (show ∀ n, n < 123 → 97 ≤ n → clsN n = 17 by decide +kernel) n (by omega) h1)
    have a1 : (97 : Int) ≤ (n : Int) := by omega
    have a2 : (n : Int) ≤ 122 := by omega
    have e45 : ((n : Int) == 45) = false := by rw [beq_eq_false_iff_ne]; omega
    have e95 : ((n : Int) == 95) = false := by rw [beq_eq_false_iff_ne]; omega
    have e32 : ((n : Int) == 32) = false := by rw [beq_eq_false_iff_ne]; omega
    have e9 : ((n : Int) == 9) = false := by rw [beq_eq_false_iff_ne]; omega
    have e10 : ((n : Int) == 10) = false := by rw [beq_eq_false_iff_ne]; omega
    have e13 : ((n : Int) == 13) = false := by rw [beq_eq_false_iff_ne]; omega
    clear hn h1 h2
    go_enter Try.func134, Try.ntmps134
    go_wp2
    go_ret
    exact ⟨by rw [HV.out]; rfl, rfl⟩
  · have HV := Lib.hid (show clsN n = 16 from (show ∀ n, n < 127 → 123 ≤ n → clsN n = 16 by decide +kernel) n (by omega) h1)
    have a1 : (123 : Int) ≤ (n : Int) := by omega
    have a2 : (n : Int) ≤ 126 := by omega
    have e45 : ((n : Int) == 45) = false := by rw [beq_eq_false_iff_ne]; omega
    have e95 : ((n : Int) == 95) = false := by rw [beq_eq_false_iff_ne]; omega
    have e32 : ((n : Int) == 32) = false := by rw [beq_eq_false_iff_ne]; omega
    have e9 : ((n : Int) == 9) = false := by rw [beq_eq_false_iff_ne]; omega
    have e10 : ((n : Int) == 10) = false := by rw [beq_eq_false_iff_ne]; omega
    have e13 : ((n : Int) == 13) = false := by rw [beq_eq_false_iff_ne]; omega
    clear hn h1 h2
    go_enter Try.func134, Try.ntmps134
    go_wp2
    go_ret
    exact ⟨by rw [HV.out]; rfl, rfl⟩
  · have HV := Lib.hid (show clsN n = 0 from (show ∀ n, n < 256 → 127 ≤ n → clsN n = 0 by decide +kernel) n (by omega) h1)
    have a1 : (127 : Int) ≤ (n : Int) := by omega
    have a2 : (n : Int) ≤ 255 := by omega
    have e45 : ((n : Int) == 45) = false := by rw [beq_eq_false_iff_ne]; omega
    have e95 : ((n : Int) == 95) = false := by rw [beq_eq_false_iff_ne]; omega
    have e32 : ((n : Int) == 32) = false := by rw [beq_eq_false_iff_ne]; omega
    have e9 : ((n : Int) == 9) = false := by rw [beq_eq_false_iff_ne]; omega
    have e10 : ((n : Int) == 10) = false := by rw [beq_eq_false_iff_ne]; omega
    have e13 : ((n : Int) == 13) = false := by rw [beq_eq_false_iff_ne]; omega
    clear hn h1 h2
    go_enter Try.func134, Try.ntmps134
    go_wp2
    go_ret
    exact ⟨by rw [HV.out]; rfl, rfl⟩

set_option maxHeartbeats 12800000 in
theorem is_any (n m : Nat) (w : World) (hn : n < 256) (hm : m ∈ [1, 2, 3, 7, 16]) : Calls Try.prog 107 #[.int .u8 (n : Int), .int .i64 (m : Int)] w (Pure w (.bool (isN m n))) := by
  have C := Lib.hid (fun w => class_any n w hn)
  have HI := Lib.hid (clsN_is n hn m hm)
  have hv := clsN_values n hn
  obtain ⟨v, hvv⟩ : ∃ v, v = clsN n := ⟨_, rfl⟩
  rw [← hvv] at C HI hv
  clear hvv hn
  simp only [List.mem_cons, List.not_mem_nil, or_false] at hm
  rcases hm with rfl | rfl | rfl | rfl | rfl <;> rcases hv with rfl | rfl | rfl | rfl | rfl | rfl | rfl
  all_goals
    go_enter Try.func107, Try.ntmps107
    go_wp2_with (go_at_call 134; refine (C.out _).mono ?_; rintro e w' ⟨rfl, rfl⟩)
    go_ret
    exact ⟨by rw [HI.out]; rfl, rfl⟩

end Go.Proofs.Ytajdpchojimigaa
