/- Whether a term is right by itself: the reference. -/
import Derived.Test.YtajdpchojimigaaTn
namespace Go.Proofs.Ytajdpchojimigaa
open Go.RowKit TmM

theorem right_kids {k : Int} {t : ByteArray} {c : Fo} (h4 : k ≠ 4) (h8 : k ≠ 8) (hc : 0 < c.len) : rightB k t c = false := by rw [rightB, if_pos ⟨h4, h8, hc⟩]
theorem right_bare {k : Int} {t : ByteArray} {c : Fo} (hc : ¬ (k ≠ 4 ∧ k ≠ 8 ∧ 0 < c.len)) : rightB k t c = if k = 1 then decide (t.size = 1) else if k = 2 then wordB t.data.toList else if k = 3 then numB t.data.toList else if k = 4 then decide (t.size = 0) else if k = 5 ∨ k = 6 ∨ k = 7 then varB t.data.toList else if k = 8 then nameB 40 t.data.toList else false := by rw [rightB, if_neg hc]

set_option maxHeartbeats 6400000 in
set_option maxRecDepth 100000 in
theorem right_al (k : Int) (t : ByteArray) (c : Fo) (a : Option Addr) (cap : Nat) (w : World) (ht : t.size ≤ 1000000) :
    Calls Try.prog 118 #[.agg #[.int .i64 k, .string t, .slice a c.len cap]] w (fun e w' => e = .returned (.bool (rightB k t c)) ∧ w' = w.alloc (.cells #[.int .i64 k, .string t, .slice a c.len cap] 35)) := by
  obtain ⟨n, hn⟩ : ∃ n, n = c.len := ⟨_, rfl⟩
  rw [← hn]
  have HN := Lib.hid hn
  clear hn
  rcases (show k = 1 ∨ k = 2 ∨ k = 3 ∨ k = 5 ∨ k = 6 ∨ k = 7 ∨ k = 4 ∨ k = 8 ∨ (k ≠ 1 ∧ k ≠ 2 ∧ k ≠ 3 ∧ k ≠ 4 ∧ k ≠ 5 ∧ k ≠ 6 ∧ k ≠ 7 ∧ k ≠ 8) by omega) with rfl | rfl | rfl | rfl | rfl | rfl | rfl | rfl | ⟨h1, h2, h3, h4, h5, h6, h7, h8⟩
  · by_cases hc : 0 < n
    · have hc2 : (0 : Int) < (n : Int) := by omega
      have HR := Lib.hid (show rightB 1 t c = false from right_kids (by decide) (by decide) (by rw [← HN.out]; exact hc))
      clear hc
      go_enter Try.func118, Try.ntmps118
      go_wp2
      go_ret
      exact ⟨by rw [HR.out]; rfl, rfl⟩
    · have hc2 : ¬ (0 : Int) < (n : Int) := by omega
      have HQ := Lib.hid (right_bare (t := t) (k := 1) (c := c) (by rw [← HN.out]; exact fun h => hc h.2.2))
      clear hc
      by_cases hs : t.size = 1
      · have hs2 : ((t.size : Int) == 1) = true := by rw [hs]; rfl
        have HR := Lib.hid (show rightB 1 t c = true from by rw [HQ.out]; simp [hs])
        clear hs
        go_enter Try.func118, Try.ntmps118
        go_wp2
        go_ret
        exact ⟨by rw [HR.out]; rfl, rfl⟩
      · have hs2 : ((t.size : Int) == 1) = false := by rw [beq_eq_false_iff_ne]; omega
        have HR := Lib.hid (show rightB 1 t c = false from by rw [HQ.out]; simp [hs])
        clear hs
        go_enter Try.func118, Try.ntmps118
        go_wp2
        go_ret
        exact ⟨by rw [HR.out]; rfl, rfl⟩
  · by_cases hc : 0 < n
    · have hc2 : (0 : Int) < (n : Int) := by omega
      have HR := Lib.hid (show rightB 2 t c = false from right_kids (by decide) (by decide) (by rw [← HN.out]; exact hc))
      clear hc
      go_enter Try.func118, Try.ntmps118
      go_wp2
      go_ret
      exact ⟨by rw [HR.out]; rfl, rfl⟩
    · have hc2 : ¬ (0 : Int) < (n : Int) := by omega
      have HQ := Lib.hid (right_bare (t := t) (k := 2) (c := c) (by rw [← HN.out]; exact fun h => hc h.2.2))
      clear hc
      have C0 := fun w => word_any t w (by omega)
      obtain ⟨r, hr⟩ : ∃ r, r = wordB t.data.toList := ⟨_, rfl⟩
      rw [← hr] at C0
      have C := Lib.hid C0
      have HR := Lib.hid (show rightB 2 t c = r from by rw [HQ.out, hr]; simp)
      clear C0 hr
      go_enter Try.func118, Try.ntmps118
      go_wp2_with (go_at_call 139; refine (C.out _).mono ?_; rintro e w2 ⟨rfl, rfl⟩)
      go_ret
      exact ⟨by rw [HR.out]; rfl, rfl⟩
  · by_cases hc : 0 < n
    · have hc2 : (0 : Int) < (n : Int) := by omega
      have HR := Lib.hid (show rightB 3 t c = false from right_kids (by decide) (by decide) (by rw [← HN.out]; exact hc))
      clear hc
      go_enter Try.func118, Try.ntmps118
      go_wp2
      go_ret
      exact ⟨by rw [HR.out]; rfl, rfl⟩
    · have hc2 : ¬ (0 : Int) < (n : Int) := by omega
      have HQ := Lib.hid (right_bare (t := t) (k := 3) (c := c) (by rw [← HN.out]; exact fun h => hc h.2.2))
      clear hc
      have C0 := fun w => number_any t w (by omega)
      obtain ⟨r, hr⟩ : ∃ r, r = numB t.data.toList := ⟨_, rfl⟩
      rw [← hr] at C0
      have C := Lib.hid C0
      have HR := Lib.hid (show rightB 3 t c = r from by rw [HQ.out, hr]; simp)
      clear C0 hr
      go_enter Try.func118, Try.ntmps118
      go_wp2_with (go_at_call 141; refine (C.out _).mono ?_; rintro e w2 ⟨rfl, rfl⟩)
      go_ret
      exact ⟨by rw [HR.out]; rfl, rfl⟩
  · by_cases hc : 0 < n
    · have hc2 : (0 : Int) < (n : Int) := by omega
      have HR := Lib.hid (show rightB 5 t c = false from right_kids (by decide) (by decide) (by rw [← HN.out]; exact hc))
      clear hc
      go_enter Try.func118, Try.ntmps118
      go_wp2
      go_ret
      exact ⟨by rw [HR.out]; rfl, rfl⟩
    · have hc2 : ¬ (0 : Int) < (n : Int) := by omega
      have HQ := Lib.hid (right_bare (t := t) (k := 5) (c := c) (by rw [← HN.out]; exact fun h => hc h.2.2))
      clear hc
      have C0 := fun w => var_any t w (by omega)
      obtain ⟨r, hr⟩ : ∃ r, r = varB t.data.toList := ⟨_, rfl⟩
      rw [← hr] at C0
      have C := Lib.hid C0
      have HR := Lib.hid (show rightB 5 t c = r from by rw [HQ.out, hr]; simp)
      clear C0 hr
      go_enter Try.func118, Try.ntmps118
      go_wp2_with (go_at_call 71; refine (C.out _).mono ?_; rintro e w2 ⟨rfl, rfl⟩)
      go_ret
      exact ⟨by rw [HR.out]; rfl, rfl⟩
  · by_cases hc : 0 < n
    · have hc2 : (0 : Int) < (n : Int) := by omega
      have HR := Lib.hid (show rightB 6 t c = false from right_kids (by decide) (by decide) (by rw [← HN.out]; exact hc))
      clear hc
      go_enter Try.func118, Try.ntmps118
      go_wp2
      go_ret
      exact ⟨by rw [HR.out]; rfl, rfl⟩
    · have hc2 : ¬ (0 : Int) < (n : Int) := by omega
      have HQ := Lib.hid (right_bare (t := t) (k := 6) (c := c) (by rw [← HN.out]; exact fun h => hc h.2.2))
      clear hc
      have C0 := fun w => var_any t w (by omega)
      obtain ⟨r, hr⟩ : ∃ r, r = varB t.data.toList := ⟨_, rfl⟩
      rw [← hr] at C0
      have C := Lib.hid C0
      have HR := Lib.hid (show rightB 6 t c = r from by rw [HQ.out, hr]; simp)
      clear C0 hr
      go_enter Try.func118, Try.ntmps118
      go_wp2_with (go_at_call 71; refine (C.out _).mono ?_; rintro e w2 ⟨rfl, rfl⟩)
      go_ret
      exact ⟨by rw [HR.out]; rfl, rfl⟩
  · by_cases hc : 0 < n
    · have hc2 : (0 : Int) < (n : Int) := by omega
      have HR := Lib.hid (show rightB 7 t c = false from right_kids (by decide) (by decide) (by rw [← HN.out]; exact hc))
      clear hc
      go_enter Try.func118, Try.ntmps118
      go_wp2
      go_ret
      exact ⟨by rw [HR.out]; rfl, rfl⟩
    · have hc2 : ¬ (0 : Int) < (n : Int) := by omega
      have HQ := Lib.hid (right_bare (t := t) (k := 7) (c := c) (by rw [← HN.out]; exact fun h => hc h.2.2))
      clear hc
      have C0 := fun w => var_any t w (by omega)
      obtain ⟨r, hr⟩ : ∃ r, r = varB t.data.toList := ⟨_, rfl⟩
      rw [← hr] at C0
      have C := Lib.hid C0
      have HR := Lib.hid (show rightB 7 t c = r from by rw [HQ.out, hr]; simp)
      clear C0 hr
      go_enter Try.func118, Try.ntmps118
      go_wp2_with (go_at_call 71; refine (C.out _).mono ?_; rintro e w2 ⟨rfl, rfl⟩)
      go_ret
      exact ⟨by rw [HR.out]; rfl, rfl⟩
  · have HQ := Lib.hid (right_bare (t := t) (k := 4) (c := c) (by simp))
    by_cases hs : 0 < t.size
    · have hs2 := empty_of hs
      have hs3 := not_nil_of hs
      have HR := Lib.hid (show rightB 4 t c = false from by rw [HQ.out]; exact decide_eq_false (show ¬ t.size = 0 by omega))
      go_enter Try.func118, Try.ntmps118
      go_wp2
      go_ret
      exact ⟨by rw [HR.out]; rfl, rfl⟩
    · have hs2 := nil_of (s := t) (by omega)
      have HR := Lib.hid (show rightB 4 t c = true from by rw [HQ.out]; exact decide_eq_true (show t.size = 0 by omega))
      go_enter Try.func118, Try.ntmps118
      go_wp2
      go_ret
      exact ⟨by rw [HR.out]; rfl, rfl⟩
  · have HQ := Lib.hid (right_bare (t := t) (k := 8) (c := c) (by simp))
    have C0 := fun w => name_any t w (by omega)
    obtain ⟨r, hr⟩ : ∃ r, r = nameB 40 t.data.toList := ⟨_, rfl⟩
    rw [← hr] at C0
    have C := Lib.hid C0
    have HR := Lib.hid (show rightB 8 t c = r from by rw [HQ.out, hr]; simp)
    clear C0 hr
    go_enter Try.func118, Try.ntmps118
    go_wp2_with (go_at_call 130; refine (C.out _).mono ?_; rintro e w2 ⟨rfl, rfl⟩)
    go_ret
    exact ⟨by rw [HR.out]; rfl, rfl⟩
  · have e1 : (k == 1) = false := by simpa using h1
    have e2 : (k == 2) = false := by simpa using h2
    have e3 : (k == 3) = false := by simpa using h3
    have e4 : (k == 4) = false := by simpa using h4
    have e5 : (k == 5) = false := by simpa using h5
    have e6 : (k == 6) = false := by simpa using h6
    have e7 : (k == 7) = false := by simpa using h7
    have e8 : (k == 8) = false := by simpa using h8
    have n4 : (k != 4) = true := by simpa using h4
    have n8 : (k != 8) = true := by simpa using h8
    have HR := Lib.hid (show rightB k t c = false from by
      by_cases hc : k ≠ 4 ∧ k ≠ 8 ∧ 0 < c.len
      · exact right_kids h4 h8 hc.2.2
      · rw [right_bare hc]; simp [h1, h2, h3, h4, h5, h6, h7, h8])
    clear h1 h2 h3 h4 h5 h6 h7 h8
    by_cases hc : (0 : Int) < (n : Int)
    · go_enter Try.func118, Try.ntmps118
      go_wp2
      go_ret
      exact ⟨by rw [HR.out]; rfl, rfl⟩
    · go_enter Try.func118, Try.ntmps118
      go_wp2
      go_ret
      exact ⟨by rw [HR.out]; rfl, rfl⟩
theorem right_any (k : Int) (t : ByteArray) (c : Fo) (a : Option Addr) (cap : Nat) (w : World) (ht : t.size ≤ 1000000) :
    Calls Try.prog 118 #[.agg #[.int .i64 k, .string t, .slice a c.len cap]] w (OutV w (.bool (rightB k t c))) :=
  (right_al k t c a cap w ht).mono fun _ _ ⟨he, hw⟩ => ⟨he, by rw [hw]; exact (Below.refl _ _).alloc (Nat.le_refl _) _⟩
end Go.Proofs.Ytajdpchojimigaa
