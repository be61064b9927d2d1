/- The program's Up. -/
import Derived.Test.YtfajodndpoepcaaVe
import Derived.Test.YtfajodndpoepcaaPs
import Derived.Test.YtfajodndpoepcaaPz
namespace Go.Proofs.Ytfajodndpoepcaa
open Go.RowKit TmM

theorem mc_any (f : Fo) (a : Option Addr) (cap : Nat) (w : World) (hc : f.count ≤ 1000000) (hf : formB 8 f = true) (hs : Sl w.heap.size w a cap f) :
    Calls Try.prog 25 #[.slice a f.len cap] w (OutF w (up f)) := mc_n 1000000 (Nat.le_refl _) f a cap w hc hf hs

set_option maxHeartbeats 3200000 in
theorem psizeError_any (g : Fo) (a : Option Addr) (cap : Nat) (w : World) (hc : g.count ≤ 1000000) (hs : Sl w.heap.size w a cap g) :
    Calls Try.prog 26 #[.slice a g.len cap] w (OutV w (.int .i64 (fitsC g))) := by
  have S := Lib.hid (psize_any g a cap w hc hs)
  obtain ⟨m, hm⟩ : ∃ m, m = g.count := ⟨_, rfl⟩
  obtain ⟨d, hd⟩ : ∃ d, d = g.depth := ⟨_, rfl⟩
  have hr : fitsC g = if 4000 < m then 7 else if 100 < d then 6 else 0 := by rw [hm, hd]; rfl
  rw [← hm, ← hd] at S
  have HR := Lib.hid hr
  clear hm hd hr hc hs
  by_cases h1 : 4000 < m
  · have h1' : (4000 : Int) < (m : Int) := by omega
    have HF := Lib.hid (show fitsC g = 7 from by rw [HR.out, if_pos h1])
    go_enter Try.func26, Try.ntmps26
    go_wp2_with (go_at_call 40; refine S.out.mono ?_; rintro e w2 ⟨rfl, hb2⟩)
    go_ret
    exact ⟨by rw [HF.out]; rfl, hb2⟩
  · have h1' : ¬ (4000 : Int) < (m : Int) := by omega
    by_cases h2 : 100 < d
    · have h2' : (100 : Int) < (d : Int) := by omega
      have HF := Lib.hid (show fitsC g = 6 from by rw [HR.out, if_neg h1, if_pos h2])
      go_enter Try.func26, Try.ntmps26
      go_wp2_with (go_at_call 40; refine S.out.mono ?_; rintro e w2 ⟨rfl, hb2⟩)
      go_ret
      exact ⟨by rw [HF.out]; rfl, hb2⟩
    · have h2' : ¬ (100 : Int) < (d : Int) := by omega
      have HF := Lib.hid (show fitsC g = 0 from by rw [HR.out, if_neg h1, if_neg h2])
      go_enter Try.func26, Try.ntmps26
      go_wp2_with (go_at_call 40; refine S.out.mono ?_; rintro e w2 ⟨rfl, hb2⟩)
      go_ret
      exact ⟨by rw [HF.out]; rfl, hb2⟩
set_option maxHeartbeats 3200000 in
theorem pUp_any (f : Fo) (a : Option Addr) (cap : Nat) (w : World) (hc : f.count ≤ 1000000) (hsm : Small f) (hs : Sl w.heap.size w a cap f) :
    Calls Try.prog 11 #[.slice a f.len cap] w (OutUp w f) := by
  have S := Lib.hid (presult_any f a cap w hc hsm hs)
  have HS := Lib.hid hs
  have HC := Lib.hid hc
  obtain ⟨q, hq⟩ : ∃ q, q = wrongC 8 f := ⟨_, rfl⟩
  obtain ⟨r, hr⟩ : ∃ r, r = fitsC (up f) := ⟨_, rfl⟩
  have HR := Lib.hid (show upR f = if q ≠ 0 then (.nil, q) else if r ≠ 0 then (.nil, r) else (up f, 0) from by rw [hq, hr]; rfl)
  have HF := Lib.hid hr
  have HUC := Lib.hid (show wrongC 8 f = 0 → (up f).count ≤ 1000000 from fun h => by have h1 := count_up f; have h2 := (wrong_form h).1; omega)
  have HQ := Lib.hid hq
  rw [← hq] at S
  clear hq hr hc hsm hs
  by_cases h0 : q = 0
  · subst h0
    have HW0 := Lib.hid HQ.out.symm
    go_enter Try.func11, Try.ntmps11
    go_wp2_with fail
    refine S.out.mono ?_
    rintro e w2 ⟨rfl, hb2⟩
    have hs2 := HS.out.later hb2
    go_wp2_with fail
    refine (mc_any f a cap w2 (by have := (wrong_form HW0.out).1; omega) (wrong_form HW0.out).2.2 hs2).mono ?_
    rintro e w3 ⟨a3, cap3, rfl, hs3, hb3⟩
    have FT := Lib.hid (psizeError_any (up f) a3 cap3 w3 (HUC.out HW0.out) (hs3.out.sl (fun b hb => hb.2)))
    have hb23 := hb2.trans (hb3.mono hb2.size)
    rw [← HF.out] at FT
    obtain ⟨m, hm⟩ : ∃ m, m = (up f).len := ⟨_, rfl⟩
    have HM := Lib.hid hm
    rw [← hm] at FT ⊢
    clear hm
    have hs4 := Lib.hid (hs3.out.mono (fun b hb => (⟨Nat.le_trans hb2.size hb.1, hb.2⟩ : w.heap.size ≤ b ∧ b < w3.heap.size)) (fun _ _ => rfl))
    by_cases h1 : r = 0
    · subst h1
      go_wp2_with fail
      refine FT.out.mono ?_
      rintro e w4 ⟨rfl, hb4⟩
      go_wp2
      go_ret2
      exact outUp_ok (by rw [HR.out]; rfl) HM.out (hs4.out.mono (fun b hb => ⟨hb.1, Nat.lt_of_lt_of_le hb.2 hb4.size⟩) (fun b hb => hb4.block b hb.2)) (hb23.trans (hb4.mono hb23.size))
    · have e1 : (r == 0) = false := by simpa using h1
      have HE := Lib.hid (show upR f = (.nil, r) from by rw [HR.out, if_neg (by simp), if_pos h1])
      clear h1
      go_wp2_with fail
      refine FT.out.mono ?_
      rintro e w4 ⟨rfl, hb4⟩
      go_wp2
      go_ret2
      exact outUp_err HE.out (hb23.trans (hb4.mono hb23.size))
  · have e1 : (q == 0) = false := by simpa using h0
    have HE := Lib.hid (show upR f = (.nil, q) from by rw [HR.out, if_pos h0])
    clear h0
    go_enter Try.func11, Try.ntmps11
    go_wp2_with fail
    refine S.out.mono ?_
    rintro e w2 ⟨rfl, hb2⟩
    go_wp2
    go_ret2
    exact outUp_err HE.out hb2
end Go.Proofs.Ytfajodndpoepcaa
