/- The reference's errors of expressions. -/
import Derived.Test.YtajdpchojimigaaFm
import Derived.Test.YtajdpchojimigaaSz
namespace Go.Proofs.Ytajdpchojimigaa
open Go.RowKit TmM

set_option maxHeartbeats 3200000 in
theorem wrong_any (most : Int) (f : Fo) (a : Option Addr) (cap : Nat) (w : World) (hc : f.count ≤ 1000000000) (hsm : Small f) (hs : Sl w.heap.size w a cap f) :
    Calls Try.prog 60 #[.slice a f.len cap, .int .i64 most] w (OutV w (.int .i64 (wrongC most f))) := by
  have S := Lib.hid (size_any f a cap w hc hs)
  have F := Lib.hid (form_any most f a cap w hsm hs)
  obtain ⟨m, hm⟩ : ∃ m, m = f.count := ⟨_, rfl⟩
  obtain ⟨d, hd⟩ : ∃ d, d = f.depth := ⟨_, rfl⟩
  obtain ⟨g, hg⟩ : ∃ g, g = formB most f := ⟨_, rfl⟩
  have hr : wrongC most f = if 4000 < m then 5 else if 100 < d then 6 else if g then 0 else 2 := by rw [hm, hd, hg]; rfl
  rw [← hm, ← hd] at S
  rw [← hg] at F
  have HR := Lib.hid hr
  clear hm hd hg hr hc hsm hs
  by_cases h1 : 4000 < m
  · have h1' : (4000 : Int) < (m : Int) := by omega
    have HF := Lib.hid (show wrongC most f = 5 from by rw [HR.out, if_pos h1])
    go_enter Try.func60, Try.ntmps60
    go_wp2_with (go_at_call 13; refine S.out.mono ?_; rintro e w2 ⟨rfl, rfl⟩)
    go_ret
    exact ⟨by rw [HF.out]; rfl, Below.refl _ _⟩
  · have h1' : ¬ (4000 : Int) < (m : Int) := by omega
    by_cases h2 : 100 < d
    · have h2' : (100 : Int) < (d : Int) := by omega
      have HF := Lib.hid (show wrongC most f = 6 from by rw [HR.out, if_neg h1, if_pos h2])
      go_enter Try.func60, Try.ntmps60
      go_wp2_with (go_at_call 13; refine S.out.mono ?_; rintro e w2 ⟨rfl, rfl⟩)
      go_ret
      exact ⟨by rw [HF.out]; rfl, Below.refl _ _⟩
    · have h2' : ¬ (100 : Int) < (d : Int) := by omega
      cases g
      · have HF := Lib.hid (show wrongC most f = 2 from by rw [HR.out, if_neg h1, if_neg h2]; rfl)
        go_enter Try.func60, Try.ntmps60
        go_wp2_with (first
          | (go_at_call 13; refine S.out.mono ?_; rintro e w2 ⟨rfl, rfl⟩)
          | (go_at_call 85; refine F.out.mono ?_; rintro e w3 ⟨rfl, hb3⟩))
        go_ret
        exact ⟨by rw [HF.out]; rfl, hb3⟩
      · have HF := Lib.hid (show wrongC most f = 0 from by rw [HR.out, if_neg h1, if_neg h2]; rfl)
        go_enter Try.func60, Try.ntmps60
        go_wp2_with (first
          | (go_at_call 13; refine S.out.mono ?_; rintro e w2 ⟨rfl, rfl⟩)
          | (go_at_call 85; refine F.out.mono ?_; rintro e w3 ⟨rfl, hb3⟩))
        go_ret
        exact ⟨by rw [HF.out]; rfl, hb3⟩

set_option maxHeartbeats 800000 in
theorem result_any (f : Fo) (a : Option Addr) (cap : Nat) (w : World) (hc : f.count ≤ 1000000000) (hsm : Small f) (hs : Sl w.heap.size w a cap f) :
    Calls Try.prog 19 #[.slice a f.len cap] w (OutV w (.int .i64 (wrongC 8 f))) := by
  have S := Lib.hid (wrong_any 8 f a cap w hc hsm hs)
  clear hc hsm hs
  go_enter Try.func19, Try.ntmps19
  go_wp2_with (go_at_call 60; refine S.out.mono ?_; rintro e w2 ⟨rfl, hb2⟩)
  go_ret
  exact ⟨rfl, hb2⟩

set_option maxHeartbeats 800000 in
theorem value_any (f : Fo) (a : Option Addr) (cap : Nat) (w : World) (hc : f.count ≤ 1000000000) (hsm : Small f) (hs : Sl w.heap.size w a cap f) :
    Calls Try.prog 17 #[.slice a f.len cap] w (OutV w (.int .i64 (wrongC 4 f))) := by
  have S := Lib.hid (wrong_any 4 f a cap w hc hsm hs)
  clear hc hsm hs
  go_enter Try.func17, Try.ntmps17
  go_wp2_with (go_at_call 60; refine S.out.mono ?_; rintro e w2 ⟨rfl, hb2⟩)
  go_ret
  exact ⟨rfl, hb2⟩
end Go.Proofs.Ytajdpchojimigaa
