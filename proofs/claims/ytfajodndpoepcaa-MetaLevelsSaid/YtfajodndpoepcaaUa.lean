/- The reference's terms of metacode: chars, letters, whether they fit. -/
import Derived.Test.YtfajodndpoepcaaWr
import Derived.Test.YtfajodndpoepcaaBd
namespace Go.Proofs.Ytfajodndpoepcaa
open Go.RowKit TmM

theorem rchar_any (s : ByteArray) (w : World) : Calls Try.prog 42 #[.string s] w (OutV w (.agg #[.int .i64 1, .string s, .slice none 0 0])) := by
  go_enter Try.func42, Try.ntmps42
  go_wp2
  refine bodyPost_ret (v := .agg #[.int .i64 1, .string s, .slice none 0 0]) (by simp [results, Try.results42, go_sem]) rfl ?_
  have hb : Below w.heap.size w (w.alloc (.cells #[.int .i64 1, .string s, .slice none 0 0] 35)) := (Below.refl _ _).alloc (Nat.le_refl _) _
  exact ⟨rfl, hb⟩

/-- the letter of a kind of variables. -/
def letterOf (k : Int) : ByteArray := if k = 5 then ⟨#[83]⟩ else if k = 6 then ⟨#[84]⟩ else ⟨#[69]⟩

theorem rletter_any (k : Int) (w : World) : Calls Try.prog 43 #[.int .i64 k] w (OutV w (.string (letterOf k))) := by
  by_cases h5 : k = 5
  · subst h5
    go_enter Try.func43, Try.ntmps43
    go_wp2
    go_ret
    exact ⟨rfl, Below.refl _ _⟩
  · by_cases h6 : k = 6
    · subst h6
      go_enter Try.func43, Try.ntmps43
      go_wp2
      go_ret
      exact ⟨rfl, Below.refl _ _⟩
    · have HL := Lib.hid (show letterOf k = ⟨#[69]⟩ from by rw [letterOf, if_neg h5, if_neg h6])
      have e5 : (k == 5) = false := by simpa using h5
      have e6 : (k == 6) = false := by simpa using h6
      clear h5 h6
      go_enter Try.func43, Try.ntmps43
      go_wp2
      go_ret
      exact ⟨by rw [HL.out]; rfl, Below.refl _ _⟩

/-- the error of metacode beyond the limits. -/
def fitsC (g : Fo) : Int := if 4000 < g.count then 7 else if 100 < g.depth then 6 else 0

set_option maxHeartbeats 3200000 in
theorem fits_any (g : Fo) (a : Option Addr) (cap : Nat) (w : World) (hc : g.count ≤ 1000000000) (hs : Sl w.heap.size w a cap g) :
    Calls Try.prog 29 #[.slice a g.len cap] w (OutV w (.int .i64 (fitsC g))) := by
  have S := Lib.hid (size_any g a cap w hc hs)
  obtain ⟨m, hm⟩ : ∃ m, m = g.count := ⟨_, rfl⟩
  obtain ⟨d, hd⟩ : ∃ d, d = g.depth := ⟨_, rfl⟩
  have hr : fitsC g = if 4000 < m then 7 else if 100 < d then 6 else 0 := by rw [hm, hd]; rfl
  rw [← hm, ← hd] at S
  have HR := Lib.hid hr
  clear hm hd hr hc hs
  by_cases h1 : 4000 < m
  · have h1' : (4000 : Int) < (m : Int) := by omega
    have HF := Lib.hid (show fitsC g = 7 from by rw [HR.out, if_pos h1])
    go_enter Try.func29, Try.ntmps29
    go_wp2_with (go_at_call 44; refine S.out.mono ?_; rintro e w2 ⟨rfl, rfl⟩)
    go_ret
    exact ⟨by rw [HF.out]; rfl, Below.refl _ _⟩
  · have h1' : ¬ (4000 : Int) < (m : Int) := by omega
    by_cases h2 : 100 < d
    · have h2' : (100 : Int) < (d : Int) := by omega
      have HF := Lib.hid (show fitsC g = 6 from by rw [HR.out, if_neg h1, if_pos h2])
      go_enter Try.func29, Try.ntmps29
      go_wp2_with (go_at_call 44; refine S.out.mono ?_; rintro e w2 ⟨rfl, rfl⟩)
      go_ret
      exact ⟨by rw [HF.out]; rfl, Below.refl _ _⟩
    · have h2' : ¬ (100 : Int) < (d : Int) := by omega
      have HF := Lib.hid (show fitsC g = 0 from by rw [HR.out, if_neg h1, if_neg h2])
      go_enter Try.func29, Try.ntmps29
      go_wp2_with (go_at_call 44; refine S.out.mono ?_; rintro e w2 ⟨rfl, rfl⟩)
      go_ret
      exact ⟨by rw [HF.out]; rfl, Below.refl _ _⟩
end Go.Proofs.Ytfajodndpoepcaa
