/- The reference's Up. -/
import Derived.Test.YtfajodndpoepcaaUc
namespace Go.Proofs.Ytfajodndpoepcaa
open Go.RowKit TmM

/-- what Up answers. -/
def upR (f : Fo) : Fo × Int := if wrongC 8 f ≠ 0 then (.nil, wrongC 8 f) else if fitsC (up f) ≠ 0 then (.nil, fitsC (up f)) else (up f, 0)
def OutUp (w : World) (f : Fo) (e : Ending) (w' : World) : Prop :=
  ∃ a cap, e = .returned (.tuple #[.slice a (upR f).1.len cap, .int .i64 (upR f).2]) ∧ Hid (SlS (fun b => w.heap.size ≤ b ∧ b < w'.heap.size) w' a cap (upR f).1) ∧ Below w.heap.size w w'

theorem wrong_form {f : Fo} (h : wrongC 8 f = 0) : f.count ≤ 4000 ∧ f.depth ≤ 100 ∧ formB 8 f = true := by
  unfold wrongC at h
  by_cases h1 : 4000 < f.count
  · rw [if_pos h1] at h; omega
  · rw [if_neg h1] at h
    by_cases h2 : 100 < f.depth
    · rw [if_pos h2] at h; omega
    · rw [if_neg h2] at h
      cases hf : formB 8 f
      · rw [hf] at h; simp at h
      · exact ⟨by omega, by omega, rfl⟩

theorem rup_any (f : Fo) (a : Option Addr) (cap : Nat) (w : World) (hc : f.count ≤ 1000000) (hs : Sl w.heap.size w a cap f) :
    Calls Try.prog 28 #[.slice a f.len cap] w (OutF w (up f)) := rup_n 1000000 (Nat.le_refl _) f a cap w hc hs

theorem outUp_err {w w' : World} {f : Fo} {q : Int} (h : upR f = (.nil, q)) (hb : Below w.heap.size w w') : OutUp w f (.returned (.tuple #[.slice none 0 0, .int .i64 q])) w' :=
  ⟨none, 0, by rw [h]; rfl, Lib.hid (by rw [h]; exact SlS.nil), hb⟩
theorem outUp_ok {w w' : World} {f : Fo} {a : Option Addr} {cap m : Nat} (h : upR f = (up f, 0)) (hm : m = (up f).len) (hs : SlS (fun b => w.heap.size ≤ b ∧ b < w'.heap.size) w' a cap (up f)) (hb : Below w.heap.size w w') : OutUp w f (.returned (.tuple #[.slice a m cap, .int .i64 0])) w' :=
  ⟨a, cap, by rw [h, hm], Lib.hid (by rw [h]; exact hs), hb⟩

set_option maxHeartbeats 3200000 in
theorem rUp_any (f : Fo) (a : Option Addr) (cap : Nat) (w : World) (hc : f.count ≤ 1000000) (hsm : Small f) (hs : Sl w.heap.size w a cap f) :
    Calls Try.prog 12 #[.slice a f.len cap] w (OutUp w f) := by
  have S := Lib.hid (result_any f a cap w (by omega) hsm hs)
  have HS := Lib.hid hs
  have HC := Lib.hid hc
  obtain ⟨q, hq⟩ : ∃ q, q = wrongC 8 f := ⟨_, rfl⟩
  obtain ⟨r, hr⟩ : ∃ r, r = fitsC (up f) := ⟨_, rfl⟩
  have HR := Lib.hid (show upR f = if q ≠ 0 then (.nil, q) else if r ≠ 0 then (.nil, r) else (up f, 0) from by rw [hq, hr]; rfl)
  have HF := Lib.hid hr
  have HUC := Lib.hid (show (up f).count ≤ 1000000000 from by have := count_up f; omega)
  rw [← hq] at S
  clear hq hr hc hsm hs
  by_cases h0 : q = 0
  · subst h0
    go_enter Try.func12, Try.ntmps12
    go_wp2_with fail
    refine S.out.mono ?_
    rintro e w2 ⟨rfl, hb2⟩
    have hs2 := HS.out.later hb2
    go_wp2_with fail
    refine (rup_any f a cap w2 HC.out hs2).mono ?_
    rintro e w3 ⟨a3, cap3, rfl, hs3, hb3⟩
    have FT := Lib.hid (fits_any (up f) a3 cap3 w3 HUC.out (hs3.out.sl (fun b hb => hb.2)))
    have hb23 := hb2.trans (hb3.mono hb2.size)
    rw [← HF.out] at FT
    obtain ⟨m, hm⟩ : ∃ m, m = (up f).len := ⟨_, rfl⟩
    have HM := Lib.hid hm
    rw [← hm] at FT ⊢
    clear hm
    have hs4 := Lib.hid (hs3.out.mono (fun b hb => (⟨Nat.le_trans hb2.size hb.1, hb.2⟩ : w.heap.size ≤ b ∧ b < w3.heap.size)) (fun _ _ => rfl))
    by_cases h1 : r = 0
    · subst h1
      go_wp2_with fail
      refine FT.out.mono ?_
      rintro e w4 ⟨rfl, hb4⟩
      go_wp2
      go_ret2
      exact outUp_ok (by rw [HR.out]; rfl) HM.out (hs4.out.mono (fun b hb => ⟨hb.1, Nat.lt_of_lt_of_le hb.2 hb4.size⟩) (fun b hb => hb4.block b hb.2)) (hb23.trans (hb4.mono hb23.size))
    · have e1 : (r == 0) = false := by simpa using h1
      have HE := Lib.hid (show upR f = (.nil, r) from by rw [HR.out, if_neg (by simp), if_pos h1])
      clear h1
      go_wp2_with fail
      refine FT.out.mono ?_
      rintro e w4 ⟨rfl, hb4⟩
      go_wp2
      go_ret2
      exact outUp_err HE.out (hb23.trans (hb4.mono hb23.size))
  · have e1 : (q == 0) = false := by simpa using h0
    have HE := Lib.hid (show upR f = (.nil, q) from by rw [HR.out, if_pos h0])
    clear h0
    go_enter Try.func12, Try.ntmps12
    go_wp2_with fail
    refine S.out.mono ?_
    rintro e w2 ⟨rfl, hb2⟩
    go_wp2
    go_ret2
    exact outUp_err HE.out hb2
end Go.Proofs.Ytfajodndpoepcaa
