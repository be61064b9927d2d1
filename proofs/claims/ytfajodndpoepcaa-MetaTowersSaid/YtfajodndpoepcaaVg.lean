/- The law on Up: the walk. -/
import Derived.Test.YtfajodndpoepcaaVf
import Derived.Test.YtfajodndpoepcaaLs
import Derived.Test.YtfajodndpoepcaaTc
namespace Go.Proofs.Ytfajodndpoepcaa
open Go.RowKit TmM

def awakeF : Fo := .cons 5 ⟨#[120]⟩ .nil .nil
theorem awake_right : upR awakeF = (.cons 1 ⟨#[42]⟩ .nil (.cons 1 ⟨#[83]⟩ .nil (.cons 2 ⟨#[120]⟩ .nil .nil)), 0) := by
  have hf : formB 8 awakeF = true := by decide
  have h : wrongC 8 awakeF = 0 := by
    unfold wrongC
    rw [if_neg (by decide), if_neg (by decide), if_pos hf]
  have hu : up awakeF = .cons 1 ⟨#[42]⟩ .nil (.cons 1 ⟨#[83]⟩ .nil (.cons 2 ⟨#[120]⟩ .nil .nil)) := up1_s ⟨#[120]⟩ .nil
  have h2 : fitsC (up awakeF) = 0 := by rw [hu]; decide
  unfold upR
  rw [if_neg (by simp [h]), if_neg (by simp [h2]), hu]

set_option maxHeartbeats 3200000 in
theorem awake_any (w : World) : Calls Try.prog 10 #[] w (OutV w (.bool true)) := by
  have hsm : Small awakeF := ⟨by decide, trivial, trivial⟩
  go_enter Try.func10, Try.ntmps10
  go_wp2_with fail
  obtain ⟨W, hW⟩ : ∃ W, W = w.alloc (.cells #[.int .i64 5, .string ⟨#[120]⟩, .slice none 0 0] 35) := ⟨_, rfl⟩
  have hb : Below w.heap.size w W := by rw [hW]; exact (Below.refl _ _).alloc (Nat.le_refl _) _
  have hr0 : RepsS (fun _ => False) w [.int .i64 5, .string ⟨#[120]⟩, .slice none 0 0] awakeF := RepsS.one SlS.nil
  have hB0 := Built.lit (base := w.heap.size) (n := w.heap.size) (m := 1) hr0 rfl rfl (fun _ h => h.elim) (by decide) (Nat.le_refl _)
  have hB1 : Built w.heap.size W (.slice (some ⟨w.heap.size, 0, none⟩) 1 1) awakeF := by rw [hW]; exact hB0
  obtain ⟨a0, cap0, hv0, hs0⟩ := hB1.sls
  have hsW : Sl W.heap.size W (some ⟨w.heap.size, 0, none⟩) 1 awakeF := by
    cases hv0
    exact hs0.sl (fun b hb => hb.2)
  have S := Lib.hid (pUp_any awakeF (some ⟨w.heap.size, 0, none⟩) 1 W (by decide) hsm hsW)
  rw [← hW]
  clear hB0 hB1 hv0 hs0 hsW hr0 hW
  refine S.out.mono ?_
  rintro e w2 ⟨a2, cap2, rfl, hs2, hb2⟩
  have hb02 := hb.trans (hb2.mono hb.size)
  have HB := Lib.hid hb02
  rw [awake_right] at hs2 ⊢
  obtain ⟨b, o, hab, hbw, HCX⟩ := base_of (hs2.out.sl (fun b hb => hb.2))
  obtain rfl := hab (by decide)
  obtain ⟨x0, x1, _, _, x2, _⟩ := HCX.out 0 1 ⟨#[42]⟩ .nil _ rfl
  obtain ⟨y0, y1, _, _, y2, _⟩ := HCX.out 1 1 ⟨#[83]⟩ .nil _ rfl
  obtain ⟨z0, z1, _, _, z2, _⟩ := HCX.out 2 2 ⟨#[120]⟩ .nil _ rfl
  clear hb2 hb02 hbw HCX hs2 S x2 y2 z2
  simp only [Nat.zero_mul, Nat.add_zero, Nat.one_mul, Nat.reduceMul] at x0 x1 y0 y1 z0 z1
  go_wp2
  go_ret
  exact ⟨rfl, HB.out⟩

set_option maxHeartbeats 3200000 in
theorem lawUp_any (f : Fo) (a : Option Addr) (cap : Nat) (w : World) (hs : Sl w.heap.size w a cap f) :
    Calls Try.prog 3 #[.slice a f.len cap] w (OutV w (.bool true)) := by
  have SM := Lib.hid (small_any f a cap 5000 w (by decide) (by decide) hs)
  have HS := Lib.hid hs
  clear hs
  go_enter Try.func3, Try.ntmps3
  go_wp2_with fail
  refine SM.out.mono ?_
  rintro e w1 ⟨r, rfl, hr, rfl⟩
  cases r
  · clear hr SM
    go_wp2_with fail
    refine (awake_any _).mono ?_
    rintro e w2 ⟨rfl, hb2⟩
    go_wp2
    go_ret
    exact ⟨rfl, hb2⟩
  · have hc := (hr.out rfl).1
    have hsm := (hr.out rfl).2
    have hc' : f.count ≤ 1000000 := by simp at hc; omega
    have P := Lib.hid (pUp_any f a cap w hc' hsm HS.out)
    have R := Lib.hid (fun w' (h : Below w.heap.size w w') => rUp_any f a cap w' hc' hsm (HS.out.later h))
    obtain ⟨V, hV⟩ : ∃ V, V = (upR f).1 := ⟨_, rfl⟩
    obtain ⟨q, hq⟩ : ∃ q, q = (upR f).2 := ⟨_, rfl⟩
    unfold OutUp at P R
    rw [← hV, ← hq] at P R
    obtain ⟨m, hm⟩ : ∃ m, m = V.len := ⟨_, rfl⟩
    have HM := Lib.hid hm
    rw [← hm] at P R
    clear hr SM hc hsm hc' hV hq hm
    go_wp2_with fail
    refine P.out.mono ?_
    rintro e w2 ⟨a2, cap2, rfl, hs2, hb2⟩
    go_wp2_with fail
    refine (R.out w2 hb2).mono ?_
    rintro e w3 ⟨a3, cap3, rfl, hs3, hb3⟩
    have hb23 := hb2.trans (hb3.mono hb2.size)
    have E := Lib.hid (equal_any V V a2 a3 cap2 cap3 w3 ((hs2.out.sl (fun b hb => hb.2)).later hb3) (hs3.out.sl (fun b hb => hb.2)))
    rw [eqF_self, ← HM.out] at E
    clear hb2 hb3 P R
    go_wp2_with fail
    refine E.out.mono ?_
    rintro e w4 ⟨rfl, hb4⟩
    have hb24 := hb23.trans (hb4.mono hb23.size)
    go_wp2_with fail
    refine (awake_any _).mono ?_
    rintro e w5 ⟨rfl, hb5⟩
    go_wp2
    go_ret
    exact ⟨rfl, hb24.trans (hb5.mono hb24.size)⟩
end Go.Proofs.Ytfajodndpoepcaa
