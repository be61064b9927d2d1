/- The law of errors and sizes. -/
import Derived.Test.YtajdpchojimigaaSq
import Derived.Test.YtajdpchojimigaaAw
import Derived.Test.YtajdpchojimigaaPz
import Derived.Test.YtajdpchojimigaaWr
namespace Go.Proofs.Ytajdpchojimigaa
open Go.RowKit Go.Shelf TmM

set_option maxHeartbeats 800000 in
theorem ppattern_any (f : Fo) (a : Option Addr) (cap : Nat) (w : World) (hc : f.count ≤ 1000000) (hsm : Small f) (hs : Sl w.heap.size w a cap f) :
    Calls Try.prog 15 #[.slice a f.len cap] w (OutV w (.int .i64 (wrongC 7 f))) := by
  have S := Lib.hid (fault_any 7 f a cap w hc hsm hs)
  clear hc hsm hs
  go_enter Try.func15, Try.ntmps15
  go_wp2_with (go_at_call 59; refine S.out.mono ?_; rintro e w2 ⟨rfl, hb2⟩)
  go_ret
  exact ⟨rfl, hb2⟩
set_option maxHeartbeats 800000 in
theorem rpattern_any (f : Fo) (a : Option Addr) (cap : Nat) (w : World) (hc : f.count ≤ 1000000000) (hsm : Small f) (hs : Sl w.heap.size w a cap f) :
    Calls Try.prog 18 #[.slice a f.len cap] w (OutV w (.int .i64 (wrongC 7 f))) := by
  have S := Lib.hid (wrong_any 7 f a cap w hc hsm hs)
  clear hc hsm hs
  go_enter Try.func18, Try.ntmps18
  go_wp2_with (go_at_call 60; refine S.out.mono ?_; rintro e w2 ⟨rfl, hb2⟩)
  go_ret
  exact ⟨rfl, hb2⟩

theorem formB_mono {m m' : Int} (h : m ≤ m') : ∀ {f : Fo}, formB m f = true → formB m' f = true
  | .nil, _ => rfl
  | .cons k t c r, hf => by
    simp only [formB, Bool.and_eq_true, decide_eq_true_eq] at hf ⊢
    exact ⟨⟨⟨hf.1.1.1, by omega⟩, formB_mono h hf.1.2⟩, formB_mono h hf.2⟩
theorem wrongC_mono {m m' : Int} (h : m ≤ m') {f : Fo} (hf : wrongC m f = 0) : wrongC m' f = 0 := by
  unfold wrongC at hf ⊢
  by_cases h1 : 4000 < f.count
  · rw [if_pos h1] at hf; cases hf
  · rw [if_neg h1] at hf ⊢
    by_cases h2 : 100 < f.depth
    · rw [if_pos h2] at hf; cases hf
    · rw [if_neg h2] at hf ⊢
      by_cases h3 : formB m f = true
      · rw [if_pos (formB_mono h h3)]
      · rw [if_neg h3] at hf; cases hf
theorem four (f : Fo) : ∃ bv bp br : Bool, (wrongC 4 f == 0) = bv ∧ (wrongC 7 f == 0) = bp ∧ (wrongC 7 f != 0) = (!bp) ∧ (wrongC 8 f != 0) = (!br) ∧ ((bv = true ∧ bp = true ∧ br = true) ∨ (bv = false ∧ bp = true ∧ br = true) ∨ (bv = false ∧ bp = false ∧ br = true) ∨ (bv = false ∧ bp = false ∧ br = false)) := by
  refine ⟨_, _, (wrongC 8 f == 0), rfl, rfl, rfl, rfl, ?_⟩
  have h1 := wrongC_mono (m := 4) (m' := 7) (by decide) (f := f)
  have h2 := wrongC_mono (m := 7) (m' := 8) (by decide) (f := f)
  by_cases e4 : wrongC 4 f = 0
  · simp [e4, h1 e4, h2 (h1 e4)]
  · by_cases e7 : wrongC 7 f = 0
    · simp [e4, e7, h2 e7]
    · by_cases e8 : wrongC 8 f = 0 <;> simp [e4, e7, e8]

/-- the test at one expression. -/
theorem small1_any (f : Fo) (a : Option Addr) (cap : Nat) (v : Int) (w : World) (hl : f.len ≤ 140737488355327) (hrc : Reach f) (hs : Sl w.heap.size w a cap f) (hv0 : 0 ≤ v) (hv1 : v ≤ 9000) :
    Calls Try.prog 10 #[.int .i64 v, .slice (some ⟨w.heap.size, 0, none⟩) 1 1] (w.alloc (.cells #[.slice a f.len cap] 22)) (fun e w' => ∃ ok : Bool, e = .returned (.bool ok) ∧ Hid (Below w.heap.size w w') ∧ Hid (ok = true → (f.count : Int) ≤ v ∧ Small f)) := by
  have hb : Below w.heap.size w (w.alloc (.cells #[.slice a f.len cap] 22)) := (Below.refl _ _).alloc (Nat.le_refl _) _
  refine (smallL_any [(a, cap, f)] w.heap.size v _ (by simp) (by simp) ?_ ?_ hv0 hv1).mono ?_
  · intro j x hj
    match j, hj with
    | 0, hj =>
      obtain rfl : (a, cap, f) = x := by simpa using hj
      rw [World.cell?_alloc_at _ _ _ _ rfl]; rfl
  · intro x hx
    obtain rfl : x = (a, cap, f) := by simpa using hx
    exact ⟨hl, hrc, hs.below hb hb.size⟩
  · rintro e w' ⟨i, rfl, hb', hf⟩
    refine ⟨_, rfl, Lib.hid (hb.trans (hb'.out.mono (by simp))), Lib.hid (fun h => ?_)⟩
    obtain ⟨h1, h2⟩ := hf.out (by simp at h; omega)
    exact ⟨by simpa [sumC] using h1, h2 (a, cap, f) (by simp)⟩

set_option maxHeartbeats 12800000 in
set_option maxRecDepth 100000 in
theorem lawErrors_any (f : Fo) (a : Option Addr) (cap : Nat) (w : World) (hl : f.len ≤ 140737488355327) (hrc : Reach f) (hs : Sl w.heap.size w a cap f) :
    Calls Try.prog 3 #[.slice a f.len cap] w (OutV w (.bool true)) := by
  have S := Lib.hid (small1_any f a cap 5000 w hl hrc hs (by decide) (by decide))
  have HS := Lib.hid hs
  have AW := Lib.hid (fun w => awake_any w)
  clear hrc hs
  go_enter Try.func3, Try.ntmps3
  go_wp2_with (first
    | (go_at_call 10; refine S.out.mono ?_; rintro e w2 ⟨ok, rfl, hb2, hf2⟩)
    | (go_at_call 11; refine (AW.out _).mono ?_; rintro e w3 ⟨rfl, hb3⟩)
    | fail)
  · go_ret
    exact ⟨rfl, hb2.out.trans (hb3.mono hb2.out.size)⟩
  · have h0 : (!ok) = false := by assumption
    obtain ⟨hc, hsm⟩ := hf2.out (by simpa using h0)
    have hc6 : f.count ≤ 1000000 := by omega
    have hc9 : f.count ≤ 1000000000 := by omega
    have PZ := Lib.hid (fun w2 (hb : Hid (Below w.heap.size w w2)) => psize_any f a cap w2 hc6 (HS.out.below hb.out hb.out.size))
    have RZ := Lib.hid (fun w2 (hb : Hid (Below w.heap.size w w2)) => size_any f a cap w2 hc9 (HS.out.below hb.out hb.out.size))
    have PV := Lib.hid (fun w2 (hb : Hid (Below w.heap.size w w2)) => pvalue_any f a cap w2 hc6 hsm (HS.out.below hb.out hb.out.size))
    have PP := Lib.hid (fun w2 (hb : Hid (Below w.heap.size w w2)) => ppattern_any f a cap w2 hc6 hsm (HS.out.below hb.out hb.out.size))
    have PR := Lib.hid (fun w2 (hb : Hid (Below w.heap.size w w2)) => presult_any f a cap w2 hc6 hsm (HS.out.below hb.out hb.out.size))
    have RV := Lib.hid (fun w2 (hb : Hid (Below w.heap.size w w2)) => value_any f a cap w2 hc9 hsm (HS.out.below hb.out hb.out.size))
    have RP := Lib.hid (fun w2 (hb : Hid (Below w.heap.size w w2)) => rpattern_any f a cap w2 hc9 hsm (HS.out.below hb.out hb.out.size))
    have RR := Lib.hid (fun w2 (hb : Hid (Below w.heap.size w w2)) => result_any f a cap w2 hc9 hsm (HS.out.below hb.out hb.out.size))
    obtain ⟨bv, bp, br, ev, ep, np, nr, hfour⟩ := four f
    obtain ⟨V, hV⟩ : ∃ V, V = wrongC 4 f := ⟨_, rfl⟩
    obtain ⟨P, hP⟩ : ∃ P, P = wrongC 7 f := ⟨_, rfl⟩
    obtain ⟨R, hR⟩ : ∃ R, R = wrongC 8 f := ⟨_, rfl⟩
    rw [← hV] at PV RV ev
    rw [← hP] at PP RP ep np
    rw [← hR] at PR RR nr
    clear hV hP hR hc hsm hc6 hc9 h0 hf2
    refine (PZ.out _ hb2).mono ?_
    rintro e w3 ⟨rfl, hb3⟩
    have b3 := Lib.hid (hb2.out.trans (hb3.mono hb2.out.size))
    clear hb3
    rcases hfour with ⟨rfl, rfl, rfl⟩ | ⟨rfl, rfl, rfl⟩ | ⟨rfl, rfl, rfl⟩ | ⟨rfl, rfl, rfl⟩
    all_goals
      simp only [Bool.not_true, Bool.not_false] at np nr
      go_wp2_with (first
        | (go_at_call 13; refine (RZ.out _ b3).mono ?_; rintro e w4 ⟨rfl, rfl⟩)
        | (go_at_call 14; refine (PV.out _ b3).mono ?_; rintro e w5 ⟨rfl, hb5⟩; have b5 := Lib.hid (b3.out.trans (hb5.mono b3.out.size)); clear hb5)
        | (go_at_call 15; refine (PP.out _ b5).mono ?_; rintro e w6 ⟨rfl, hb6⟩; have b6 := Lib.hid (b5.out.trans (hb6.mono b5.out.size)); clear hb6)
        | (go_at_call 16; refine (PR.out _ b6).mono ?_; rintro e w7 ⟨rfl, hb7⟩; have b7 := Lib.hid (b6.out.trans (hb7.mono b6.out.size)); clear hb7)
        | (go_at_call 17; refine (RV.out _ b7).mono ?_; rintro e w8 ⟨rfl, hb8⟩; have b8 := Lib.hid (b7.out.trans (hb8.mono b7.out.size)); clear hb8)
        | (go_at_call 18; refine (RP.out _ b8).mono ?_; rintro e w9 ⟨rfl, hb9⟩; have b9 := Lib.hid (b8.out.trans (hb9.mono b8.out.size)); clear hb9)
        | (go_at_call 19; refine (RR.out _ b9).mono ?_; rintro e w10 ⟨rfl, hb10⟩; have b10 := Lib.hid (b9.out.trans (hb10.mono b9.out.size)); clear hb10)
        | (go_at_call 11; refine (AW.out _).mono ?_; rintro e w11 ⟨rfl, hb11⟩; have b11 := Lib.hid (b10.out.trans (hb11.mono b10.out.size)); clear hb11)
        | fail)
      go_ret
      exact ⟨rfl, b11.out⟩
end Go.Proofs.Ytajdpchojimigaa
