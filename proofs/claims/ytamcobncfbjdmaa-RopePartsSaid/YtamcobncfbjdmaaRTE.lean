/- The reference's Part of lists. -/
import Derived.Test.YtamcobncfbjdmaaRTD
namespace Go.Proofs.Ytamcobncfbjdmaa
open Go.RowKit Go.Shelf Go.BigFrame
attribute [local go_sem] Oper.semAt_some

theorem part_sq {w : World} {p : Option Addr} {n c : Nat} {l : List Int} (F T : Nat) (h : SqL w p l) (hz : p = none → c = 0) (hn : n = l.length) (hc : n ≤ c) (h1 : F ≤ T) (h2 : T ≤ n) :
    ∃ p2, Hid (∀ wx, (Instr.slice 22 (.slice p n c) (some (.int .i64 (F : Int))) (some (.int .i64 (T : Int))) none).run Try.prog wx = .ok (.slice p2 (T - F) (c - F)) wx) ∧ SqL w p2 ((l.take T).drop F) ∧ (p2 = none → c - F = 0) := by
  refine ⟨if c = F then p else p.map (·.add F), Lib.hid (fun wx => ?_), fun j x hx => ?_, fun e => ?_⟩
  · rw [run_slice_lh _ 22 p n c (by kernel_rfl) .i64 .i64 (F : Int) (T : Int) (by omega) (by omega) (by omega)]
    have hz : (sizeOf (Try.prog.elem 22)).run Try.prog wx = .ok 1 wx := by kernel_rfl
    rw [hz]
    simp [Result.andThen, sliced]
  · rw [List.getElem?_drop, List.getElem?_take] at hx
    split at hx
    · obtain ⟨b, o, rfl, hb, h3⟩ := h _ x hx
      rw [if_neg (by omega)]
      refine ⟨b, o + F, ?_, hb, ?_⟩
      · simp only [Option.map_some, Option.some.injEq]
        unfold Addr.add; split <;> simp_all
      · rw [show o + F + j = o + (F + j) from by omega]
        exact h3
    · cases hx
  · split at e
    · omega
    · cases p with
      | none => have := hz rfl; omega
      | some a => cases e

set_option maxHeartbeats 3200000 in
set_option maxRecDepth 100000 in
theorem refPart_any (p : Option Addr) (c n F T0 T : Nat) (f t : Int) (l : List Int) (w : World) (h : SqL w p l) (hz : p = none → c = 0) (hc : n ≤ c) (hn : n = l.length) (hF : min (max f 0) (n : Int) = F) (hT0 : min (max t 0) (n : Int) = T0) (hT : max T0 F = T) (hs : n ≤ 1000000) :
    Calls Try.prog 18 #[.slice p n c, .int .i64 f, .int .i64 t] w (OutR ((l.take T).drop F) w) := by
  have hI0 := Lib.hid (World.ownsRow_lit (base := w.heap.size) (e := 3) (size := 1) w #[] 0 (Nat.le_refl _) (by unfold maxLen; omega) rfl)
  have hba : Below w.heap.size w (w.alloc (.cells #[] 3)) := (Below.refl _ _).alloc (Nat.le_refl _) _
  have hFn : F ≤ n := by omega
  have hTn : T ≤ n := by omega
  have hFT : F ≤ T := by omega
  obtain ⟨p2, HS, hq, hz2⟩ := part_sq F T h hz hn hc hFT hTn
  have HQ := Lib.hid (hq.later hba)
  have HZ := Lib.hid hz2
  have HL : Hid (T - F = ((l.take T).drop F).length) := Lib.hid (by rw [List.length_drop, List.length_take, ← hn]; omega)
  have HB := Lib.hid hba
  have C1 := Lib.hid (within_any f 0 n F w hF)
  have C2 := Lib.hid (within_any t 0 n T0 w hT0)
  have hle : T - F ≤ 1000000 := by omega
  have hsl := HS.out
  clear HS hq hz2 hba hF hT0 h hz hc hn hFn hTn hs
  rcases Nat.lt_or_ge T0 F with hlt | hge
  · have e1 : T = F := by omega
    have i1 : (T0 : Int) < (F : Int) := by omega
    clear hT hlt hFT
    have HT := Lib.hid e1
    clear e1
    have hsl' : ∀ wx, (Instr.slice 22 (.slice p n c) (some (.int .i64 (F : Int))) (some (.int .i64 (F : Int))) none).run Try.prog wx = .ok (.slice p2 (T - F) (c - F)) wx := by rw [← HT.out] at hsl ⊢; exact hsl
    clear hsl
    go_enter Try.func18, Try.ntmps18
    go_wp2_with (first
      | (at_builtin; (refine app_sq rfl (.tmp 19) (.tmp 23) 22 rfl Try.underlying22 w.heap.size 0 (.slice (some ⟨w.heap.size, 0, none⟩) 0 0) [] rfl hI0.out (by simp) (T - F) (c - F) p2 _ rfl HL.out HZ.out HQ.out (by omega) (by simp) ?_); intro v1 w1 hO1 hv1 hg1; have HO1 := Lib.hid hO1; have HV1 := Lib.hid hv1; have HB1 := Lib.hid (HB.out.grown hg1 (by simp) (fun j hj => by simp [Value.ownBlock] at hj; omega)); clear hO1 hv1 hg1)
      | (go_at_call 53; have hmark := HM1.out; refine C2.out.mono ?_; rintro e w1 ⟨rfl, hw1⟩; obtain rfl := hw1.symm)
      | (go_at_call 53; refine C1.out.mono ?_; rintro e w1 ⟨rfl, hw1⟩; obtain rfl := hw1.symm; have HM1 := Lib.hid True.intro)
      | fail)
    go_ret
    obtain ⟨g, c', hv, hc', hq⟩ := sq_of_owns (l := (l.take T).drop F) (by have := HO1.out; rw [List.nil_append] at this; exact this) HV1.out (by rw [← HL.out]; omega)
    exact ⟨g, c', by rw [hv]; rfl, hc', Lib.hid hq, HB1⟩
  · have e1 : T0 = T := by omega
    have i1 : ¬ (T0 : Int) < (F : Int) := by omega
    clear hT hge
    subst e1
    clear hFT
    go_enter Try.func18, Try.ntmps18
    go_wp2_with (first
      | (at_builtin; (refine app_sq rfl (.tmp 19) (.tmp 23) 22 rfl Try.underlying22 w.heap.size 0 (.slice (some ⟨w.heap.size, 0, none⟩) 0 0) [] rfl hI0.out (by simp) (T0 - F) (c - F) p2 _ rfl HL.out HZ.out HQ.out (by omega) (by simp) ?_); intro v1 w1 hO1 hv1 hg1; have HO1 := Lib.hid hO1; have HV1 := Lib.hid hv1; have HB1 := Lib.hid (HB.out.grown hg1 (by simp) (fun j hj => by simp [Value.ownBlock] at hj; omega)); clear hO1 hv1 hg1)
      | (go_at_call 53; have hmark := HM1.out; refine C2.out.mono ?_; rintro e w1 ⟨rfl, hw1⟩; obtain rfl := hw1.symm)
      | (go_at_call 53; refine C1.out.mono ?_; rintro e w1 ⟨rfl, hw1⟩; obtain rfl := hw1.symm; have HM1 := Lib.hid True.intro)
      | fail)
    go_ret
    obtain ⟨g, c', hv, hc', hq⟩ := sq_of_owns (l := (l.take T0).drop F) (by have := HO1.out; rw [List.nil_append] at this; exact this) HV1.out (by rw [← HL.out]; omega)
    exact ⟨g, c', by rw [hv]; rfl, hc', Lib.hid hq, HB1⟩
end Go.Proofs.Ytamcobncfbjdmaa
