/- The reference's Part of lists. -/
import Derived.Test.YtamcobncfbjdmaaRTD
namespace Go.Proofs.Ytamcobncfbjdmaa
open Go.RowKit Go.Shelf Go.BigFrame
attribute [local go_sem] Oper.semAt_some

theorem part_sq {w : World} {p : Option Addr} {n c : Nat} {l : List Int} (F T : Nat) (h : SqL w p l) (hz : p = none → c = 0) (hn : n = l.length) (hc : n ≤ c) (h1 : F ≤ T) (h2 : T ≤ n) :
    ∃ p2, Hid (∀ wx, (Instr.slice 22 (.slice p n c) (some (.int .i64 (F : Int))) (some (.int .i64 (T : Int))) none).run Try.prog wx = .ok (.slice p2 (T - F) (c - F)) wx) ∧ SqL w p2 ((l.take T).drop F) ∧ (p2 = none → c - F = 0) := by
  refine ⟨if c = F then p else p.map (·.add F), Lib.hid (fun wx => ?_), fun j x hx => ?_, fun e => ?_⟩
  · rw [run_slice_lh _ 22 p n c (by kernel_rfl) .i64 .i64 (F : Int) (T : Int) (by omega) (by omega) (by omega)]
    have hz : (sizeOf (Try.prog.elem 22)).run Try.prog wx = .ok 1 wx := by kernel_rfl
    rw [hz]
    simp [Result.andThen, sliced]
  · rw [List.getElem?_drop, List.getElem?_take] at hx
    split at hx
    · obtain ⟨b, o, rfl, hb, h3⟩ := h _ x hx
      rw [if_neg (by omega)]
      refine ⟨b, o + F, ?_, hb, ?_⟩
      · simp only [Option.map_some, Option.some.injEq]
        unfold Addr.add; split <;> simp_all
      · rw [show o + F + j = o + (F + j) from by omega]
        exact h3
    · cases hx
  · split at e
    · omega
    · cases p with
      | none => have := hz rfl; omega
      | some a => cases e

set_option maxHeartbeats 3200000 in
set_option maxRecDepth 100000 in
theorem refPart_any (p : Option Addr) (c n F T0 T : Nat) (f t : Int) (l : List Int) (w : World) (h : SqL w p l) (hz : p = none → c = 0) (hc : n ≤ c) (hn : n = l.length) (hF : min (max f 0) (n : Int) = F) (hT0 : min (max t 0) (n : Int) = T0) (hT : max T0 F = T) (hs : n ≤ 1000000) :
    Calls Try.prog 18 #[.slice p n c, .int .i64 f, .int .i64 t] w (OutR ((l.take T).drop F) w) := by
  have hI0 := Lib.hid (World.ownsRow_lit (base := w.heap.size) (e := 3) (size := 1) w #[] 0 (Nat.le_refl _) (by unfold maxLen; omega) rfl)
  have hba : Below w.heap.size w (w.alloc (.cells #[] 3)) := (Below.refl _ _).alloc (Nat.le_refl _) _
  have hFn : F ≤ n := by omega
  have hTn : T ≤ n := by omega
  have hFT : F ≤ T := by omega
  obtain ⟨p2, HS, hq, hz2⟩ := part_sq F T h hz hn hc hFT hTn
  have HQ := Lib.hid (hq.later hba)
  have HZ := Lib.hid hz2
  have HL : Hid (T - F = ((l.take T).drop F).length) := Lib.hid (by rw [List.length_drop, List.length_take, ← hn]; omega)
  have HB := Lib.hid hba
  have C1 := Lib.hid (within_any f 0 n F w hF)
  have C2 := Lib.hid (within_any t 0 n T0 w hT0)
  have hle : T - F ≤ 1000000 := by omega
  have hsl := HS.out
  clear HS hq hz2 hba hF hT0 h hz hc hn hFn hTn hs
  rcases Nat.lt_or_ge T0 F with hlt | hge
  · have e1 : T = F := by omega
    have i1 : (T0 : Int) < (F : Int) := by omega
    clear hT hlt hFT
    have HT := Lib.hid e1
    clear e1
    have hsl' : ∀ wx, (Instr.slice 22 (.slice p n c) (some (.int .i64 (F : Int))) (some (.int .i64 (F : Int))) none).run Try.prog wx = .ok (.slice p2 (T - F) (c - F)) wx := by rw [← HT.out] at hsl ⊢; exact hsl
    clear hsl
    go_enter Try.func18, Try.ntmps18
    go_wp2_with (first
      | (at_builtin; (refine app_sq rfl (.tmp 19) (.tmp 23) 22 rfl Try.underlying22 w.heap.size 0 (.slice (some ⟨w.heap.size, 0, none⟩) 0 0) [] rfl hI0.out (by simp) (T - F) (c - F) p2 _ rfl HL.out HZ.out HQ.out (by omega) (by simp) ?_); intro v1 w1 hO1 hv1 hg1; have HO1 := Lib.hid hO1; have HV1 := Lib.hid hv1; have HB1 := Lib.hid (HB.out.grown hg1 (by simp) (fun j hj => by simp [Value.ownBlock] at hj; omega)); clear hO1 hv1 hg1)
      | (go_at_call 53; have hmark := HM1.out; refine C2.out.mono ?_; rintro e w1 ⟨rfl, hw1⟩; obtain rfl := hw1.symm)
      | (go_at_call 53; refine C1.out.mono ?_; rintro e w1 ⟨rfl, hw1⟩; obtain rfl := hw1.symm; have HM1 := Lib.hid True.intro)
      | fail)
    go_ret
    obtain ⟨g, c', hv, hc', hq⟩ := sq_of_owns (l := (l.take T).drop F) (by have := HO1.out; rw [List.nil_append] at this; exact this) HV1.out (by rw [← HL.out]; omega)
    exact ⟨g, c', by rw [hv]; rfl, hc', Lib.hid hq, HB1⟩
  · have e1 : T0 = T := by omega
    have i1 : ¬ (T0 : Int) < (F : Int) := by omega
    clear hT hge
    subst e1
    clear hFT
    go_enter Try.func18, Try.ntmps18
    go_wp2_with (first
      | (at_builtin; (refine app_sq rfl (.tmp 19) (.tmp 23) 22 rfl Try.underlying22 w.heap.size 0 (.slice (some ⟨w.heap.size, 0, none⟩) 0 0) [] rfl hI0.out (by simp) (T0 - F) (c - F) p2 _ rfl HL.out HZ.out HQ.out (by omega) (by simp) ?_); intro v1 w1 hO1 hv1 hg1; have HO1 := Lib.hid hO1; have HV1 := Lib.hid hv1; have HB1 := Lib.hid (HB.out.grown hg1 (by simp) (fun j hj => by simp [Value.ownBlock] at hj; omega)); clear hO1 hv1 hg1)
      | (go_at_call 53; have hmark := HM1.out; refine C2.out.mono ?_; rintro e w1 ⟨rfl, hw1⟩; obtain rfl := hw1.symm)
      | (go_at_call 53; refine C1.out.mono ?_; rintro e w1 ⟨rfl, hw1⟩; obtain rfl := hw1.symm; have HM1 := Lib.hid True.intro)
      | fail)
    go_ret
    obtain ⟨g, c', hv, hc', hq⟩ := sq_of_owns (l := (l.take T0).drop F) (by have := HO1.out; rw [List.nil_append] at this; exact this) HV1.out (by rw [← HL.out]; omega)
    exact ⟨g, c', by rw [hv]; rfl, hc', Lib.hid hq, HB1⟩
end Go.Proofs.Ytamcobncfbjdmaa

namespace Go.Proofs.Ytamcobncfbjdmaa
open Go.RowKit Go.Shelf Go.BigFrame
attribute [local go_sem] Oper.semAt_some

def OutN (l : List Int) (N : Nat) (w : World) (r : Ending) (w' : World) : Prop := ∃ g c, r = .returned (.slice (some ⟨g, 0, none⟩) N c) ∧ (N ≤ c ∧ w.heap.size ≤ g) ∧ Hid (SqL w' (some ⟨g, 0, none⟩) l) ∧ Hid (Below w.heap.size w w')
theorem OutR.n {l : List Int} {N : Nat} {w : World} {r : Ending} {w' : World} (hN : N = l.length) (h : OutR l w r w') : OutN l N w r w' := by
  subst hN
  exact h

theorem OutN.r {l : List Int} {N : Nat} {w : World} {r : Ending} {w' : World} (hN : N = l.length) (h : OutN l N w r w') : OutR l w r w' := by
  subst hN
  exact h

theorem OutN.base {l : List Int} {N : Nat} {w w0 : World} {r : Ending} {w' : World} (hb : Below w0.heap.size w0 w) (h : OutN l N w r w') : OutN l N w0 r w' := by
  obtain ⟨g, c, h1, h2, h3, h4⟩ := h
  exact ⟨g, c, h1, ⟨h2.1, Nat.le_trans hb.size h2.2⟩, h3, Lib.hid (hb.trans (h4.out.mono hb.size))⟩

set_option maxHeartbeats 3200000 in
set_option maxRecDepth 100000 in
theorem refReplace_any (p pm : Option Addr) (c cm n m F T0 T : Nat) (f t : Int) (l k : List Int) (w : World) (h : SqL w p l) (hk : SqL w pm k) (hz : p = none → c = 0) (hzm : pm = none → cm = 0) (hc : n ≤ c) (hn : n = l.length) (hm : m = k.length) (hF : min (max f 0) (n : Int) = F) (hT0 : min (max t 0) (n : Int) = T0) (hT : max T0 F = T) (hs : n + m ≤ 500000) :
    Calls Try.prog 20 #[.slice p n c, .int .i64 f, .int .i64 t, .slice pm m cm] w (OutR (l.take F ++ k ++ l.drop T) w) := by
  have hFn : F ≤ n := by omega
  have hTn : T ≤ n := by omega
  obtain ⟨N1, hN1⟩ : ∃ N1, N1 = (l.take F).length := ⟨_, rfl⟩
  obtain ⟨N2, hN2⟩ : ∃ N2, N2 = (l.take F ++ k).length := ⟨_, rfl⟩
  obtain ⟨N3, hN3⟩ : ∃ N3, N3 = (l.drop T).length := ⟨_, rfl⟩
  obtain ⟨N4, hN4⟩ : ∃ N4, N4 = (l.take F ++ k ++ l.drop T).length := ⟨_, rfl⟩
  have b1 : N1 ≤ n := by rw [hN1, List.length_take, ← hn]; omega
  have b2 : N2 = N1 + m := by rw [hN2, hN1, List.length_append, ← hm]
  have b3 : N3 ≤ n := by rw [hN3, List.length_drop, ← hn]; omega
  have C1 := Lib.hid (within_any f 0 n F w hF)
  have C2 := Lib.hid (within_any t 0 n T0 w hT0)
  have C3 : Hid (Calls Try.prog 18 #[.slice p n c, .int .i64 0, .int .i64 F] w (OutN (l.take F) N1 w)) := Lib.hid (by
    refine (refPart_any p c n 0 F F 0 F l w h hz hc hn (by omega) (by omega) (by omega) (by omega)).mono ?_
    intro r w' hr
    rw [List.drop_zero] at hr
    exact hr.n hN1)
  have C4 : Hid (∀ w', Below w.heap.size w w' → Calls Try.prog 18 #[.slice p n c, .int .i64 T, .int .i64 n] w' (fun r w'' => OutN (l.drop T) N3 w r w'' ∧ Hid (Below w'.heap.size w' w''))) := Lib.hid fun w' hw => by
    refine (refPart_any p c n T n n T n l w' (h.later hw) hz hc hn (by omega) (by omega) (by omega) (by omega)).mono ?_
    intro r w'' hr
    rw [hn, List.take_length] at hr
    refine ⟨(hr.n hN3).base hw, ?_⟩
    obtain ⟨_, _, _, _, _, hbb⟩ := hr
    exact hbb
  have J1 : Hid (∀ g c1 w', SqL w' (some ⟨g, 0, none⟩) (l.take F) → Below w.heap.size w w' → Calls Try.prog 50 #[.slice (some ⟨g, 0, none⟩) N1 c1, .slice pm m cm] w' (OutN (l.take F ++ k) N2 w)) := Lib.hid fun g c1 w' hq hw => by
    have := refJoin_any (some ⟨g, 0, none⟩) pm c1 cm (l.take F) k w' hq (hk.later hw) (fun e => by cases e) hzm (by rw [← hN1, ← hm]; omega)
    rw [← hN1, ← hm] at this
    exact this.mono fun r w'' hr => (hr.n hN2).base hw
  have J2 : Hid (∀ g1 c1 g2 c2 w', SqL w' (some ⟨g1, 0, none⟩) (l.take F ++ k) → SqL w' (some ⟨g2, 0, none⟩) (l.drop T) → Below w.heap.size w w' → Calls Try.prog 50 #[.slice (some ⟨g1, 0, none⟩) N2 c1, .slice (some ⟨g2, 0, none⟩) N3 c2] w' (OutN (l.take F ++ k ++ l.drop T) N4 w)) := Lib.hid fun g1 c1 g2 c2 w' hq hq2 hw => by
    have := refJoin_any (some ⟨g1, 0, none⟩) (some ⟨g2, 0, none⟩) c1 c2 (l.take F ++ k) (l.drop T) w' hq hq2 (fun e => by cases e) (fun e => by cases e) (by rw [← hN2, ← hN3]; omega)
    rw [← hN2, ← hN3] at this
    exact this.mono fun r w'' hr => (hr.n hN4).base hw
  have hmx : max (T0 : Int) (F : Int) = (T : Int) := by omega
  have HN4 := Lib.hid hN4
  clear hN1 hN2 hN3 hN4 b1 b2 b3 hF hT0 hT h hk hz hzm hc hn hm hs hFn hTn
  refine Calls.mono ?_ (fun r w' (hr : OutN (l.take F ++ k ++ l.drop T) N4 w r w') => hr.r HN4.out)
  go_enter Try.func20, Try.ntmps20
  go_wp2_with (first
    | (go_at_call 50; have hmark := HQ3.out; refine (J2.out _ _ _ _ _ HQ2'.out HQ3.out HB3.out).mono ?_; rintro e w6 ⟨g6, c6, rfl, hc6, HQ6, HB6⟩)
    | (go_at_call 18; have hmark := HQ2.out; refine (C4.out _ HB2.out).mono ?_; rintro e w5 ⟨⟨g5, c5, rfl, hc5, HQ3, HB3⟩, HBB⟩; have HQ2' := Lib.hid (HQ2.out.later HBB.out))
    | (go_at_call 50; have hmark := HQ1.out; refine (J1.out _ _ _ HQ1.out HB1.out).mono ?_; rintro e w4 ⟨g4, c4, rfl, hc4, HQ2, HB2⟩)
    | (go_at_call 18; have hmark := HM2.out; refine C3.out.mono ?_; rintro e w3 ⟨g3, c3, rfl, hc3, HQ1, HB1⟩)
    | (go_at_call 53; have hmark := HM1.out; refine C2.out.mono ?_; rintro e w1 ⟨rfl, hw1⟩; obtain rfl := hw1.symm; have HM2 := Lib.hid True.intro)
    | (go_at_call 53; refine C1.out.mono ?_; rintro e w1 ⟨rfl, hw1⟩; obtain rfl := hw1.symm; have HM1 := Lib.hid True.intro)
    | fail)
  go_ret
  exact ⟨g6, c6, rfl, hc6, HQ6, HB6⟩
end Go.Proofs.Ytamcobncfbjdmaa

namespace Go.Proofs.Ytamcobncfbjdmaa

theorem take_of_min {l : List Int} {a b : Nat} (h : min a l.length = min b l.length) : l.take a = l.take b := by
  apply List.ext_getElem?
  intro j
  rw [List.getElem?_take, List.getElem?_take]
  by_cases hj : j < l.length
  · have : j < a ↔ j < b := by omega
    simp only [this]
  · rw [List.getElem?_eq_none (by omega)]
    simp

theorem drop_of_min {l : List Int} {a b : Nat} (h : min a l.length = min b l.length) : l.drop a = l.drop b := by
  apply List.ext_getElem?
  intro j
  rw [List.getElem?_drop, List.getElem?_drop]
  by_cases hj : a < l.length
  · have : a = b := by omega
    rw [this]
  · rw [List.getElem?_eq_none (by omega), List.getElem?_eq_none (by omega)]

theorem parts_eq {l : List Int} {f t F' T' : Int} {F T0 T : Nat} (h1 : max f 0 = F') (h2 : max F' t = T') (hF : min (max f 0) (l.length : Int) = F) (hT0 : min (max t 0) (l.length : Int) = T0) (hT : max T0 F = T) :
    (l.take T'.toNat).take F'.toNat = l.take F ∧ (l.take T'.toNat).drop F'.toNat = (l.take T).drop F ∧ l.drop T'.toNat = l.drop T := by
  have e1 : min F'.toNat l.length = min F l.length := by omega
  have e2 : min T'.toNat l.length = min T l.length := by omega
  have e3 : F'.toNat ≤ T'.toNat := by omega
  refine ⟨?_, ?_, drop_of_min e2⟩
  · rw [List.take_take]
    exact take_of_min (by omega)
  · rw [take_of_min e2]
    refine drop_of_min ?_
    rw [List.length_take]
    omega
end Go.Proofs.Ytamcobncfbjdmaa
