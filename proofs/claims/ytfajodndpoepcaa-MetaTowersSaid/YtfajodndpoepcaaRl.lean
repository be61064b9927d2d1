/- Levels up and down: the program's and the reference's. -/
import Derived.Test.YtfajodndpoepcaaCr
import Derived.Test.YtfajodndpoepcaaRh
import Derived.Test.YtfajodndpoepcaaLawBk
namespace Go.Proofs.Ytfajodndpoepcaa
open Go.RowKit TmM

/-- levels up, as long as there is no error. -/
def upN : Nat → Fo → Fo × Int
  | 0, f => (f, 0)
  | n + 1, f => if (upR f).2 ≠ 0 then (.nil, (upR f).2) else upN n (upR f).1
/-- levels down. -/
def dnN : Nat → Fo → Fo × Int
  | 0, f => (f, 0)
  | n + 1, f => if (dnX f).2 ≠ 0 then (.nil, 110) else dnN n (dnX f).1
def raiseX (f : Fo) (lv : Int) : Fo × Int := if lv < 0 ∨ 10 < lv then (.nil, 4) else if wrongC 8 f ≠ 0 then (.nil, wrongC 8 f) else upN lv.toNat f
def lowerX (f : Fo) (lv : Int) : Fo × Int := if lv < 0 ∨ 10 < lv then (.nil, 4) else if wrongC 4 f ≠ 0 then (.nil, wrongC 4 f) else dnN lv.toNat f

theorem upR_keeps {f : Fo} (h : (upR f).2 = 0) (hsm : Small f) : (upR f).1.count ≤ 1000000 ∧ Small (upR f).1 := by
  obtain ⟨_, h2, h3⟩ := upR_ok h
  rw [h3]
  exact ⟨by have := (fits_parts h2).1; omega, small_up hsm⟩
theorem dnX_keeps {f : Fo} (h : (dnX f).2 = 0) (hc : f.count ≤ 1000000) (hsm : Small f) : (dnX f).1.count ≤ 1000000 ∧ Small (dnX f).1 := by
  obtain ⟨_, g, hd, _, he⟩ := dnX_ok h
  have hp := dn_parts hd
  rw [he]
  exact ⟨by show g.count ≤ _; omega, hp.2 hsm⟩
theorem dnX_val {f : Fo} (h : wrongC 4 f ≠ 0) : (dnX f).2 ≠ 0 := by rw [dnX_err h]; exact h
theorem dnX_110 {f : Fo} (h : wrongC 4 f = 0) (h2 : (dnX f).2 ≠ 0) : (dnX f).2 = 110 := by
  cases hd : dn f with
  | none => rw [dnX_none h hd]
  | some g =>
    by_cases hw : wrongC 8 g = 0
    · rw [dnX_some h hd hw] at h2; exact absurd rfl h2
    · rw [dnX_bad h hd hw]

def OutR (w : World) (x : Fo × Int) (e : Ending) (w' : World) : Prop := OutA w x.1.len x.1 x.2 e w'
theorem outR_err {w w' : World} {x : Fo × Int} {q : Int} (h : x = (.nil, q)) (hb : Below w.heap.size w w') : OutR w x (.returned (.tuple #[.slice none 0 0, .int .i64 q])) w' := by
  subst h
  exact ⟨none, 0, rfl, Lib.hid SlS.nil, hb⟩
theorem outR_ok {w w' : World} {x : Fo × Int} {G : Fo} {m cap : Nat} {a : Option Addr} (h : x = (G, 0)) (hm : m = G.len) (hs : SlS (fun b => w.heap.size ≤ b ∧ b < w'.heap.size) w' a cap G) (hb : Below w.heap.size w w') : OutR w x (.returned (.tuple #[.slice a m cap, .int .i64 0])) w' := by
  subst h hm
  exact ⟨a, cap, rfl, Lib.hid hs, hb⟩

/-- what stands at the head of a round: the expression so far, and that the levels left give what all levels give. -/
def LvRel (step : Nat → Fo → Fo × Int) (w : World) (f : Fo) (n : Nat) (u i : Value) (wr : World) : Prop :=
  ∃ (G : Fo) (m : Nat) (a : Option Addr) (c k : Nat), u = .slice a m c ∧ i = .int .i64 k ∧ k ≤ n ∧ Hid (m = G.len) ∧ Hid (SlS (fun b => w.heap.size ≤ b ∧ b < wr.heap.size) wr a c G) ∧ Hid (step (n - k) G = step n f) ∧ Hid (G.count ≤ 1000000 ∧ Small G) ∧ Hid (Below w.heap.size w wr)
theorem lvRel_start {step : Nat → Fo → Fo × Int} {w wr : World} {f : Fo} {n m c : Nat} {a : Option Addr} (hm : m = f.len) (hs : SlS (fun b => w.heap.size ≤ b ∧ b < wr.heap.size) wr a c f) (hc : f.count ≤ 1000000) (hsm : Small f) (hb : Below w.heap.size w wr) : LvRel step w f n (.slice a m c) (.int .i64 0) wr :=
  ⟨f, m, a, c, 0, rfl, rfl, Nat.zero_le _, Lib.hid hm, Lib.hid hs, Lib.hid rfl, Lib.hid ⟨hc, hsm⟩, Lib.hid hb⟩
theorem lvRel_next {step : Nat → Fo → Fo × Int} {w wr : World} {f G' : Fo} {n k m c : Nat} {a : Option Addr} {q : Int} (hk : k < n) (hq : q = (k : Int) + 1) (hm : m = G'.len) (hs : SlS (fun b => w.heap.size ≤ b ∧ b < wr.heap.size) wr a c G') (hst : step (n - (k + 1)) G' = step n f) (hc : G'.count ≤ 1000000 ∧ Small G') (hb : Below w.heap.size w wr) : LvRel step w f n (.slice a m c) (.int .i64 q) wr :=
  ⟨G', m, a, c, k + 1, rfl, by subst hq; rfl, hk, Lib.hid hm, Lib.hid hs, Lib.hid hst, Lib.hid hc, Lib.hid hb⟩
theorem sub_succ {n k : Nat} (hk : k < n) : n - k = (n - (k + 1)) + 1 := by omega
theorem upN_step {n k : Nat} {G : Fo} {r : Fo × Int} (hk : k < n) (h : upN (n - k) G = r) (h0 : (upR G).2 = 0) : upN (n - (k + 1)) (upR G).1 = r := by
  rw [sub_succ hk, upN, if_neg (by simp [h0])] at h; exact h
theorem upN_err {n k : Nat} {G : Fo} {r : Fo × Int} (hk : k < n) (h : upN (n - k) G = r) (h0 : (upR G).2 ≠ 0) : r = (.nil, (upR G).2) := by
  rw [sub_succ hk, upN, if_pos h0] at h; exact h.symm
theorem dnN_step {n k : Nat} {G : Fo} {r : Fo × Int} (hk : k < n) (h : dnN (n - k) G = r) (h0 : (dnX G).2 = 0) : dnN (n - (k + 1)) (dnX G).1 = r := by
  rw [sub_succ hk, dnN, if_neg (by simp [h0])] at h; exact h
theorem dnN_err {n k : Nat} {G : Fo} {r : Fo × Int} (hk : k < n) (h : dnN (n - k) G = r) (h0 : (dnX G).2 ≠ 0) : r = (.nil, 110) := by
  rw [sub_succ hk, dnN, if_pos h0] at h; exact h.symm

set_option maxHeartbeats 6400000 in
set_option maxRecDepth 100000 in
theorem praise_any (f : Fo) (a : Option Addr) (cap : Nat) (lv : Int) (w : World) (hc : f.count ≤ 1000000) (hsm : Small f) (hs : Sl w.heap.size w a cap f) :
    Calls Try.prog 16 #[.slice a f.len cap, .int .i64 lv] w (OutR w (raiseX f lv)) := by
  by_cases h1 : lv < 0
  · have HX := Lib.hid (show raiseX f lv = (.nil, 4) from by rw [raiseX, if_pos (.inl h1)])
    go_enter Try.func16, Try.ntmps16
    go_wp2
    go_ret2
    exact outR_err HX.out (Below.refl _ _)
  by_cases h2 : 10 < lv
  · have HX := Lib.hid (show raiseX f lv = (.nil, 4) from by rw [raiseX, if_pos (.inr h2)])
    go_enter Try.func16, Try.ntmps16
    go_wp2
    go_ret2
    exact outR_err HX.out (Below.refl _ _)
  obtain ⟨n, rfl⟩ : ∃ n : Nat, lv = n := ⟨lv.toNat, by omega⟩
  have hn : n ≤ 10 := by omega
  obtain ⟨q, hq⟩ : ∃ q, q = wrongC 8 f := ⟨_, rfl⟩
  have S := Lib.hid (presult_any f a cap w (by omega) hsm hs)
  have HS := Lib.hid hs
  have HC := Lib.hid hc
  have HSM := Lib.hid hsm
  have HQ := Lib.hid hq
  rw [← hq] at S
  obtain ⟨m, hm⟩ : ∃ m, m = f.len := ⟨_, rfl⟩
  have HM := Lib.hid hm
  rw [← hm] at S ⊢
  clear hc hsm hs hq hm
  by_cases h0 : q = 0
  · subst h0
    have HX := Lib.hid (show raiseX f (n : Int) = upN n f from by rw [raiseX, if_neg (by omega), if_neg (by rw [← HQ.out]; simp), Int.toNat_natCast])
    go_enter Try.func16, Try.ntmps16
    go_wp2_with fail
    refine S.out.mono ?_
    rintro e w2 ⟨rfl, hb2⟩
    have CP := Lib.hid (copy_any f a cap w2 HC.out (HS.out.later hb2))
    rw [← HM.out] at CP
    go_wp2_with fail
    refine CP.out.mono ?_
    rintro e w3 ⟨a3, c3, rfl, hs3, hb3⟩
    rw [← HM.out]
    have HB3 := Lib.hid (hb2.trans (hb3.mono hb2.size))
    have HS3 := Lib.hid (hs3.out.mono (fun b hb => (⟨Nat.le_trans hb2.size hb.1, hb.2⟩ : w.heap.size ≤ b ∧ b < w3.heap.size)) (fun _ _ => rfl))
    clear CP S hs3
    go_wp2_with fail
    go_loopw [7, 23] (fun u i wr => LvRel upN w f n u i wr) (fun _ i _ => n - (intOf i).toNat)
    case atStart => exact lvRel_start HM.out HS3.out HC.out HSM.out HB3.out
    case round =>
      obtain ⟨G, mg, ag, cg, k, rfl, rfl, hk, hmg, hsg, hst, hcg, hbg⟩ := hrel
      by_cases hkl : k < n
      · have hki : (k : Int) < (n : Int) := by omega
        have HKL := Lib.hid hkl
        obtain ⟨r, hr⟩ : ∃ r, r = (upR G).2 := ⟨_, rfl⟩
        obtain ⟨mv, hmv⟩ : ∃ mv, mv = (upR G).1.len := ⟨_, rfl⟩
        have HR := Lib.hid hr
        have HMV := Lib.hid hmv
        have HK := Lib.hid (fun (h : r = 0) => show (upR G).1.count ≤ 1000000 ∧ Small (upR G).1 from upR_keeps (by rw [← HR.out]; exact h) hcg.out.2)
        have ST := Lib.hid (pUp_any G ag cg wr hcg.out.1 hcg.out.2 (hsg.out.sl (fun b hb => hb.2)))
        clear hr hmv hkl
        unfold OutUp at ST
        rw [← HR.out, ← HMV.out, ← hmg.out] at ST
        by_cases h0 : r = 0
        · subst h0
          go_wp2_with fail
          refine ST.out.mono ?_
          rintro e w5 ⟨a5, c5, rfl, hs5, hb5⟩
          have HS5 := Lib.hid (hs5.out.mono (fun b hb => (⟨Nat.le_trans hbg.out.size hb.1, hb.2⟩ : w.heap.size ≤ b ∧ b < w5.heap.size)) (fun _ _ => rfl))
          have HB5 := Lib.hid (hbg.out.trans (hb5.mono hbg.out.size))
          have HN := Lib.hid (upN_step HKL.out hst.out HR.out.symm)
          clear hs5 ST
          go_wp2
          go_roundw
          case rel => exact lvRel_next HKL.out rfl HMV.out HS5.out HN.out (HK.out trivial) HB5.out
          case measure => simp [intOf]; omega
        · have e1 : (r == 0) = false := by simpa using h0
          have HE := Lib.hid (upN_err HKL.out hst.out (by rw [← HR.out]; exact h0))
          rw [← HR.out] at HE
          clear h0
          go_wp2_with fail
          refine ST.out.mono ?_
          rintro e w5 ⟨a5, c5, rfl, hs5, hb5⟩
          have HB5 := Lib.hid (hbg.out.trans (hb5.mono hbg.out.size))
          clear hs5 ST
          go_wp2
          go_ret2
          exact outR_err (HX.out.trans HE.out) HB5.out
      · have hki : ¬ (k : Int) < (n : Int) := by omega
        have HE := Lib.hid (show upN n f = (G, 0) from by rw [← hst.out, show n - k = 0 by omega]; rfl)
        clear hkl
        go_wp2
        go_ret2
        exact outR_ok (HX.out.trans HE.out) hmg.out hsg.out hbg.out
  · have e1 : (q == 0) = false := by simpa using h0
    have HX := Lib.hid (show raiseX f (n : Int) = (.nil, q) from by rw [raiseX, if_neg (by omega), if_pos (by rw [← HQ.out]; exact h0), HQ.out])
    clear h0
    go_enter Try.func16, Try.ntmps16
    go_wp2_with fail
    refine S.out.mono ?_
    rintro e w2 ⟨rfl, hb2⟩
    go_wp2
    go_ret2
    exact outR_err HX.out hb2

set_option maxHeartbeats 6400000 in
set_option maxRecDepth 100000 in
theorem rraise_any (f : Fo) (a : Option Addr) (cap : Nat) (lv : Int) (w : World) (hc : f.count ≤ 1000000) (hsm : Small f) (hs : Sl w.heap.size w a cap f) :
    Calls Try.prog 17 #[.slice a f.len cap, .int .i64 lv] w (OutR w (raiseX f lv)) := by
  by_cases h1 : lv < 0
  · have HX := Lib.hid (show raiseX f lv = (.nil, 4) from by rw [raiseX, if_pos (.inl h1)])
    go_enter Try.func17, Try.ntmps17
    go_wp2
    go_ret2
    exact outR_err HX.out (Below.refl _ _)
  by_cases h2 : 10 < lv
  · have HX := Lib.hid (show raiseX f lv = (.nil, 4) from by rw [raiseX, if_pos (.inr h2)])
    go_enter Try.func17, Try.ntmps17
    go_wp2
    go_ret2
    exact outR_err HX.out (Below.refl _ _)
  obtain ⟨n, rfl⟩ : ∃ n : Nat, lv = n := ⟨lv.toNat, by omega⟩
  have hn : n ≤ 10 := by omega
  obtain ⟨q, hq⟩ : ∃ q, q = wrongC 8 f := ⟨_, rfl⟩
  have S := Lib.hid (result_any f a cap w (by omega) hsm hs)
  have HS := Lib.hid hs
  have HC := Lib.hid hc
  have HSM := Lib.hid hsm
  have HQ := Lib.hid hq
  rw [← hq] at S
  obtain ⟨m, hm⟩ : ∃ m, m = f.len := ⟨_, rfl⟩
  have HM := Lib.hid hm
  rw [← hm] at S ⊢
  clear hc hsm hs hq hm
  by_cases h0 : q = 0
  · subst h0
    have HX := Lib.hid (show raiseX f (n : Int) = upN n f from by rw [raiseX, if_neg (by omega), if_neg (by rw [← HQ.out]; simp), Int.toNat_natCast])
    go_enter Try.func17, Try.ntmps17
    go_wp2_with fail
    refine S.out.mono ?_
    rintro e w2 ⟨rfl, hb2⟩
    have CP := Lib.hid (rcopy_any f a cap w2 HC.out (HS.out.later hb2))
    rw [← HM.out] at CP
    go_wp2_with fail
    refine CP.out.mono ?_
    rintro e w3 ⟨a3, c3, rfl, hs3, hb3⟩
    rw [← HM.out]
    have HB3 := Lib.hid (hb2.trans (hb3.mono hb2.size))
    have HS3 := Lib.hid (hs3.out.mono (fun b hb => (⟨Nat.le_trans hb2.size hb.1, hb.2⟩ : w.heap.size ≤ b ∧ b < w3.heap.size)) (fun _ _ => rfl))
    clear CP S hs3
    go_wp2_with fail
    go_loopw [0, 7] (fun u i wr => LvRel upN w f n u i wr) (fun _ i _ => n - (intOf i).toNat)
    case atStart => exact lvRel_start HM.out HS3.out HC.out HSM.out HB3.out
    case round =>
      obtain ⟨G, mg, ag, cg, k, rfl, rfl, hk, hmg, hsg, hst, hcg, hbg⟩ := hrel
      by_cases hkl : k < n
      · have hki : (k : Int) < (n : Int) := by omega
        have HKL := Lib.hid hkl
        obtain ⟨r, hr⟩ : ∃ r, r = (upR G).2 := ⟨_, rfl⟩
        obtain ⟨mv, hmv⟩ : ∃ mv, mv = (upR G).1.len := ⟨_, rfl⟩
        have HR := Lib.hid hr
        have HMV := Lib.hid hmv
        have HK := Lib.hid (fun (h : r = 0) => show (upR G).1.count ≤ 1000000 ∧ Small (upR G).1 from upR_keeps (by rw [← HR.out]; exact h) hcg.out.2)
        have ST := Lib.hid (rUp_any G ag cg wr hcg.out.1 hcg.out.2 (hsg.out.sl (fun b hb => hb.2)))
        clear hr hmv hkl
        unfold OutUp at ST
        rw [← HR.out, ← HMV.out, ← hmg.out] at ST
        by_cases h0 : r = 0
        · subst h0
          go_wp2_with fail
          refine ST.out.mono ?_
          rintro e w5 ⟨a5, c5, rfl, hs5, hb5⟩
          have HS5 := Lib.hid (hs5.out.mono (fun b hb => (⟨Nat.le_trans hbg.out.size hb.1, hb.2⟩ : w.heap.size ≤ b ∧ b < w5.heap.size)) (fun _ _ => rfl))
          have HB5 := Lib.hid (hbg.out.trans (hb5.mono hbg.out.size))
          have HN := Lib.hid (upN_step HKL.out hst.out HR.out.symm)
          clear hs5 ST
          go_wp2
          go_roundw
          case rel => exact lvRel_next HKL.out rfl HMV.out HS5.out HN.out (HK.out trivial) HB5.out
          case measure => simp [intOf]; omega
        · have e1 : (r == 0) = false := by simpa using h0
          have HE := Lib.hid (upN_err HKL.out hst.out (by rw [← HR.out]; exact h0))
          rw [← HR.out] at HE
          clear h0
          go_wp2_with fail
          refine ST.out.mono ?_
          rintro e w5 ⟨a5, c5, rfl, hs5, hb5⟩
          have HB5 := Lib.hid (hbg.out.trans (hb5.mono hbg.out.size))
          clear hs5 ST
          go_wp2
          go_ret2
          exact outR_err (HX.out.trans HE.out) HB5.out
      · have hki : ¬ (k : Int) < (n : Int) := by omega
        have HE := Lib.hid (show upN n f = (G, 0) from by rw [← hst.out, show n - k = 0 by omega]; rfl)
        clear hkl
        go_wp2
        go_ret2
        exact outR_ok (HX.out.trans HE.out) hmg.out hsg.out hbg.out
  · have e1 : (q == 0) = false := by simpa using h0
    have HX := Lib.hid (show raiseX f (n : Int) = (.nil, q) from by rw [raiseX, if_neg (by omega), if_pos (by rw [← HQ.out]; exact h0), HQ.out])
    clear h0
    go_enter Try.func17, Try.ntmps17
    go_wp2_with fail
    refine S.out.mono ?_
    rintro e w2 ⟨rfl, hb2⟩
    go_wp2
    go_ret2
    exact outR_err HX.out hb2

set_option maxHeartbeats 6400000 in
set_option maxRecDepth 100000 in
theorem plower_any (f : Fo) (a : Option Addr) (cap : Nat) (lv : Int) (w : World) (hc : f.count ≤ 1000000) (hsm : Small f) (hs : Sl w.heap.size w a cap f) :
    Calls Try.prog 18 #[.slice a f.len cap, .int .i64 lv] w (OutR w (lowerX f lv)) := by
  by_cases h1 : lv < 0
  · have HX := Lib.hid (show lowerX f lv = (.nil, 4) from by rw [lowerX, if_pos (.inl h1)])
    go_enter Try.func18, Try.ntmps18
    go_wp2
    go_ret2
    exact outR_err HX.out (Below.refl _ _)
  by_cases h2 : 10 < lv
  · have HX := Lib.hid (show lowerX f lv = (.nil, 4) from by rw [lowerX, if_pos (.inr h2)])
    go_enter Try.func18, Try.ntmps18
    go_wp2
    go_ret2
    exact outR_err HX.out (Below.refl _ _)
  obtain ⟨n, rfl⟩ : ∃ n : Nat, lv = n := ⟨lv.toNat, by omega⟩
  have hn : n ≤ 10 := by omega
  obtain ⟨q, hq⟩ : ∃ q, q = wrongC 4 f := ⟨_, rfl⟩
  have S := Lib.hid (pvalue_any f a cap w (by omega) hsm hs)
  have HS := Lib.hid hs
  have HC := Lib.hid hc
  have HSM := Lib.hid hsm
  have HQ := Lib.hid hq
  rw [← hq] at S
  obtain ⟨m, hm⟩ : ∃ m, m = f.len := ⟨_, rfl⟩
  have HM := Lib.hid hm
  rw [← hm] at S ⊢
  clear hc hsm hs hq hm
  by_cases h0 : q = 0
  · subst h0
    have HX := Lib.hid (show lowerX f (n : Int) = dnN n f from by rw [lowerX, if_neg (by omega), if_neg (by rw [← HQ.out]; simp), Int.toNat_natCast])
    go_enter Try.func18, Try.ntmps18
    go_wp2_with fail
    refine S.out.mono ?_
    rintro e w2 ⟨rfl, hb2⟩
    have CP := Lib.hid (copy_any f a cap w2 HC.out (HS.out.later hb2))
    rw [← HM.out] at CP
    go_wp2_with fail
    refine CP.out.mono ?_
    rintro e w3 ⟨a3, c3, rfl, hs3, hb3⟩
    rw [← HM.out]
    have HB3 := Lib.hid (hb2.trans (hb3.mono hb2.size))
    have HS3 := Lib.hid (hs3.out.mono (fun b hb => (⟨Nat.le_trans hb2.size hb.1, hb.2⟩ : w.heap.size ≤ b ∧ b < w3.heap.size)) (fun _ _ => rfl))
    clear CP S hs3
    go_wp2_with fail
    go_loopw [7, 23] (fun u i wr => LvRel dnN w f n u i wr) (fun _ i _ => n - (intOf i).toNat)
    case atStart => exact lvRel_start HM.out HS3.out HC.out HSM.out HB3.out
    case round =>
      obtain ⟨G, mg, ag, cg, k, rfl, rfl, hk, hmg, hsg, hst, hcg, hbg⟩ := hrel
      by_cases hkl : k < n
      · have hki : (k : Int) < (n : Int) := by omega
        have HKL := Lib.hid hkl
        obtain ⟨r, hr⟩ : ∃ r, r = (dnX G).2 := ⟨_, rfl⟩
        obtain ⟨mv, hmv⟩ : ∃ mv, mv = (dnX G).1.len := ⟨_, rfl⟩
        have HR := Lib.hid hr
        have HMV := Lib.hid hmv
        have HK := Lib.hid (fun (h : r = 0) => show (dnX G).1.count ≤ 1000000 ∧ Small (dnX G).1 from dnX_keeps (by rw [← HR.out]; exact h) hcg.out.1 hcg.out.2)
        have ST := Lib.hid (pDn_any G ag cg wr hcg.out.1 hcg.out.2 (hsg.out.sl (fun b hb => hb.2)))
        clear hr hmv hkl
        unfold OutDnX at ST
        rw [← HR.out, ← HMV.out, ← hmg.out] at ST
        by_cases h0 : r = 0
        · subst h0
          go_wp2_with fail
          refine ST.out.mono ?_
          rintro e w5 ⟨a5, c5, rfl, hs5, hb5⟩
          have HS5 := Lib.hid (hs5.out.mono (fun b hb => (⟨Nat.le_trans hbg.out.size hb.1, hb.2⟩ : w.heap.size ≤ b ∧ b < w5.heap.size)) (fun _ _ => rfl))
          have HB5 := Lib.hid (hbg.out.trans (hb5.mono hbg.out.size))
          have HN := Lib.hid (dnN_step HKL.out hst.out HR.out.symm)
          clear hs5 ST
          go_wp2
          go_roundw
          case rel => exact lvRel_next HKL.out rfl HMV.out HS5.out HN.out (HK.out trivial) HB5.out
          case measure => simp [intOf]; omega
        · have e1 : (r == 0) = false := by simpa using h0
          have HE := Lib.hid (dnN_err HKL.out hst.out (by rw [← HR.out]; exact h0))
          clear h0
          go_wp2_with fail
          refine ST.out.mono ?_
          rintro e w5 ⟨a5, c5, rfl, hs5, hb5⟩
          have HB5 := Lib.hid (hbg.out.trans (hb5.mono hbg.out.size))
          clear hs5 ST
          go_wp2
          go_ret2
          exact outR_err (HX.out.trans HE.out) HB5.out
      · have hki : ¬ (k : Int) < (n : Int) := by omega
        have HE := Lib.hid (show dnN n f = (G, 0) from by rw [← hst.out, show n - k = 0 by omega]; rfl)
        clear hkl
        go_wp2
        go_ret2
        exact outR_ok (HX.out.trans HE.out) hmg.out hsg.out hbg.out
  · have e1 : (q == 0) = false := by simpa using h0
    have HX := Lib.hid (show lowerX f (n : Int) = (.nil, q) from by rw [lowerX, if_neg (by omega), if_pos (by rw [← HQ.out]; exact h0), HQ.out])
    clear h0
    go_enter Try.func18, Try.ntmps18
    go_wp2_with fail
    refine S.out.mono ?_
    rintro e w2 ⟨rfl, hb2⟩
    go_wp2
    go_ret2
    exact outR_err HX.out hb2

set_option maxHeartbeats 6400000 in
set_option maxRecDepth 100000 in
theorem rlower_any (f : Fo) (a : Option Addr) (cap : Nat) (lv : Int) (w : World) (hc : f.count ≤ 1000000) (hsm : Small f) (hs : Sl w.heap.size w a cap f) :
    Calls Try.prog 19 #[.slice a f.len cap, .int .i64 lv] w (OutR w (lowerX f lv)) := by
  by_cases h1 : lv < 0
  · have HX := Lib.hid (show lowerX f lv = (.nil, 4) from by rw [lowerX, if_pos (.inl h1)])
    go_enter Try.func19, Try.ntmps19
    go_wp2
    go_ret2
    exact outR_err HX.out (Below.refl _ _)
  by_cases h2 : 10 < lv
  · have HX := Lib.hid (show lowerX f lv = (.nil, 4) from by rw [lowerX, if_pos (.inr h2)])
    go_enter Try.func19, Try.ntmps19
    go_wp2
    go_ret2
    exact outR_err HX.out (Below.refl _ _)
  obtain ⟨n, rfl⟩ : ∃ n : Nat, lv = n := ⟨lv.toNat, by omega⟩
  have hn : n ≤ 10 := by omega
  obtain ⟨q, hq⟩ : ∃ q, q = wrongC 4 f := ⟨_, rfl⟩
  have S := Lib.hid (value_any f a cap w (by omega) hsm hs)
  have HS := Lib.hid hs
  have HC := Lib.hid hc
  have HSM := Lib.hid hsm
  have HQ := Lib.hid hq
  rw [← hq] at S
  obtain ⟨m, hm⟩ : ∃ m, m = f.len := ⟨_, rfl⟩
  have HM := Lib.hid hm
  rw [← hm] at S ⊢
  clear hc hsm hs hq hm
  by_cases h0 : q = 0
  · subst h0
    have HX := Lib.hid (show lowerX f (n : Int) = dnN n f from by rw [lowerX, if_neg (by omega), if_neg (by rw [← HQ.out]; simp), Int.toNat_natCast])
    go_enter Try.func19, Try.ntmps19
    go_wp2_with fail
    refine S.out.mono ?_
    rintro e w2 ⟨rfl, hb2⟩
    have CP := Lib.hid (rcopy_any f a cap w2 HC.out (HS.out.later hb2))
    rw [← HM.out] at CP
    go_wp2_with fail
    refine CP.out.mono ?_
    rintro e w3 ⟨a3, c3, rfl, hs3, hb3⟩
    rw [← HM.out]
    have HB3 := Lib.hid (hb2.trans (hb3.mono hb2.size))
    have HS3 := Lib.hid (hs3.out.mono (fun b hb => (⟨Nat.le_trans hb2.size hb.1, hb.2⟩ : w.heap.size ≤ b ∧ b < w3.heap.size)) (fun _ _ => rfl))
    clear CP S hs3
    go_wp2_with fail
    go_loopw [0, 7] (fun u i wr => LvRel dnN w f n u i wr) (fun _ i _ => n - (intOf i).toNat)
    case atStart => exact lvRel_start HM.out HS3.out HC.out HSM.out HB3.out
    case round =>
      obtain ⟨G, mg, ag, cg, k, rfl, rfl, hk, hmg, hsg, hst, hcg, hbg⟩ := hrel
      by_cases hkl : k < n
      · have hki : (k : Int) < (n : Int) := by omega
        have HKL := Lib.hid hkl
        obtain ⟨r, hr⟩ : ∃ r, r = (dnX G).2 := ⟨_, rfl⟩
        obtain ⟨mv, hmv⟩ : ∃ mv, mv = (dnX G).1.len := ⟨_, rfl⟩
        have HR := Lib.hid hr
        have HMV := Lib.hid hmv
        have HK := Lib.hid (fun (h : r = 0) => show (dnX G).1.count ≤ 1000000 ∧ Small (dnX G).1 from dnX_keeps (by rw [← HR.out]; exact h) hcg.out.1 hcg.out.2)
        obtain ⟨r4, hr4⟩ : ∃ r, r = wrongC 4 G := ⟨_, rfl⟩
        have HR4 := Lib.hid hr4
        have VL := Lib.hid (value_any G ag cg wr (by have := hcg.out.1; omega) hcg.out.2 (hsg.out.sl (fun b hb => hb.2)))
        rw [← hr4, ← hmg.out] at VL
        clear hr hmv hr4 hkl
        go_wp2_with fail
        refine VL.out.mono ?_
        rintro e w4 ⟨rfl, hb4⟩
        have hbg4 := hbg.out.trans (hb4.mono hbg.out.size)
        by_cases h4 : r4 = 0
        · subst h4
          have HW4 := Lib.hid HR4.out.symm
          have ST := Lib.hid (rDn_any G ag cg w4 hcg.out.1 hcg.out.2 ((hsg.out.sl (fun b hb => hb.2)).later hb4))
          unfold OutDnX at ST
          rw [← HR.out, ← HMV.out, ← hmg.out] at ST
          by_cases h0 : r = 0
          · subst h0
            go_wp2_with fail
            refine ST.out.mono ?_
            rintro e w5 ⟨a5, c5, rfl, hs5, hb5⟩
            have HS5 := Lib.hid (hs5.out.mono (fun b hb => (⟨Nat.le_trans hbg4.size hb.1, hb.2⟩ : w.heap.size ≤ b ∧ b < w5.heap.size)) (fun _ _ => rfl))
            have HB5 := Lib.hid (hbg4.trans (hb5.mono hbg4.size))
            have HN := Lib.hid (dnN_step HKL.out hst.out HR.out.symm)
            clear hs5 ST
            go_wp2
            go_roundw
            case rel => exact lvRel_next HKL.out rfl HMV.out HS5.out HN.out (HK.out trivial) HB5.out
            case measure => simp [intOf]; omega
          · have e1 : (r == 0) = false := by simpa using h0
            have HE := Lib.hid (dnN_err HKL.out hst.out (by rw [← HR.out]; exact h0))
            have h110 := dnX_110 HW4.out (by rw [← HR.out]; exact h0)
            rw [← HR.out] at h110
            subst h110
            clear h0
            go_wp2_with fail
            refine ST.out.mono ?_
            rintro e w5 ⟨a5, c5, rfl, hs5, hb5⟩
            have HB5 := Lib.hid (hbg4.trans (hb5.mono hbg4.size))
            clear hs5 ST
            go_wp2
            go_ret2
            exact outR_err (HX.out.trans HE.out) HB5.out
        · have e4 : (r4 == 0) = false := by simpa using h4
          have HE := Lib.hid (dnN_err HKL.out hst.out (dnX_val (by rw [← HR4.out]; exact h4)))
          clear h4
          go_wp2
          go_ret2
          exact outR_err (HX.out.trans HE.out) hbg4
      · have hki : ¬ (k : Int) < (n : Int) := by omega
        have HE := Lib.hid (show dnN n f = (G, 0) from by rw [← hst.out, show n - k = 0 by omega]; rfl)
        clear hkl
        go_wp2
        go_ret2
        exact outR_ok (HX.out.trans HE.out) hmg.out hsg.out hbg.out
  · have e1 : (q == 0) = false := by simpa using h0
    have HX := Lib.hid (show lowerX f (n : Int) = (.nil, q) from by rw [lowerX, if_neg (by omega), if_pos (by rw [← HQ.out]; exact h0), HQ.out])
    clear h0
    go_enter Try.func19, Try.ntmps19
    go_wp2_with fail
    refine S.out.mono ?_
    rintro e w2 ⟨rfl, hb2⟩
    go_wp2
    go_ret2
    exact outR_err HX.out hb2

end Go.Proofs.Ytfajodndpoepcaa
