/- The law on towers: the walk. -/
import Derived.Test.YtfajodndpoepcaaRl
namespace Go.Proofs.Ytfajodndpoepcaa
open Go.RowKit TmM

theorem upN_last : ∀ (n : Nat) (f v : Fo), upN (n + 1) f = (v, 0) → ∃ z, upN n f = (z, 0) ∧ upR z = (v, 0) := by
  intro n
  induction n with
  | zero =>
    intro f v h
    refine ⟨f, rfl, ?_⟩
    by_cases h0 : (upR f).2 = 0
    · rw [upN, if_neg (by simp [h0])] at h
      simp only [upN] at h
      rw [← h, ← h0]
    · rw [upN, if_pos h0] at h
      have := congrArg Prod.snd h
      exact absurd this h0
  | succ n ih =>
    intro f v h
    by_cases h0 : (upR f).2 = 0
    · rw [upN, if_neg (by simp [h0])] at h
      obtain ⟨z, h1, h2⟩ := ih _ _ h
      exact ⟨z, by rw [upN, if_neg (by simp [h0])]; exact h1, h2⟩
    · rw [upN, if_pos h0] at h
      have := congrArg Prod.snd h
      exact absurd this h0
theorem tower_down : ∀ (n : Nat) (f v : Fo), upN n f = (v, 0) → dnN n v = (f, 0) := by
  intro n
  induction n with
  | zero => intro f v h; simp only [upN, Prod.mk.injEq, and_true] at h; rw [h]; rfl
  | succ n ih =>
    intro f v h
    obtain ⟨z, h1, h2⟩ := upN_last n f v h
    have hu : (upR z).2 = 0 := by rw [h2]
    have hd := dnX_up hu
    have hv : up z = v := by rw [← (upR_ok hu).2.2, h2]
    rw [hv] at hd
    rw [dnN, if_neg (by simp [hd.2]), hd.2]
    exact ih f z h1
/-- what a tower's levels are. -/
theorem tower_all {n : Nat} {f v : Fo} (h : raiseX f (n : Int) = (v, 0)) (hn : 0 < n) (hn2 : n ≤ 10) :
    v.count ≤ 4000 ∧ lowerX v (n : Int) = (f, 0) ∧ ∃ z, lowerX v 1 = (z, 0) ∧ raiseX f ((n : Int) - 1) = (z, 0) := by
  unfold raiseX at h
  rw [if_neg (by omega)] at h
  by_cases hw : wrongC 8 f = 0
  · rw [if_neg (by simp [hw]), Int.toNat_natCast] at h
    obtain ⟨k, rfl⟩ : ∃ k, n = k + 1 := ⟨n - 1, by omega⟩
    obtain ⟨z, h1, h2⟩ := upN_last k f v h
    have hu : (upR z).2 = 0 := by rw [h2]
    have hd := dnX_up hu
    have hv : up z = v := by rw [← (upR_ok hu).2.2, h2]
    rw [hv] at hd
    refine ⟨(wrong_formM hd.1).1, ?_, z, ?_, ?_⟩
    · rw [lowerX, if_neg (by omega), if_neg (by simp [hd.1]), Int.toNat_natCast]
      exact tower_down _ _ _ h
    · rw [lowerX, if_neg (by omega), if_neg (by simp [hd.1])]
      show dnN 1 v = (z, 0)
      rw [dnN, if_neg (by simp [hd.2]), hd.2]
      rfl
    · rw [raiseX, if_neg (by omega), if_neg (by simp [hw]), show (((k + 1 : Nat) : Int) - 1).toNat = k by omega]
      exact h1
  · rw [if_pos hw] at h
    have := congrArg Prod.snd h
    exact absurd this hw

theorem small_tower : ∀ (n : Nat) (f v : Fo), upN n f = (v, 0) → Small f → Small v := by
  intro n
  induction n with
  | zero => intro f v h hs; simp only [upN, Prod.mk.injEq, and_true] at h; rwa [← h]
  | succ n ih =>
    intro f v h hs
    by_cases h0 : (upR f).2 = 0
    · rw [upN, if_neg (by simp [h0])] at h
      exact ih _ _ h (upR_keeps h0 hs).2
    · rw [upN, if_pos h0] at h
      have := congrArg Prod.snd h
      exact absurd this h0
theorem small_raise {n : Nat} {f v : Fo} (h : raiseX f (n : Int) = (v, 0)) (hs : Small f) : Small v := by
  unfold raiseX at h
  by_cases h1 : (n : Int) < 0 ∨ 10 < (n : Int)
  · rw [if_pos h1] at h; cases h
  · rw [if_neg h1] at h
    by_cases hw : wrongC 8 f = 0
    · rw [if_neg (by simp [hw]), Int.toNat_natCast] at h
      exact small_tower _ _ _ h hs
    · rw [if_pos hw] at h
      have := congrArg Prod.snd h
      exact absurd this hw

set_option maxHeartbeats 6400000 in
set_option maxRecDepth 100000 in
theorem lawTowers_any (f : Fo) (a : Option Addr) (cap : Nat) (v : Int) (w : World) (h0 : 0 ≤ v) (h1 : v ≤ 255) (hs : Sl w.heap.size w a cap f) :
    Calls Try.prog 8 #[.slice a f.len cap, .int .u8 v] w (OutV w (.bool true)) := by
  have hnot : ∀ (x : Bool) (w : World), (Op.unary .not (.bool x)).run Try.prog w = .ok (.bool (!x)) w := fun _ _ => rfl
  have SM := Lib.hid (small_any f a cap 200 w (by decide) (by decide) hs)
  have HS := Lib.hid hs
  obtain ⟨m, hm⟩ : ∃ m, m = f.len := ⟨_, rfl⟩
  have HM := Lib.hid hm
  rw [← hm] at SM ⊢
  clear hs hm
  go_enter Try.func8, Try.ntmps8
  go_wp2_with fail
  obtain ⟨n, hnv⟩ : ∃ n : Nat, v % 6 = (n : Int) := ⟨(v % 6).toNat, by omega⟩
  have hn6 : n < 6 := by omega
  rw [hnv]
  clear hnv h0 h1
  refine SM.out.mono ?_
  rintro e w1 ⟨r, rfl, hr, rfl⟩
  cases r
  · clear hr SM
    go_wp2_with fail
    refine (awake_any _).mono ?_
    rintro e w2 ⟨rfl, hb2⟩
    go_wp2
    go_ret
    exact ⟨rfl, hb2⟩
  · have hc := (hr.out rfl).1
    have hsm := (hr.out rfl).2
    have hc' : f.count ≤ 1000000 := by simp at hc; omega
    obtain ⟨V, hV⟩ : ∃ V, V = (raiseX f n).1 := ⟨_, rfl⟩
    obtain ⟨q, hq⟩ : ∃ q, q = (raiseX f n).2 := ⟨_, rfl⟩
    obtain ⟨mV, hmV⟩ : ∃ m, m = V.len := ⟨_, rfl⟩
    have PR := Lib.hid (fun w' (h : Below w.heap.size w w') => show Calls Try.prog 16 #[.slice a m cap, .int .i64 n] w' (OutA w' mV V q) from by
      rw [HM.out, hmV, hV, hq]; exact praise_any f a cap n w' hc' hsm (HS.out.later h))
    have HT := Lib.hid (fun (h0 : q = 0) (hn : 0 < n) => tower_all (f := f) (v := V) (n := n) (by rw [hV, ← h0, hq]) hn (by omega))
    have HSV := Lib.hid (fun (h0 : q = 0) => small_raise (f := f) (v := V) (n := n) (by rw [hV, ← h0, hq]) hsm)
    have HSM := Lib.hid hsm
    have EQ := Lib.hid (fun (G : Fo) (mg : Nat) (hg : mg = G.len) (a1 a2 : Option Addr) (c1 c2 : Nat) w' (h1 : Sl w'.heap.size w' a1 c1 G) (h2 : Sl w'.heap.size w' a2 c2 G) => show Calls Try.prog 13 #[.slice a1 mg c1, .slice a2 mg c2] w' (OutV w' (.bool true)) from by
      have E := equal_any G G a1 a2 c1 c2 w' h1 h2
      rw [eqF_self] at E
      rw [hg]
      exact E)
    have HMV := Lib.hid hmV
    clear hr SM hc hsm hV hq hmV
    go_wp2_with fail
    refine (PR.out w (Below.refl _ _)).mono ?_
    rintro e w2 ⟨a2, c2, rfl, hs2, hb2⟩
    by_cases h0 : q = 0
    · subst h0
      by_cases hn : 0 < n
      · have hni : (0 : Int) < (n : Int) := by omega
        obtain ⟨hcV, hlow, z, hz1, hz2⟩ := HT.out rfl hn
        have hsV := HSV.out rfl
        have hcV' : V.count ≤ 1000000 := by omega
        obtain ⟨mz, hmz⟩ : ∃ m, m = z.len := ⟨_, rfl⟩
        have PL := Lib.hid (fun w' (h : Below w2.heap.size w2 w') => show Calls Try.prog 18 #[.slice a2 mV c2, .int .i64 n] w' (OutA w' m f 0) from by
          have h := plower_any V a2 c2 n w' hcV' hsV ((hs2.out.sl (fun b hb => hb.2)).later h)
          rw [hlow] at h
          rw [HMV.out, HM.out]
          exact h)
        have PL1 := Lib.hid (fun w' (h : Below w2.heap.size w2 w') => show Calls Try.prog 18 #[.slice a2 mV c2, .int .i64 1] w' (OutA w' mz z 0) from by
          have h := plower_any V a2 c2 1 w' hcV' hsV ((hs2.out.sl (fun b hb => hb.2)).later h)
          rw [hz1] at h
          rw [HMV.out, hmz]
          exact h)
        have PR1 := Lib.hid (fun w' (h : Below w.heap.size w w') => show Calls Try.prog 16 #[.slice a m cap, .int .i64 ((n : Int) - 1)] w' (OutA w' mz z 0) from by
          have h := praise_any f a cap ((n : Int) - 1) w' hc' HSM.out (HS.out.later h)
          rw [hz2] at h
          rw [HM.out, hmz]
          exact h)
        have HMZ := Lib.hid hmz
        clear hcV hlow hz1 hz2 hsV hmz hn HT HSV
        go_wp2_with fail
        refine (PL.out w2 (Below.refl _ _)).mono ?_
        rintro e w3 ⟨a3, c3, rfl, hs3, hb3⟩
        have hb03 := hb2.trans (hb3.mono hb2.size)
        go_wp2_with fail
        refine (PL1.out w3 hb3).mono ?_
        rintro e w4 ⟨a4, c4, rfl, hs4, hb4⟩
        have hb04 := hb03.trans (hb4.mono hb03.size)
        go_wp2_with fail
        refine (PR1.out w4 hb04).mono ?_
        rintro e w5 ⟨a5, c5, rfl, hs5, hb5⟩
        have hb05 := hb04.trans (hb5.mono hb04.size)
        have hb35 := hb4.trans (hb5.mono hb4.size)
        go_wp2_with fail
        refine (EQ.out f m HM.out a3 a c3 cap w5 ((hs3.out.sl (fun b hb => hb.2)).later hb35) (HS.out.later hb05)).mono ?_
        rintro e w6 ⟨rfl, hb6⟩
        have hb06 := hb05.trans (hb6.mono hb05.size)
        go_wp2_with fail
        refine (EQ.out z mz HMZ.out a4 a5 c4 c5 w6 ((hs4.out.sl (fun b hb => hb.2)).later (hb5.trans (hb6.mono hb5.size))) ((hs5.out.sl (fun b hb => hb.2)).later hb6)).mono ?_
        rintro e w7 ⟨rfl, hb7⟩
        have hb07 := hb06.trans (hb7.mono hb06.size)
        go_wp2_with fail
        refine (awake_any _).mono ?_
        rintro e w8 ⟨rfl, hb8⟩
        go_wp2
        go_ret
        exact ⟨rfl, hb07.trans (hb8.mono hb07.size)⟩
      · have hni : ¬ (0 : Int) < (n : Int) := by omega
        clear hn HT HSV
        go_wp2_with fail
        refine (awake_any _).mono ?_
        rintro e w8 ⟨rfl, hb8⟩
        go_wp2
        go_ret
        exact ⟨rfl, hb2.trans (hb8.mono hb2.size)⟩
    · have e1 : (q == 0) = false := by simpa using h0
      clear h0 HT HSV
      go_wp2_with fail
      refine (awake_any _).mono ?_
      rintro e w8 ⟨rfl, hb8⟩
      go_wp2
      go_ret
      exact ⟨rfl, hb2.trans (hb8.mono hb2.size)⟩
end Go.Proofs.Ytfajodndpoepcaa
