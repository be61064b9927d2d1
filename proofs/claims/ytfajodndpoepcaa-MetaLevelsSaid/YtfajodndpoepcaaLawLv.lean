/- The laws on levels: the walks. -/
import Derived.Test.YtfajodndpoepcaaRl
namespace Go.Proofs.Ytfajodndpoepcaa
open Go.RowKit TmM

set_option maxHeartbeats 6400000 in
set_option maxRecDepth 100000 in
theorem lawLevels_any (f : Fo) (a : Option Addr) (cap : Nat) (lv : Int) (w : World) (hs : Sl w.heap.size w a cap f) :
    Calls Try.prog 5 #[.slice a f.len cap, .int .i64 lv] w (OutV w (.bool true)) := by
  have hnot : ∀ (x : Bool) (w : World), (Op.unary .not (.bool x)).run Try.prog w = .ok (.bool (!x)) w := fun _ _ => rfl
  have SM := Lib.hid (small_any f a cap 600 w (by decide) (by decide) hs)
  have HS := Lib.hid hs
  obtain ⟨m, hm⟩ : ∃ m, m = f.len := ⟨_, rfl⟩
  have HM := Lib.hid hm
  rw [← hm] at SM ⊢
  clear hs hm
  go_enter Try.func5, Try.ntmps5
  go_wp2_with fail
  refine SM.out.mono ?_
  rintro e w1 ⟨r, rfl, hr, rfl⟩
  cases r
  · clear hr SM
    go_wp2_with fail
    refine (awake_any _).mono ?_
    rintro e w2 ⟨rfl, hb2⟩
    go_wp2
    go_ret
    exact ⟨rfl, hb2⟩
  · have hc := (hr.out rfl).1
    have hsm := (hr.out rfl).2
    have hc' : f.count ≤ 1000000 := by simp at hc; omega
    obtain ⟨V, hV⟩ : ∃ V, V = (raiseX f lv).1 := ⟨_, rfl⟩
    obtain ⟨q, hq⟩ : ∃ q, q = (raiseX f lv).2 := ⟨_, rfl⟩
    obtain ⟨mV, hmV⟩ : ∃ m, m = V.len := ⟨_, rfl⟩
    obtain ⟨X, hX⟩ : ∃ X, X = (lowerX f lv).1 := ⟨_, rfl⟩
    obtain ⟨q2, hq2⟩ : ∃ q, q = (lowerX f lv).2 := ⟨_, rfl⟩
    obtain ⟨mX, hmX⟩ : ∃ m, m = X.len := ⟨_, rfl⟩
    have PR := Lib.hid (fun w' (h : Below w.heap.size w w') => show Calls Try.prog 16 #[.slice a m cap, .int .i64 lv] w' (OutA w' mV V q) from by
      rw [HM.out, hmV, hV, hq]; exact praise_any f a cap lv w' hc' hsm (HS.out.later h))
    have RR := Lib.hid (fun w' (h : Below w.heap.size w w') => show Calls Try.prog 17 #[.slice a m cap, .int .i64 lv] w' (OutA w' mV V q) from by
      rw [HM.out, hmV, hV, hq]; exact rraise_any f a cap lv w' hc' hsm (HS.out.later h))
    have PL := Lib.hid (fun w' (h : Below w.heap.size w w') => show Calls Try.prog 18 #[.slice a m cap, .int .i64 lv] w' (OutA w' mX X q2) from by
      rw [HM.out, hmX, hX, hq2]; exact plower_any f a cap lv w' hc' hsm (HS.out.later h))
    have RL := Lib.hid (fun w' (h : Below w.heap.size w w') => show Calls Try.prog 19 #[.slice a m cap, .int .i64 lv] w' (OutA w' mX X q2) from by
      rw [HM.out, hmX, hX, hq2]; exact rlower_any f a cap lv w' hc' hsm (HS.out.later h))
    have EQ := Lib.hid (fun (G : Fo) (mg : Nat) (hg : mg = G.len) (a1 a2 : Option Addr) (c1 c2 : Nat) w' (h1 : Sl w'.heap.size w' a1 c1 G) (h2 : Sl w'.heap.size w' a2 c2 G) => show Calls Try.prog 13 #[.slice a1 mg c1, .slice a2 mg c2] w' (OutV w' (.bool true)) from by
      have E := equal_any G G a1 a2 c1 c2 w' h1 h2
      rw [eqF_self] at E
      rw [hg]
      exact E)
    have HMV := Lib.hid hmV
    have HMX := Lib.hid hmX
    clear hr SM hc hsm hc' hV hq hX hq2 hmV hmX
    go_wp2_with fail
    refine (PR.out w (Below.refl _ _)).mono ?_
    rintro e w2 ⟨a2, c2, rfl, hs2, hb2⟩
    go_wp2_with fail
    refine (RR.out w2 hb2).mono ?_
    rintro e w3 ⟨a3, c3, rfl, hs3, hb3⟩
    have hb03 := hb2.trans (hb3.mono hb2.size)
    go_wp2_with fail
    refine (EQ.out V mV HMV.out a2 a3 c2 c3 w3 ((hs2.out.sl (fun b hb => hb.2)).later hb3) (hs3.out.sl (fun b hb => hb.2))).mono ?_
    rintro e w4 ⟨rfl, hb4⟩
    have hb04 := hb03.trans (hb4.mono hb03.size)
    go_wp2_with fail
    refine (PL.out w4 hb04).mono ?_
    rintro e w5 ⟨a5, c5, rfl, hs5, hb5⟩
    have hb05 := hb04.trans (hb5.mono hb04.size)
    go_wp2_with fail
    refine (RL.out w5 hb05).mono ?_
    rintro e w6 ⟨a6, c6, rfl, hs6, hb6⟩
    have hb06 := hb05.trans (hb6.mono hb05.size)
    go_wp2_with fail
    refine (EQ.out X mX HMX.out a5 a6 c5 c6 w6 ((hs5.out.sl (fun b hb => hb.2)).later hb6) (hs6.out.sl (fun b hb => hb.2))).mono ?_
    rintro e w7 ⟨rfl, hb7⟩
    have hb07 := hb06.trans (hb7.mono hb06.size)
    go_wp2_with fail
    refine (awake_any _).mono ?_
    rintro e w8 ⟨rfl, hb8⟩
    go_wp2
    go_ret
    exact ⟨rfl, hb07.trans (hb8.mono hb07.size)⟩
end Go.Proofs.Ytfajodndpoepcaa
