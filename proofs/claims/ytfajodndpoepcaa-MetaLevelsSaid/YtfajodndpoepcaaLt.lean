/- The law's own test for a star. -/
import Derived.Test.YtfajodndpoepcaaBk
import Derived.Test.YtfajodndpoepcaaLs
namespace Go.Proofs.Ytfajodndpoepcaa
open Go.RowKit TmM

set_option maxHeartbeats 3200000 in
set_option maxRecDepth 100000 in
theorem star_n (N : Nat) : ∀ (f : Fo) (a : Option Addr) (cap : Nat) (w : World), f.count ≤ N → Sl w.heap.size w a cap f →
    Calls Try.prog 21 #[.slice a f.len cap] w fun e w' => e = .returned (.bool (starB f)) ∧ w = w' := by
  induction N with
  | zero =>
    intro f a cap w hc hs
    obtain rfl : f = .nil := by cases f with
      | nil => rfl
      | cons k t c r => simp [Fo.count] at hc
    go_enter Try.func21, Try.ntmps21
    go_wp2_with fail
    go_loop [3] (fun i => i = .int .i64 0) (fun _ => 0)
    case atStart => rfl
    case round =>
      obtain rfl := hrel
      go_wp2
      go_ret
      exact ⟨rfl, rfl⟩
  | succ N ih =>
    intro f a cap w hc hs
    obtain ⟨b, o, hab, hbw, HCX⟩ := base_of hs
    have hcap := hs.cap
    unfold maxLen at hcap
    have HAB := Lib.hid hab
    have HIH := Lib.hid ih
    have HC := Lib.hid hc
    obtain ⟨R, hR⟩ : ∃ R, R = starB f := ⟨_, rfl⟩
    rw [← hR]
    have HR := Lib.hid hR
    clear ih hs hab hbw hc hR
    go_enter Try.func21, Try.ntmps21
    go_wp2_with fail
    go_loop [3] (fun i => ∃ k : Nat, i = .int .i64 k ∧ k ≤ f.len ∧ Hid (starB (f.take k) = false)) (fun i => f.len - (intOf i).toNat)
    case atStart => exact ⟨0, rfl, Nat.zero_le _, Lib.hid (by rw [Fo.take_zero]; rfl)⟩
    case round =>
      obtain ⟨k, rfl, hk, hok⟩ := hrel
      by_cases hkl : k < f.len
      · obtain rfl := HAB.out (by omega)
        obtain ⟨kd, t, c, hd⟩ := Fo.drop_at hkl
        obtain ⟨c0, c1, ac, capc, c2, hsc⟩ := HCX.out k kd t c _ hd
        have hck := Fo.count_kid hd
        have S := Lib.hid (HIH.out c ac capc w (by have := HC.out; omega) hsc)
        have HN := Lib.hid (star_next hd)
        have HS := Lib.hid (star_split f (k + 1))
        obtain ⟨g, hg⟩ : ∃ g, g = starB c := ⟨_, rfl⟩
        rw [← hg] at S HN
        have HT := Lib.hid (show (t.toList == [42]) = decide (t = str 42) from by have h := text_beq t (str 42); rwa [show (str 42).toList = [42] from by rw [ByteArray.toList_eq]; rfl] at h)
        clear hd hsc hck hg
        obtain ⟨q, hq⟩ : ∃ q, q = (t.toList == [42]) := ⟨_, rfl⟩
        have HQ := Lib.hid (show q = decide (t = str 42) from by rw [hq]; exact HT.out)
        by_cases h1 : kd = 1
        · subst h1
          cases q
          · have e3 := hq.symm
            have ht : ¬ t = str 42 := of_decide_eq_false HQ.out.symm
            have HTN := Lib.hid ht
            clear hq ht
            cases g
            · have HF := Lib.hid (show starB (f.take (k + 1)) = false from by rw [HN.out, hok.out, decide_eq_false (fun h => HTN.out h.2)]; rfl)
              go_wp2_with (go_at_call 21; refine S.out.mono ?_; rintro e w2 ⟨rfl, rfl⟩)
              go_round
              case rel => exact ⟨k + 1, by go_num, by omega, HF⟩
              case measure => simp [intOf]; omega
            · have HF := Lib.hid (show R = true from by rw [HR.out, HS.out, HN.out]; simp)
              go_wp2_with (go_at_call 21; refine S.out.mono ?_; rintro e w2 ⟨rfl, rfl⟩)
              go_ret
              exact ⟨by rw [HF.out]; rfl, rfl⟩
          · have e3 := hq.symm
            have ht : t = str 42 := of_decide_eq_true HQ.out.symm
            have HF := Lib.hid (show R = true from by rw [HR.out, HS.out, HN.out, decide_eq_true ⟨rfl, ht⟩]; simp)
            clear hq ht
            go_wp2
            go_ret
            exact ⟨by rw [HF.out]; rfl, rfl⟩
        · have e1 : (kd == 1) = false := by simpa using h1
          have H1 := Lib.hid h1
          clear h1 hq
          cases g
          · have HF := Lib.hid (show starB (f.take (k + 1)) = false from by rw [HN.out, hok.out, decide_eq_false (fun h => H1.out h.1)]; rfl)
            go_wp2_with (go_at_call 21; refine S.out.mono ?_; rintro e w2 ⟨rfl, rfl⟩)
            go_round
            case rel => exact ⟨k + 1, by go_num, by omega, HF⟩
            case measure => simp [intOf]; omega
          · have HF := Lib.hid (show R = true from by rw [HR.out, HS.out, HN.out]; simp)
            go_wp2_with (go_at_call 21; refine S.out.mono ?_; rintro e w2 ⟨rfl, rfl⟩)
            go_ret
            exact ⟨by rw [HF.out]; rfl, rfl⟩
      · obtain rfl : k = f.len := by omega
        have HF := Lib.hid (show R = false from by rw [HR.out, ← hok.out, Fo.take_len])
        go_wp2
        go_ret
        exact ⟨by rw [HF.out]; rfl, rfl⟩
end Go.Proofs.Ytfajodndpoepcaa
