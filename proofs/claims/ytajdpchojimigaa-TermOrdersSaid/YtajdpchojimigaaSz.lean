/- The reference's size of an expression. -/
import Derived.Test.YtajdpchojimigaaTl
import Derived.WalkSpells
namespace Go.Proofs.Ytajdpchojimigaa
open Go.RowKit TmM

/-- a result, the world as it was. -/
def Pure2 (w : World) (v : Value) (e : Ending) (w' : World) : Prop := e = .returned v ∧ w = w'

set_option maxHeartbeats 3200000 in
set_option maxRecDepth 100000 in
theorem size_n (N : Nat) (hN : N ≤ 1000000000) : ∀ (f : Fo) (a : Option Addr) (cap : Nat) (w : World), f.count ≤ N → Sl w.heap.size w a cap f →
    Calls Try.prog 13 #[.slice a f.len cap] w (Pure2 w (.tuple #[.int .i64 f.count, .int .i64 f.depth])) := by
  induction N with
  | zero =>
    intro f a cap w hc hs
    obtain rfl : f = .nil := by cases f with
      | nil => rfl
      | cons k t c r => simp [Fo.count] at hc
    go_enter Try.func13, Try.ntmps13
    go_wp2_with fail
    go_loop [4, 5, 6] (fun n d i => n = .int .i64 0 ∧ d = .int .i64 0 ∧ i = .int .i64 0) (fun _ _ _ => 0)
    case atStart => exact ⟨rfl, rfl, rfl⟩
    case round =>
      obtain ⟨rfl, rfl, rfl⟩ := hrel
      go_wp2
      go_ret2
      exact ⟨rfl, rfl⟩
  | succ N ih =>
    intro f a cap w hc hs
    have hlc := Fo.len_le_count f
    obtain ⟨b, o, hab, hbw, HCX⟩ := base_of hs
    have hcap := hs.cap
    unfold maxLen at hcap
    have HAB := Lib.hid hab
    have HIH := Lib.hid (ih (by omega))
    obtain ⟨M, hM⟩ : ∃ M, M = f.count := ⟨_, rfl⟩
    obtain ⟨D, hD⟩ : ∃ D, D = f.depth := ⟨_, rfl⟩
    have hDM : D ≤ M := by rw [hM, hD]; exact Fo.depth_le_count f
    rw [← hM] at hc hlc ⊢
    rw [← hD]
    have HM := Lib.hid hM
    have HD := Lib.hid hD
    clear ih hs hab hbw hM hD
    go_enter Try.func13, Try.ntmps13
    go_wp2_with fail
    go_loop [4, 5, 6] (fun n d i => ∃ (k m p : Nat), n = .int .i64 m ∧ d = .int .i64 p ∧ i = .int .i64 k ∧ k ≤ f.len ∧ m ≤ M ∧ p ≤ D ∧ Hid (m = (f.take k).count) ∧ Hid (p = (f.take k).depth)) (fun _ _ i => f.len - (intOf i).toNat)
    case atStart => exact ⟨0, 0, 0, rfl, rfl, rfl, Nat.zero_le _, Nat.zero_le _, Nat.zero_le _, Lib.hid (by rw [Fo.take_zero]; rfl), Lib.hid (by rw [Fo.take_zero]; rfl)⟩
    case round =>
      obtain ⟨k, m, p, rfl, rfl, rfl, hk, hmM, hpD, hm, hp⟩ := hrel
      by_cases hkl : k < f.len
      · obtain rfl := HAB.out (by omega)
        obtain ⟨kd, t, c, hd⟩ := Fo.drop_at hkl
        obtain ⟨c0, c1, ac, capc, c2, hsc⟩ := HCX.out k kd t c _ hd
        have hck := Fo.count_kid hd
        rw [← HM.out] at hck
        have S := Lib.hid (HIH.out c ac capc w (by omega) hsc)
        have hts := Fo.take_succ hd
        have HT1 := Lib.hid (show (f.take (k + 1)).count = m + c.count + 1 from by rw [hts, Fo.count_app, ← hm.out]; simp [Fo.count]; omega)
        have HT2 := Lib.hid (show (f.take (k + 1)).depth = max p (c.depth + if Fo.deepens kd c then 1 else 0) from by rw [hts, Fo.depth_app, ← hp.out]; simp [Fo.depth])
        have hb1 : m + c.count + 1 ≤ M := by
          rw [← HT1.out, HM.out]
          have := congrArg Fo.count (Fo.take_app_drop (k + 1) f)
          rw [Fo.count_app] at this; omega
        have hb2 : max p (c.depth + if Fo.deepens kd c then 1 else 0) ≤ D := by
          rw [← HT2.out, HD.out]
          have := congrArg Fo.depth (Fo.take_app_drop (k + 1) f)
          rw [Fo.depth_app] at this; omega
        obtain ⟨cc, hcc⟩ : ∃ cc, cc = c.count := ⟨_, rfl⟩
        obtain ⟨cd, hcd⟩ : ∃ cd, cd = c.depth := ⟨_, rfl⟩
        obtain ⟨cl, hcl⟩ : ∃ cl, cl = c.len := ⟨_, rfl⟩
        have hcdc : cd ≤ cc := by rw [hcc, hcd]; exact Fo.depth_le_count c
        rw [← hcc] at HT1 hb1 hck
        rw [← hcd] at HT2 hb2
        rw [← hcl] at c2
        rw [← hcc, ← hcd, ← hcl] at S
        have HDP := Lib.hid (show Fo.deepens kd c = (decide (kd = 4) || decide (kd = 8) || decide (0 < cl)) from by rw [hcl]; rfl)
        clear hd hts hsc hcc hcd hcl
        have way : kd = 4 ∨ kd = 8 ∨ (kd ≠ 4 ∧ kd ≠ 8) := by omega
        rcases way with rfl | rfl | ⟨h4, h8⟩
        · rw [show Fo.deepens 4 c = true from by rw [HDP.out]; rfl, if_pos rfl] at HT2 hb2
          go_wp2_with (go_at_call 13; refine S.out.mono ?_; rintro e w2 ⟨rfl, rfl⟩)
          go_round
          case rel => exact ⟨k + 1, m + cc + 1, max p (cd + 1), by go_num, by go_num, by go_num, by omega, hb1, hb2, Lib.hid HT1.out.symm, Lib.hid HT2.out.symm⟩
          case measure => simp [intOf]; omega
        · rw [show Fo.deepens 8 c = true from by rw [HDP.out]; rfl, if_pos rfl] at HT2 hb2
          go_wp2_with (go_at_call 13; refine S.out.mono ?_; rintro e w2 ⟨rfl, rfl⟩)
          go_round
          case rel => exact ⟨k + 1, m + cc + 1, max p (cd + 1), by go_num, by go_num, by go_num, by omega, hb1, hb2, Lib.hid HT1.out.symm, Lib.hid HT2.out.symm⟩
          case measure => simp [intOf]; omega
        · have e4 : (kd == 4) = false := by simpa using h4
          have e8 : (kd == 8) = false := by simpa using h8
          by_cases hl : 0 < cl
          · have hl2 : (0 : Int) < (cl : Int) := by omega
            rw [show Fo.deepens kd c = true from by rw [HDP.out, decide_eq_true hl]; simp, if_pos rfl] at HT2 hb2
            clear h4 h8
            go_wp2_with (go_at_call 13; refine S.out.mono ?_; rintro e w2 ⟨rfl, rfl⟩)
            go_round
            case rel => exact ⟨k + 1, m + cc + 1, max p (cd + 1), by go_num, by go_num, by go_num, by omega, hb1, hb2, Lib.hid HT1.out.symm, Lib.hid HT2.out.symm⟩
            case measure => simp [intOf]; omega
          · have hl2 : ¬ (0 : Int) < (cl : Int) := by omega
            rw [show Fo.deepens kd c = false from by rw [HDP.out, decide_eq_false h4, decide_eq_false h8, decide_eq_false hl]; rfl, if_neg (by simp), Nat.add_zero] at HT2 hb2
            clear h4 h8
            go_wp2_with (go_at_call 13; refine S.out.mono ?_; rintro e w2 ⟨rfl, rfl⟩)
            go_round
            case rel => exact ⟨k + 1, m + cc + 1, max p (cd), by go_num, by go_num, by go_num, by omega, hb1, hb2, Lib.hid HT1.out.symm, Lib.hid HT2.out.symm⟩
            case measure => simp [intOf]; omega
      · obtain rfl : k = f.len := by omega
        obtain ⟨rfl, rfl⟩ : m = M ∧ p = D := by rw [hm.out, hp.out, HM.out, HD.out, Fo.take_len]; exact ⟨rfl, rfl⟩
        go_wp2
        go_ret2
        exact ⟨rfl, rfl⟩

theorem size_any (f : Fo) (a : Option Addr) (cap : Nat) (w : World) (hc : f.count ≤ 1000000000) (hs : Sl w.heap.size w a cap f) :
    Calls Try.prog 13 #[.slice a f.len cap] w (Pure2 w (.tuple #[.int .i64 f.count, .int .i64 f.depth])) := size_n 1000000000 (Nat.le_refl _) f a cap w hc hs
end Go.Proofs.Ytajdpchojimigaa
