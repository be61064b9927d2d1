/- The law's own test of the size of an expression. -/
import Derived.Test.YtfajodndpoepcaaSz
namespace Go.Proofs.Ytfajodndpoepcaa
open Go.RowKit TmM

def shortB : Fo → Bool
  | .nil => true
  | .cons _ t c r => decide (t.size ≤ 600) && shortB c && shortB r
theorem shortB_small : ∀ {f : Fo}, shortB f = true → Small f
  | .nil, _ => trivial
  | .cons _ t c r, h => by
    simp only [shortB, Bool.and_eq_true, decide_eq_true_eq] at h
    exact ⟨h.1.1, shortB_small h.1.2, shortB_small h.2⟩
theorem shortB_app (f g : Fo) : shortB (f.app g) = (shortB f && shortB g) := by induction f with
  | nil => simp [shortB]
  | cons k t c r _ ih => simp [Fo.app, shortB, ih, Bool.and_assoc]
theorem short_split (f : Fo) (n : Nat) : shortB f = (shortB (f.take n) && shortB (f.drop n)) := by rw [← shortB_app, Fo.take_app_drop]
theorem short_next {f : Fo} {n : Nat} {k t c g} (hd : f.drop n = .cons k t c g) : shortB (f.take (n + 1)) = (shortB (f.take n) && (decide (t.size ≤ 600) && shortB c)) := by
  rw [Fo.take_succ hd, shortB_app]; simp [shortB]

/-- a number of terms, as far as a bound. -/
def OutNd (w : World) (f : Fo) (left : Int) (e : Ending) (w' : World) : Prop := ∃ r : Int, e = .returned (.int .i64 r) ∧ 0 ≤ r ∧ r ≤ left + 1 ∧ Hid (r ≤ left → r = f.count) ∧ w = w'

set_option maxHeartbeats 3200000 in
set_option maxRecDepth 100000 in
theorem nodes_n (N : Nat) : ∀ (f : Fo) (a : Option Addr) (cap : Nat) (left dp : Int) (w : World), f.count ≤ N → -1 ≤ left → left ≤ 100000 → 0 ≤ dp → dp ≤ 151 → Sl w.heap.size w a cap f →
    Calls Try.prog 22 #[.slice a f.len cap, .int .i64 left, .int .i64 dp] w (OutNd w f left) := by
  induction N with
  | zero =>
    intro f a cap left dp w hc hl0 hl1 hd0 hd1 hs
    obtain rfl : f = .nil := by cases f with
      | nil => rfl
      | cons k t c r => simp [Fo.count] at hc
    go_enter Try.func22, Try.ntmps22
    go_wp2_with fail
    go_loop [7, 8] (fun n i => n = .int .i64 0 ∧ i = .int .i64 0) (fun _ _ => 0)
    case atStart => exact ⟨rfl, rfl⟩
    case round =>
      obtain ⟨rfl, rfl⟩ := hrel
      go_wp2
      go_ret
      exact ⟨0, rfl, by omega, by omega, Lib.hid (fun _ => rfl), rfl⟩
  | succ N ih =>
    intro f a cap left dp w hc hl0 hl1 hd0 hd1 hs
    obtain ⟨b, o, hab, hbw, HCX⟩ := base_of hs
    have hcap := hs.cap
    unfold maxLen at hcap
    have HAB := Lib.hid hab
    have HIH := Lib.hid ih
    have HC := Lib.hid hc
    clear ih hs hab hbw hc
    go_enter Try.func22, Try.ntmps22
    go_wp2_with fail
    go_loop [7, 8] (fun n i => ∃ (k : Nat) (m : Int), n = .int .i64 m ∧ i = .int .i64 k ∧ k ≤ f.len ∧ 0 ≤ m ∧ m ≤ left + 1 ∧ Hid (m ≤ left → m = (f.take k).count)) (fun _ i => f.len - (intOf i).toNat)
    case atStart => exact ⟨0, 0, rfl, rfl, Nat.zero_le _, by omega, by omega, Lib.hid (fun _ => by rw [Fo.take_zero]; rfl)⟩
    case round =>
      obtain ⟨k, m, rfl, rfl, hk, hm0, hm1, hmm⟩ := hrel
      by_cases hkl : k < f.len
      · by_cases hml : m ≤ left
        · by_cases hdp : 150 < dp
          · go_wp2
            go_ret
            exact ⟨left + 1, rfl, by omega, by omega, Lib.hid (fun h => by omega), rfl⟩
          · obtain rfl := HAB.out (by omega)
            obtain ⟨kd, t, c, hd⟩ := Fo.drop_at hkl
            obtain ⟨c0, c1, ac, capc, c2, hsc⟩ := HCX.out k kd t c _ hd
            have hck := Fo.count_kid hd
            have S := Lib.hid (HIH.out c ac capc (left - m - 1) (dp + 1) w (by have := HC.out; omega) (by omega) (by omega) (by omega) (by omega) hsc)
            have HT1 := Lib.hid (show (f.take (k + 1)).count = (f.take k).count + c.count + 1 from by rw [Fo.take_succ hd, Fo.count_app]; simp [Fo.count]; omega)
            clear hd hsc hck
            go_wp2_with (go_at_call 22; refine S.out.mono ?_; rintro e w2 ⟨r, rfl, hr0, hr1, hrr, rfl⟩)
            go_round
            case rel => exact ⟨k + 1, m + (1 + r), by go_num, by go_num, by omega, by omega, by omega, Lib.hid (fun h => by rw [HT1.out]; have h1 := hmm.out hml; have h2 := hrr.out (by omega); omega)⟩
            case measure => simp [intOf]; omega
        · have hml2 : ¬ m ≤ left := hml
          go_wp2
          go_ret
          exact ⟨m, rfl, hm0, hm1, Lib.hid (fun h => by omega), rfl⟩
      · obtain rfl : k = f.len := by omega
        have HX := Lib.hid (show m ≤ left → m = f.count from fun h => by have := hmm.out h; rwa [Fo.take_len] at this)
        go_wp2
        go_ret
        exact ⟨m, rfl, hm0, hm1, HX, rfl⟩

set_option maxHeartbeats 3200000 in
set_option maxRecDepth 100000 in
theorem short_n (N : Nat) : ∀ (f : Fo) (a : Option Addr) (cap : Nat) (w : World), f.count ≤ N → Sl w.heap.size w a cap f →
    Calls Try.prog 23 #[.slice a f.len cap] w fun e w' => e = .returned (.bool (shortB f)) ∧ w = w' := by
  induction N with
  | zero =>
    intro f a cap w hc hs
    obtain rfl : f = .nil := by cases f with
      | nil => rfl
      | cons k t c r => simp [Fo.count] at hc
    go_enter Try.func23, Try.ntmps23
    go_wp2_with fail
    go_loop [3] (fun i => i = .int .i64 0) (fun _ => 0)
    case atStart => rfl
    case round =>
      obtain rfl := hrel
      go_wp2
      go_ret
      exact ⟨rfl, rfl⟩
  | succ N ih =>
    intro f a cap w hc hs
    obtain ⟨b, o, hab, hbw, HCX⟩ := base_of hs
    have hcap := hs.cap
    unfold maxLen at hcap
    have HAB := Lib.hid hab
    have HIH := Lib.hid ih
    have HC := Lib.hid hc
    obtain ⟨R, hR⟩ : ∃ R, R = shortB f := ⟨_, rfl⟩
    rw [← hR]
    have HR := Lib.hid hR
    clear ih hs hab hbw hc hR
    go_enter Try.func23, Try.ntmps23
    go_wp2_with fail
    go_loop [3] (fun i => ∃ k : Nat, i = .int .i64 k ∧ k ≤ f.len ∧ Hid (shortB (f.take k) = true)) (fun i => f.len - (intOf i).toNat)
    case atStart => exact ⟨0, rfl, Nat.zero_le _, Lib.hid (by rw [Fo.take_zero]; rfl)⟩
    case round =>
      obtain ⟨k, rfl, hk, hok⟩ := hrel
      by_cases hkl : k < f.len
      · obtain rfl := HAB.out (by omega)
        obtain ⟨kd, t, c, hd⟩ := Fo.drop_at hkl
        obtain ⟨c0, c1, ac, capc, c2, hsc⟩ := HCX.out k kd t c _ hd
        have hck := Fo.count_kid hd
        have S := Lib.hid (HIH.out c ac capc w (by have := HC.out; omega) hsc)
        have HN := Lib.hid (short_next hd)
        have HS := Lib.hid (short_split f (k + 1))
        obtain ⟨g, hg⟩ : ∃ g, g = shortB c := ⟨_, rfl⟩
        rw [← hg] at S HN
        clear hd hsc hck hg
        by_cases ht : t.size ≤ 600
        · have ht2 : ¬ (600 : Int) < (t.size : Int) := by omega
          cases g
          · have HF := Lib.hid (show R = false from by rw [HR.out, HS.out, HN.out]; simp)
            go_wp2_with (go_at_call 23; refine S.out.mono ?_; rintro e w2 ⟨rfl, rfl⟩)
            go_ret
            exact ⟨by rw [HF.out]; rfl, rfl⟩
          · have HF := Lib.hid (show shortB (f.take (k + 1)) = true from by rw [HN.out, hok.out, decide_eq_true ht]; rfl)
            go_wp2_with (go_at_call 23; refine S.out.mono ?_; rintro e w2 ⟨rfl, rfl⟩)
            go_round
            case rel => exact ⟨k + 1, by go_num, by omega, HF⟩
            case measure => simp [intOf]; omega
        · have ht2 : (600 : Int) < (t.size : Int) := by omega
          have HF := Lib.hid (show R = false from by rw [HR.out, HS.out, HN.out, decide_eq_false ht]; simp)
          go_wp2
          go_ret
          exact ⟨by rw [HF.out]; rfl, rfl⟩
      · obtain rfl : k = f.len := by omega
        have HF := Lib.hid (show R = true from by rw [HR.out, ← hok.out, Fo.take_len])
        go_wp2
        go_ret
        exact ⟨by rw [HF.out]; rfl, rfl⟩

/-- a yes says that there are few terms, and short texts. -/
def OutSm (w : World) (f : Fo) (most : Int) (e : Ending) (w' : World) : Prop := ∃ r : Bool, e = .returned (.bool r) ∧ Hid (r = true → f.count ≤ most.toNat ∧ Small f) ∧ w = w'

set_option maxHeartbeats 1600000 in
theorem small_any (f : Fo) (a : Option Addr) (cap : Nat) (most : Int) (w : World) (h0 : 0 ≤ most) (h1 : most ≤ 100000) (hs : Sl w.heap.size w a cap f) :
    Calls Try.prog 9 #[.slice a f.len cap, .int .i64 most] w (OutSm w f most) := by
  have S1 := Lib.hid (nodes_n f.count f a cap most 0 w (Nat.le_refl _) (by omega) h1 (by omega) (by omega) hs)
  have S2 := Lib.hid (short_n f.count f a cap w (Nat.le_refl _) hs)
  obtain ⟨g, hg⟩ : ∃ g, g = shortB f := ⟨_, rfl⟩
  rw [← hg] at S2
  have HG := Lib.hid hg
  clear hs hg
  go_enter Try.func9, Try.ntmps9
  go_wp2_with fail
  refine S1.out.mono ?_
  rintro e w2 ⟨r, rfl, hr0, hr1, hrr, rfl⟩
  by_cases hm : r ≤ most
  · cases g
    · go_wp2_with (go_at_call 23; refine S2.out.mono ?_; rintro e w2 ⟨rfl, rfl⟩)
      go_ret
      exact ⟨false, rfl, Lib.hid (fun h => by cases h), rfl⟩
    · have HF := Lib.hid (show f.count ≤ most.toNat ∧ Small f from ⟨by have := hrr.out hm; omega, shortB_small HG.out.symm⟩)
      go_wp2_with (go_at_call 23; refine S2.out.mono ?_; rintro e w2 ⟨rfl, rfl⟩)
      go_ret
      exact ⟨true, rfl, Lib.hid (fun _ => HF.out), rfl⟩
  · go_wp2
    go_ret
    exact ⟨false, rfl, Lib.hid (fun h => by cases h), rfl⟩
end Go.Proofs.Ytfajodndpoepcaa
