/- The reference's test of all terms. -/
import Derived.Test.YtajdpchojimigaaRi
namespace Go.Proofs.Ytajdpchojimigaa
open Go.RowKit TmM

set_option maxHeartbeats 6400000 in
set_option maxRecDepth 100000 in
theorem form_n (most : Int) (N : Nat) : ∀ (f : Fo) (a : Option Addr) (cap : Nat) (w : World), f.count ≤ N → Small f → Sl w.heap.size w a cap f →
    Calls Try.prog 85 #[.slice a f.len cap, .int .i64 most] w (OutV w (.bool (formB most f))) := by
  induction N with
  | zero =>
    intro f a cap w hc hsm hs
    obtain rfl : f = .nil := by cases f with
      | nil => rfl
      | cons k t c r => simp [Fo.count] at hc
    go_enter Try.func85, Try.ntmps85
    go_wp2_with fail
    go_loop [5] (fun i => i = .int .i64 0) (fun _ => 0)
    case atStart => rfl
    case round =>
      obtain rfl := hrel
      go_wp2
      go_ret
      exact ⟨rfl, Below.refl _ _⟩
  | succ N ih =>
    intro f a cap w hc hsm hs
    obtain ⟨b, o, hab, hbw, HCX⟩ := base_of hs
    have hcap := hs.cap
    unfold maxLen at hcap
    have HAB := Lib.hid hab
    have HBW := Lib.hid hbw
    have HIH := Lib.hid ih
    have HC := Lib.hid hc
    have HSM := Lib.hid hsm
    obtain ⟨R, hR⟩ : ∃ R, R = formB most f := ⟨_, rfl⟩
    rw [← hR]
    have HR := Lib.hid hR
    clear ih hs hab hbw hc hsm hR
    go_enter Try.func85, Try.ntmps85
    go_wp2_with fail
    go_loopw [5] (fun i wr => ∃ k : Nat, i = .int .i64 k ∧ k ≤ f.len ∧ Hid (formB most (f.take k) = true) ∧ Below w.heap.size w wr) (fun i _ => f.len - (intOf i).toNat)
    case atStart => exact ⟨0, rfl, Nat.zero_le _, Lib.hid (by rw [Fo.take_zero]; rfl), Below.refl _ _⟩
    case round =>
      obtain ⟨k, rfl, hk, hok, hbl⟩ := hrel
      by_cases hkl : k < f.len
      · obtain rfl := HAB.out (by omega)
        have hb := HBW.out (by omega)
        obtain ⟨kd, t, c, hd⟩ := Fo.drop_at hkl
        obtain ⟨x0, x1, ac, capc, x2, hsc⟩ := HCX.out k kd t c _ hd
        have hck := Fo.count_kid hd
        have hat := HSM.out.at hd
        have c0 : wr.cell? ⟨b, o + k * 3, none⟩ = some (.int .i64 kd) := (hbl.cell (p := ⟨b, o + k * 3, none⟩) hb).trans x0
        have c1 : wr.cell? ⟨b, o + k * 3 + 1, none⟩ = some (.string t) := (hbl.cell (p := ⟨b, o + k * 3 + 1, none⟩) hb).trans x1
        have c2 : wr.cell? ⟨b, o + k * 3 + 2, none⟩ = some (.slice ac c.len capc) := (hbl.cell (p := ⟨b, o + k * 3 + 2, none⟩) hb).trans x2
        have K0 := Lib.hid (fun (w2 : World) (h : Below wr.heap.size wr w2) => (h.cell (p := ⟨b, o + k * 3, none⟩) (Nat.lt_of_lt_of_le hb hbl.size)).trans c0)
        have K2 := Lib.hid (fun (w2 : World) (h : Below wr.heap.size wr w2) => (h.cell (p := ⟨b, o + k * 3 + 2, none⟩) (Nat.lt_of_lt_of_le hb hbl.size)).trans c2)
        have RT := Lib.hid (fun w => right_any kd t c ac capc w (by omega))
        have ST := Lib.hid (fun (w2 : World) (h : Below wr.heap.size wr w2) => HIH.out c ac capc w2 (by have := HC.out; omega) hat.2 ((hsc.below hbl hbl.size).later h))
        have HN := Lib.hid (form_next (most := most) hd)
        have HS := Lib.hid (form_split most f (k + 1))
        obtain ⟨r, hr⟩ : ∃ r, r = rightB kd t c := ⟨_, rfl⟩
        obtain ⟨g, hg⟩ : ∃ g, g = formB most c := ⟨_, rfl⟩
        obtain ⟨cl, hcl⟩ : ∃ cl, cl = c.len := ⟨_, rfl⟩
        rw [← hr, ← hg] at HN
        rw [← hr] at RT
        rw [← hg] at ST
        rw [← hcl] at RT ST c2 K2
        clear hd x0 x1 x2 hsc hck hat hr hg hcl
        cases r
        · have HF := Lib.hid (show R = false from by rw [HR.out, HS.out, HN.out]; simp)
          go_wp2_with (go_at_call 118; refine (RT.out _).mono ?_; rintro e w2 ⟨rfl, hb2⟩)
          go_ret
          exact ⟨by rw [HF.out]; rfl, hbl.trans (hb2.mono hbl.size)⟩
        · by_cases hm : most < kd
          · have HF := Lib.hid (show R = false from by rw [HR.out, HS.out, HN.out, decide_eq_false (show ¬ kd ≤ most by omega)]; simp)
            go_wp2_with (go_at_call 118; refine (RT.out _).mono ?_; rintro e w2 ⟨rfl, hb2⟩; have c0' := K0.out w2 hb2)
            go_ret
            exact ⟨by rw [HF.out]; rfl, hbl.trans (hb2.mono hbl.size)⟩
          · cases g
            · have HF := Lib.hid (show R = false from by rw [HR.out, HS.out, HN.out]; simp)
              go_wp2_with (first
                | (go_at_call 118; refine (RT.out _).mono ?_; rintro e w2 ⟨rfl, hb2⟩; have c0' := K0.out w2 hb2; have c2' := K2.out w2 hb2)
                | (go_at_call 85; refine (ST.out w2 hb2).mono ?_; rintro e w3 ⟨rfl, hb3⟩))
              go_ret
              exact ⟨by rw [HF.out]; rfl, hbl.trans ((hb2.trans (hb3.mono hb2.size)).mono hbl.size)⟩
            · have HF := Lib.hid (show formB most (f.take (k + 1)) = true from by rw [HN.out, hok.out, decide_eq_true (show kd ≤ most by omega)]; rfl)
              go_wp2_with (first
                | (go_at_call 118; refine (RT.out _).mono ?_; rintro e w2 ⟨rfl, hb2⟩; have c0' := K0.out w2 hb2; have c2' := K2.out w2 hb2)
                | (go_at_call 85; refine (ST.out w2 hb2).mono ?_; rintro e w3 ⟨rfl, hb3⟩))
              go_roundw
              case rel => exact ⟨k + 1, by go_num, by omega, HF, hbl.trans ((hb2.trans (hb3.mono hb2.size)).mono hbl.size)⟩
              case measure => simp [intOf]; omega
      · obtain rfl : k = f.len := by omega
        have HF := Lib.hid (show R = true from by rw [HR.out, ← hok.out, Fo.take_len])
        go_wp2
        go_ret
        exact ⟨by rw [HF.out]; rfl, hbl⟩

theorem form_any (most : Int) (f : Fo) (a : Option Addr) (cap : Nat) (w : World) (hsm : Small f) (hs : Sl w.heap.size w a cap f) :
    Calls Try.prog 85 #[.slice a f.len cap, .int .i64 most] w (OutV w (.bool (formB most f))) := form_n most f.count f a cap w (Nat.le_refl _) hsm hs
end Go.Proofs.Ytajdpchojimigaa
