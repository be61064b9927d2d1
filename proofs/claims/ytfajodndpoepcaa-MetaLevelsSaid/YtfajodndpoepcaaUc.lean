/- The metacode of an expression, as the reference makes it. -/
import Derived.Test.YtfajodndpoepcaaUb
namespace Go.Proofs.Ytfajodndpoepcaa
open Go.RowKit TmM

set_option maxHeartbeats 6400000 in
set_option maxRecDepth 100000 in
theorem rup_n (N : Nat) (hN : N ≤ 1000000) : ∀ (f : Fo) (a : Option Addr) (cap : Nat) (w : World), f.count ≤ N → Sl w.heap.size w a cap f →
    Calls Try.prog 28 #[.slice a f.len cap] w (OutF w (up f)) := by
  induction N with
  | zero =>
    intro f a cap w hc hs
    obtain rfl : f = .nil := by cases f with
      | nil => rfl
      | cons k t c r => simp [Fo.count] at hc
    go_enter Try.func28, Try.ntmps28
    go_wp2_with fail
    go_loopw [3, 4] (fun u i wr => u = .slice none 0 0 ∧ i = .int .i64 0 ∧ wr = w) (fun _ _ _ => 0)
    case atStart => exact ⟨rfl, rfl, rfl⟩
    case round =>
      obtain ⟨rfl, rfl, rfl⟩ := hrel
      go_wp2
      go_ret
      exact outF_of (Built.nil (Nat.le_refl _)) (Below.refl _ _)
  | succ N ih =>
    intro f a cap w hc hs
    obtain ⟨b, o, hab, hbw, HCX⟩ := base_of hs
    obtain ⟨i0, hi, hz0, hz1, hz2⟩ := info_parts Try.infoTerm
    have hcap := hs.cap
    unfold maxLen at hcap
    have hlen := Fo.len_le_count f
    have HAB := Lib.hid hab
    have HBW := Lib.hid hbw
    have HIH := Lib.hid (ih (by omega))
    have HC := Lib.hid hc
    have HTL := Lib.hid (fun n => up_take_len f n)
    clear ih hs hab hbw
    go_enter Try.func28, Try.ntmps28
    go_wp2_with fail
    go_loopw [3, 4] (fun u i wr => ∃ (v : Value) (k : Nat), u = v ∧ i = .int .i64 k ∧ k ≤ f.len ∧ Built w.heap.size wr v (up (f.take k)) ∧ Below w.heap.size w wr) (fun _ i _ => f.len - (intOf i).toNat)
    case atStart => exact ⟨_, 0, rfl, rfl, Nat.zero_le _, by rw [Fo.take_zero]; exact Built.nil (Nat.le_refl _), Below.refl _ _⟩
    case round =>
      obtain ⟨v, k, rfl, rfl, hk, hB, hbl⟩ := hrel
      by_cases hkl : k < f.len
      · obtain rfl := HAB.out (by omega)
        have hb := HBW.out (by omega)
        obtain ⟨kd, t, c, hd⟩ := Fo.drop_at hkl
        obtain ⟨c0, c1, ac, capc, c2, hsc⟩ := HCX.out k kd t c _ hd
        have e0 := (hbl.cell (p := ⟨b, o + k * 3, none⟩) hb).trans c0
        have e1 := (hbl.cell (p := ⟨b, o + k * 3 + 1, none⟩) hb).trans c1
        have e2 := (hbl.cell (p := ⟨b, o + k * 3 + 2, none⟩) hb).trans c2
        have hck := Fo.count_kid hd
        have HNX := Lib.hid (up_next hd)
        obtain ⟨G, hG⟩ : ∃ G, G = up (f.take k) := ⟨_, rfl⟩
        have HGL := Lib.hid (show G.len ≤ 4000004 from by have := HTL.out k; rw [← hG] at this; omega)
        rw [← hG] at hB HNX
        have hsc' := hsc.below hbl hbl.size
        clear c0 c1 c2 hG hd
        obtain ⟨W, hW⟩ : ∃ W, W = wr.alloc (.cells #[.int .i64 kd, .string t, .slice ac c.len capc] 35) := ⟨_, rfl⟩
        have hbW : Below w.heap.size w W := by rw [hW]; exact hbl.alloc hbl.size _
        have hbrW : Below wr.heap.size wr W := by rw [hW]; exact (Below.refl _ _).alloc (Nat.le_refl _) _
        have hscW := hsc'.later hbrW
        have hBW := hB.later hbrW
        have hbx : Box W wr.heap.size kd t ac c.len capc := by rw [hW]; exact Box.new _ _ _ _ _ _
        have hne : u3.ownBlock ≠ some wr.heap.size := fun hv => by
          obtain ⟨xs, ho, _⟩ := hB
          exact absurd (own_lt ho hv) (Nat.lt_irrefl _)
        have HNE := Lib.hid hne
        have HUL := Lib.hid (show (up c).len ≤ 4000004 from by have h1 := Fo.len_le_count (up c); have h2 := count_up c; omega)
        clear hsc hsc' hne
        by_cases h4 : kd = 4
        · subst h4
          rw [up1_group] at HNX
          have S := Lib.hid (HIH.out c ac capc W (by omega) hscW)
          go_wp2_with fail
          rw [← hW]
          refine S.out.mono ?_
          rintro e w2 ⟨a2, cap2, rfl, hs2, hb2⟩
          have hbl2 := hbW.trans (hb2.mono hbW.size)
          have hB2 := hBW.later hb2
          have hk2 := RepsS.one (k := 4) (t := ⟨#[]⟩) (outF_kids hB hbrW hs2.out)
          clear hW
          go_wp2_with (at_builtin; refine wpList_append_built rfl (.tmp 40) (.tmp 45) rfl (hB2.push _) rfl rfl rfl (Put.push hk2 (by simp)) (by have := HGL.out; simp only [Fo.len_cons, Fo.len_nil]; omega) ?_; intro v6 w6 hB6 hgrow6 hat6)
          have hbn := below_push hbl2 hB2 hgrow6
          rw [← HNX.out] at hB6
          go_roundw
          case rel => exact ⟨_, k + 1, rfl, by go_num, by omega, hB6, hbn⟩
          case measure => simp [intOf]; omega
        by_cases h5 : kd = 5
        · subst h5
          rw [up1_s] at HNX
          have hbd : Below W.heap.size W W.drew := (Below.refl _ _).drew
          obtain ⟨gd, kx0, kx1, kx2⟩ := hbx.later hbd
          have hbxd := Lib.hid (hbx.later hbd)
          go_wp2_with fail
          rw [← hW]
          clear hW
          go_region_held3 (fun w' => w'.cell? ⟨wr.heap.size, 0, none⟩ = some (.int .i64 5) ∧ w'.cell? ⟨wr.heap.size, 1, none⟩ = some (.string t))
            (first | exact ⟨kx0, kx1⟩ | exact ⟨K9.out.2.1, K9.out.2.2.1⟩ | exact ⟨K7.out.2.1, K7.out.2.2.1⟩ | exact ⟨K6.out.2.1, K6.out.2.2.1⟩ | exact ⟨K5.out.2.1, K5.out.2.2.1⟩ | go_keep)
            (first
              | (refine step_append_built (by rfl) (.tmp 51) (.tmp 60) (by rfl) (hB7.push _) (by rfl) (by rfl) rfl (Put.push hk7 (by simp)) (by have := HGL.out; simp only [Fo.len_cons, Fo.len_nil]; omega) ?_; intro v9 w9 hB9 hgrow9 hat9; have K9 := Lib.hid ((K7.out.later ((Below.refl _ _).alloc (Nat.le_refl _) _)).grown hgrow9 HNE.out))
              | (go_at_call 42; refine (rchar_any _ _).mono ?_; rintro e w7 ⟨rfl, hb7⟩; have K7 := Lib.hid (K6.out.later hb7); have Q7 := Lib.hid (Q6.out.trans (hb7.mono Q6.out.size)); have hB7 := hBW.later Q7.out; have hk7 := RepsS.cons_mk (k := 1) (t := ⟨#[42]⟩) SlS.nil (RepsS.cons_mk (k := 1) (t := ⟨#[83]⟩) SlS.nil (RepsS.one (w := w7) (S := fun b => w.heap.size ≤ b ∧ b < w7.heap.size ∧ u3.ownBlock ≠ some b) (k := 2) (t := t) SlS.nil)))
              | (go_at_call 43; refine (rletter_any 5 _).mono ?_; rintro e w6 ⟨rfl, hb6⟩; have K6 := Lib.hid (K5.out.later hb6); have Q6 := Lib.hid (Q5.out.trans (hb6.mono Q5.out.size)))
              | (go_at_call 42; refine (rchar_any _ _).mono ?_; rintro e w5 ⟨rfl, hb5⟩; have K5 := Lib.hid (hbxd.out.later hb5); have Q5 := Lib.hid (hbd.trans (hb5.mono hbd.size))))
          have hbn := below_push (hbW.trans (Q7.out.mono hbW.size)) hB7 hgrow9
          rw [← HNX.out] at hB9
          go_wp2
          go_roundw
          case rel => exact ⟨_, k + 1, rfl, by go_num, by omega, hB9, hbn⟩
          case measure => simp [intOf]; omega
        by_cases h6 : kd = 6
        · subst h6
          rw [up1_t] at HNX
          have hbd : Below W.heap.size W W.drew := (Below.refl _ _).drew
          obtain ⟨gd, kx0, kx1, kx2⟩ := hbx.later hbd
          have hbxd := Lib.hid (hbx.later hbd)
          go_wp2_with fail
          rw [← hW]
          clear hW
          go_region_held3 (fun w' => w'.cell? ⟨wr.heap.size, 0, none⟩ = some (.int .i64 6) ∧ w'.cell? ⟨wr.heap.size, 1, none⟩ = some (.string t))
            (first | exact ⟨kx0, kx1⟩ | exact ⟨K9.out.2.1, K9.out.2.2.1⟩ | exact ⟨K7.out.2.1, K7.out.2.2.1⟩ | exact ⟨K6.out.2.1, K6.out.2.2.1⟩ | exact ⟨K5.out.2.1, K5.out.2.2.1⟩ | go_keep)
            (first
              | (refine step_append_built (by rfl) (.tmp 51) (.tmp 60) (by rfl) (hB7.push _) (by rfl) (by rfl) rfl (Put.push hk7 (by simp)) (by have := HGL.out; simp only [Fo.len_cons, Fo.len_nil]; omega) ?_; intro v9 w9 hB9 hgrow9 hat9; have K9 := Lib.hid ((K7.out.later ((Below.refl _ _).alloc (Nat.le_refl _) _)).grown hgrow9 HNE.out))
              | (go_at_call 42; refine (rchar_any _ _).mono ?_; rintro e w7 ⟨rfl, hb7⟩; have K7 := Lib.hid (K6.out.later hb7); have Q7 := Lib.hid (Q6.out.trans (hb7.mono Q6.out.size)); have hB7 := hBW.later Q7.out; have hk7 := RepsS.cons_mk (k := 1) (t := ⟨#[42]⟩) SlS.nil (RepsS.cons_mk (k := 1) (t := ⟨#[84]⟩) SlS.nil (RepsS.one (w := w7) (S := fun b => w.heap.size ≤ b ∧ b < w7.heap.size ∧ u3.ownBlock ≠ some b) (k := 2) (t := t) SlS.nil)))
              | (go_at_call 43; refine (rletter_any 6 _).mono ?_; rintro e w6 ⟨rfl, hb6⟩; have K6 := Lib.hid (K5.out.later hb6); have Q6 := Lib.hid (Q5.out.trans (hb6.mono Q5.out.size)))
              | (go_at_call 42; refine (rchar_any _ _).mono ?_; rintro e w5 ⟨rfl, hb5⟩; have K5 := Lib.hid (hbxd.out.later hb5); have Q5 := Lib.hid (hbd.trans (hb5.mono hbd.size))))
          have hbn := below_push (hbW.trans (Q7.out.mono hbW.size)) hB7 hgrow9
          rw [← HNX.out] at hB9
          go_wp2
          go_roundw
          case rel => exact ⟨_, k + 1, rfl, by go_num, by omega, hB9, hbn⟩
          case measure => simp [intOf]; omega
        by_cases h7 : kd = 7
        · subst h7
          rw [up1_e] at HNX
          have hbd : Below W.heap.size W W.drew := (Below.refl _ _).drew
          obtain ⟨gd, kx0, kx1, kx2⟩ := hbx.later hbd
          have hbxd := Lib.hid (hbx.later hbd)
          go_wp2_with fail
          rw [← hW]
          clear hW
          go_region_held3 (fun w' => w'.cell? ⟨wr.heap.size, 0, none⟩ = some (.int .i64 7) ∧ w'.cell? ⟨wr.heap.size, 1, none⟩ = some (.string t))
            (first | exact ⟨kx0, kx1⟩ | exact ⟨K9.out.2.1, K9.out.2.2.1⟩ | exact ⟨K7.out.2.1, K7.out.2.2.1⟩ | exact ⟨K6.out.2.1, K6.out.2.2.1⟩ | exact ⟨K5.out.2.1, K5.out.2.2.1⟩ | go_keep)
            (first
              | (refine step_append_built (by rfl) (.tmp 51) (.tmp 60) (by rfl) (hB7.push _) (by rfl) (by rfl) rfl (Put.push hk7 (by simp)) (by have := HGL.out; simp only [Fo.len_cons, Fo.len_nil]; omega) ?_; intro v9 w9 hB9 hgrow9 hat9; have K9 := Lib.hid ((K7.out.later ((Below.refl _ _).alloc (Nat.le_refl _) _)).grown hgrow9 HNE.out))
              | (go_at_call 42; refine (rchar_any _ _).mono ?_; rintro e w7 ⟨rfl, hb7⟩; have K7 := Lib.hid (K6.out.later hb7); have Q7 := Lib.hid (Q6.out.trans (hb7.mono Q6.out.size)); have hB7 := hBW.later Q7.out; have hk7 := RepsS.cons_mk (k := 1) (t := ⟨#[42]⟩) SlS.nil (RepsS.cons_mk (k := 1) (t := ⟨#[69]⟩) SlS.nil (RepsS.one (w := w7) (S := fun b => w.heap.size ≤ b ∧ b < w7.heap.size ∧ u3.ownBlock ≠ some b) (k := 2) (t := t) SlS.nil)))
              | (go_at_call 43; refine (rletter_any 7 _).mono ?_; rintro e w6 ⟨rfl, hb6⟩; have K6 := Lib.hid (K5.out.later hb6); have Q6 := Lib.hid (Q5.out.trans (hb6.mono Q5.out.size)))
              | (go_at_call 42; refine (rchar_any _ _).mono ?_; rintro e w5 ⟨rfl, hb5⟩; have K5 := Lib.hid (hbxd.out.later hb5); have Q5 := Lib.hid (hbd.trans (hb5.mono hbd.size))))
          have hbn := below_push (hbW.trans (Q7.out.mono hbW.size)) hB7 hgrow9
          rw [← HNX.out] at hB9
          go_wp2
          go_roundw
          case rel => exact ⟨_, k + 1, rfl, by go_num, by omega, hB9, hbn⟩
          case measure => simp [intOf]; omega
        by_cases h8 : kd = 8
        · subst h8
          rw [up1_call] at HNX
          have hbd : Below W.heap.size W W.drew := (Below.refl _ _).drew
          obtain ⟨gd, kx0, kx1, kx2⟩ := hbx.later hbd
          have HBX := Lib.hid (fun X (h : Below W.heap.size W X) => hbx.later h)
          have A0 : Hid (Below W.heap.size W (W.alloc (.cells #[.int .i64 2, .string t, .slice none 0 0] 35)).drew) := Lib.hid (((Below.refl _ _).alloc (Nat.le_refl _) _).drew)
          have LB0 : Hid (Built W.heap.size (W.alloc (.cells #[.int .i64 2, .string t, .slice none 0 0] 35)).drew (.slice (some ⟨W.heap.size, 0, none⟩) (Fo.cons 2 t .nil .nil).len (Fo.cons 2 t .nil .nil).len) (.cons 2 t .nil .nil)) := Lib.hid ((Built.lit (base := W.heap.size) (n := W.heap.size) (w := W) (xs := [.int .i64 2, .string t, .slice none 0 0]) (G := .cons 2 t .nil .nil) (S := fun _ => False) (RepsS.one SlS.nil) rfl rfl (fun _ h => h.elim) (by simp only [Fo.len_cons, Fo.len_nil]; omega) (Nat.le_refl _)).later ((Below.refl _ _).drew))
          have hck2 : c.count ≤ N := by omega
          go_wp2_with fail
          rw [← hW]
          clear hW
          go_region_held3 (fun w' => w'.cell? ⟨wr.heap.size, 1, none⟩ = some (.string t) ∧ w'.cell? ⟨wr.heap.size, 2, none⟩ = some (.slice ac c.len capc))
            (first | exact ⟨kx1, kx2⟩ | exact ⟨(HBX.out _ A0.out).2.2.1, (HBX.out _ A0.out).2.2.2⟩ | exact ⟨K9.out.2.2.1, K9.out.2.2.2⟩ | exact ⟨K7.out.2.2.1, K7.out.2.2.2⟩ | exact ⟨K6.out.2.2.1, K6.out.2.2.2⟩ | exact ⟨K5.out.2.2.1, K5.out.2.2.2⟩ | go_keep)
            (first
              | (refine step_append_built (by rfl) (.tmp 69) (.tmp 72) (by rfl) LB6.out (by rfl) (by rfl) rfl HP6.out (by have := HUL.out; simp only [Fo.len_cons, Fo.len_nil]; omega) ?_; intro v7 w7 hB7 hgrow7 hat7; have Q7 := Lib.hid (Q6.out.grown hgrow7 Q6.out.size (fun k hk => LB6.out.own_ge hk)); have K7 := Lib.hid (HBX.out _ Q7.out); obtain ⟨a7, m7, cap7, rfl, hm7, hs7⟩ := hB7.slm; have hB8 := hBW.later Q7.out; have hk8 : RepsS (fun b => w.heap.size ≤ b ∧ b < w7.heap.size ∧ u3.ownBlock ≠ some b) w7 [.int .i64 1, .string ⟨#[42]⟩, .slice none 0 0, .int .i64 4, .string ⟨#[]⟩, .slice a7 m7 cap7] (.cons 1 ⟨#[42]⟩ .nil (.cons 4 ⟨#[]⟩ ((Fo.cons 2 t .nil .nil).app (up c)) .nil)) := (by rw [hm7]; exact RepsS.cons_mk (k := 1) (t := ⟨#[42]⟩) SlS.nil (RepsS.one (k := 4) (t := ⟨#[]⟩) (outF_kids hB hbrW hs7))); clear hm7)
              | (go_at_call 28; refine (HIH.out c ac capc _ hck2 (hscW.later Q5.out)).mono ?_; rintro e w6 ⟨a6, cap6, rfl, hs6, hb6⟩; have Q6 := Lib.hid (Q5.out.trans (hb6.mono Q5.out.size)); have LB6 := Lib.hid (LA5.out.later hb6); have HP6 := Lib.hid (Put.kids LB6.out hs6.out LA5.out.ge (fun k hk => LA5.out.own_lt hk)); have K6 := Lib.hid (HBX.out _ Q6.out))
              | (go_at_call 28; refine (HIH.out c ac capc _ hck2 (hscW.later (Q5.out.alloc Q5.out.size _))).mono ?_; rintro e w6 ⟨a6, cap6, rfl, hs6, hb6⟩; have Q6 := Lib.hid ((Q5.out.alloc Q5.out.size _).trans (hb6.mono (Q5.out.alloc Q5.out.size _).size)); have LB6 := Lib.hid (LB5.out.later hb6); have HP6 := Lib.hid (Put.kids LB6.out hs6.out LB5.out.ge (fun k hk => LB5.out.own_lt hk)); have K6 := Lib.hid (HBX.out _ Q6.out))
              | (go_at_call 28; refine (HIH.out c ac capc _ hck2 (hscW.later Q5.out)).mono ?_; rintro e w6 ⟨a6, cap6, rfl, hs6, hb6⟩; have Q5' := Lib.hid (Q5.out.trans (hb6.mono Q5.out.size)); have K6 := Lib.hid (HBX.out _ Q5'.out); have LB6 := Lib.hid (Built.lit (base := W.heap.size) (n := w6.heap.size) (w := w6) (xs := [.int .i64 2, .string t, .slice none 0 0]) (G := .cons 2 t .nil .nil) (S := fun _ => False) (RepsS.one SlS.nil) rfl rfl (fun _ h => h.elim) (by simp only [Fo.len_cons, Fo.len_nil]; omega) Q5'.out.size); have HP6 := Lib.hid (Put.after (base := W.heap.size) (m := (Fo.cons 2 t .nil .nil).len) (m' := (Fo.cons 2 t .nil .nil).len) (o := .cells #[.int .i64 2, .string t, .slice none 0 0] 35) hs6.out Q5.out.size); have Q6 := Lib.hid (Q5'.out.alloc Q5'.out.size (.cells #[.int .i64 2, .string t, .slice none 0 0] 35)))
              | (go_at_call 42; (with_reducible refine (rchar_any _ W.drew).mono ?_); rintro e w5 ⟨rfl, hb5⟩; have Q5 := Lib.hid (hbd.trans (hb5.mono hbd.size)); have K5 := Lib.hid (HBX.out _ Q5.out); have LB5 := Lib.hid (Built.lit (base := W.heap.size) (n := w5.heap.size) (w := w5) (xs := [.int .i64 2, .string t, .slice none 0 0]) (G := .cons 2 t .nil .nil) (S := fun _ => False) (RepsS.one SlS.nil) rfl rfl (fun _ h => h.elim) (by simp only [Fo.len_cons, Fo.len_nil]; omega) Q5.out.size))
              | (go_at_call 42; refine (rchar_any _ _).mono ?_; rintro e w5 ⟨rfl, hb5⟩; have Q5 := Lib.hid (A0.out.trans (hb5.mono A0.out.size)); have K5 := Lib.hid (HBX.out _ Q5.out); have LA5 := Lib.hid (LB0.out.later hb5))
              | (refine step_append_built (by rfl) (.tmp 64) (.tmp 75) (by rfl) (hB8.push _) (by rfl) (by rfl) rfl (Put.push hk8 (by simp)) (by have := HGL.out; simp only [Fo.len_cons, Fo.len_nil]; omega) ?_; intro v9 w9 hB9 hgrow9 hat9; have K9 := Lib.hid ((K7.out.later ((Below.refl _ _).alloc (Nat.le_refl _) _)).grown hgrow9 HNE.out))
              | fail)
          all_goals
            have hbn := below_push (hbW.trans (Q7.out.mono hbW.size)) hB8 hgrow9
            have hB10 : Built w.heap.size w9 v9 (up (f.take (k + 1))) := by rw [HNX.out]; exact hB9
            go_wp2
            go_roundw
            case rel => exact ⟨_, k + 1, rfl, by go_num, by omega, hB10, hbn⟩
            case measure => simp [intOf]; omega
        by_cases hst : kd = 1 ∧ t = ⟨#[42]⟩
        · obtain ⟨rfl, rfl⟩ := hst
          rw [up1_star, show Fo.cons 1 ⟨#[42]⟩ .nil (.cons 1 ⟨#[86]⟩ .nil .nil) = (Fo.cons 1 ⟨#[42]⟩ .nil .nil).app (.cons 1 ⟨#[86]⟩ .nil .nil) from rfl, ← Fo.app_assoc] at HNX
          have hk1 := RepsS.one (w := W) (S := fun b => w.heap.size ≤ b ∧ b < W.heap.size ∧ u3.ownBlock ≠ some b) (k := 1) (t := ⟨#[42]⟩) SlS.nil
          subst hW
          go_wp2_with (first
            | (at_builtin; refine wpList_append_built rfl (.tmp 18) (.tmp 24) rfl (hBW.push _) rfl rfl rfl (Put.push hk1 (by simp)) (by have := HGL.out; simp only [Fo.len_cons, Fo.len_nil]; omega) ?_; intro v6 w6 hB6 hgrow6 hat6; obtain ⟨g6, f0, f1, f2⟩ := (hbx.later ((Below.refl _ _).alloc (Nat.le_refl _) _)).grown hgrow6 HNE.out; have hbl6 := below_push hbW hBW hgrow6; clear hgrow6 hat6)
            | (go_at_call 42; refine (rchar_any _ _).mono ?_; rintro e w7 ⟨rfl, hb7⟩; have hbl7 := hbl6.trans (hb7.mono hbl6.size); have hB7 := hB6.later hb7; have hk7 := RepsS.one (w := w7) (S := fun b => w.heap.size ≤ b ∧ b < w7.heap.size ∧ v6.ownBlock ≠ some b) (k := 1) (t := ⟨#[86]⟩) SlS.nil)
            | (at_builtin; refine wpList_append_built rfl (.tmp 34) (.tmp 36) rfl (hB7.push _) rfl rfl rfl (Put.push hk7 (by simp)) (by have := HGL.out; simp only [Fo.len_app, Fo.len_cons, Fo.len_nil]; omega) ?_; intro v8 w8 hB8 hgrow8 hat8))
          have hbn := below_push hbl7 hB7 hgrow8
          rw [← HNX.out] at hB8
          go_roundw
          case rel => exact ⟨_, k + 1, rfl, by go_num, by omega, hB8, hbn⟩
          case measure => simp [intOf]; omega
        rw [up1_other c h4 h5 h6 h7 h8 hst] at HNX
        have q4 : (kd == 4) = false := by simpa using h4
        have q5 : (kd == 5) = false := by simpa using h5
        have q6 : (kd == 6) = false := by simpa using h6
        have q7 : (kd == 7) = false := by simpa using h7
        have q8 : (kd == 8) = false := by simpa using h8
        by_cases h1 : kd = 1
        · subst h1
          have ht : ¬ t = ⟨#[42]⟩ := fun e => hst ⟨rfl, e⟩
          have hq := star_ne ht
          clear h4 h5 h6 h7 h8 hst q4 q5 q6 q7 q8
          have hk1 := RepsS.one (w := W) (S := fun b => w.heap.size ≤ b ∧ b < W.heap.size ∧ u3.ownBlock ≠ some b) (k := 1) (t := t) SlS.nil
          subst hW

          go_wp2_with (at_builtin; refine wpList_append_built rfl (.tmp 18) (.tmp 24) rfl (hBW.push _) rfl rfl rfl (Put.push hk1 (by simp)) (by have := HGL.out; simp only [Fo.len_cons, Fo.len_nil]; omega) ?_; intro v6 w6 hB6 hgrow6 hat6; obtain ⟨g6, f0, f1, f2⟩ := (hbx.later ((Below.refl _ _).alloc (Nat.le_refl _) _)).grown hgrow6 HNE.out)
          have hbn := below_push hbW hBW hgrow6
          rw [← HNX.out] at hB6
          go_roundw
          case rel => exact ⟨_, k + 1, rfl, by go_num, by omega, hB6, hbn⟩
          case measure => simp [intOf]; omega
        · have q1 : (kd == 1) = false := by simpa using h1
          clear h4 h5 h6 h7 h8 hst h1
          have hk1 := RepsS.one (w := W) (S := fun b => w.heap.size ≤ b ∧ b < W.heap.size ∧ u3.ownBlock ≠ some b) (k := kd) (t := t) SlS.nil
          subst hW

          go_wp2_with (at_builtin; refine wpList_append_built rfl (.tmp 18) (.tmp 24) rfl (hBW.push _) rfl rfl rfl (Put.push hk1 (by simp)) (by have := HGL.out; simp only [Fo.len_cons, Fo.len_nil]; omega) ?_; intro v6 w6 hB6 hgrow6 hat6; obtain ⟨g6, f0, f1, f2⟩ := (hbx.later ((Below.refl _ _).alloc (Nat.le_refl _) _)).grown hgrow6 HNE.out)
          have hbn := below_push hbW hBW hgrow6
          rw [← HNX.out] at hB6
          go_roundw
          case rel => exact ⟨_, k + 1, rfl, by go_num, by omega, hB6, hbn⟩
          case measure => simp [intOf]; omega
      · obtain rfl : k = f.len := by omega
        rw [Fo.take_len] at hB
        go_wp2
        go_ret
        exact outF_of hB hbl
end Go.Proofs.Ytfajodndpoepcaa
