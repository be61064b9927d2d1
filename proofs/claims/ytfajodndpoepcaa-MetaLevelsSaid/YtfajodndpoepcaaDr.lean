/- The expression that has a list of terms as its metacode, as the reference makes it. -/
import Derived.Test.YtfajodndpoepcaaDp
namespace Go.Proofs.Ytfajodndpoepcaa
open Go.RowKit TmM

theorem rdn_next {f g : Fo} {n : Nat} {k : Int} {t : ByteArray} {c r : Fo} (hd : f.drop n = .cons k t c r) (h : r = f.drop (n + 1)) (hg : dn (.cons k t c (f.drop (n + 1))) = g) : dn (f.drop n) = g := by rw [hd, h]; exact hg

set_option maxHeartbeats 12800000 in
set_option maxRecDepth 100000 in
theorem rdn_n (N : Nat) (hN : N ≤ 1000000) : ∀ (f : Fo) (a : Option Addr) (cap : Nat) (w : World), f.count ≤ N → Sl w.heap.size w a cap f →
    Calls Try.prog 35 #[.slice a f.len cap] w (OutDn w f) := by
  induction N with
  | zero =>
    intro f a cap w hc hs
    obtain rfl : f = .nil := by cases f with
      | nil => rfl
      | cons k t c r => simp [Fo.count] at hc
    go_enter Try.func35, Try.ntmps35
    go_wp2_with fail
    go_loopw [4, 5] (fun u i wr => u = .slice none 0 0 ∧ i = .int .i64 0 ∧ wr = w) (fun _ _ _ => 0)
    case atStart => exact ⟨rfl, rfl, rfl⟩
    case round =>
      obtain ⟨rfl, rfl, rfl⟩ := hrel
      go_wp2
      go_ret2
      exact outDn_some dn_nil (Built.nil (Nat.le_refl _)) (Below.refl _ _)
  | succ N ih =>
    intro f a cap w hc hs
    obtain ⟨b, o, hab, hbw, HCX⟩ := base_of hs
    have hcap := hs.cap
    unfold maxLen at hcap
    have hlen := Fo.len_le_count f
    have HAB := Lib.hid hab
    have HBW := Lib.hid hbw
    have HIH := Lib.hid (ih (by omega))
    have HC := Lib.hid hc
    clear ih hs hab hbw
    go_enter Try.func35, Try.ntmps35
    go_wp2_with fail
    go_loopw [4, 5] (fun u i wr => ∃ (v : Value) (k : Nat) (P : Fo), u = v ∧ i = .int .i64 k ∧ k ≤ f.len ∧ P.len ≤ k ∧ Hid (Built w.heap.size wr v P) ∧ Hid (dn f = (dn (f.drop k)).map (P.app ·)) ∧ Below w.heap.size w wr) (fun _ i _ => f.len - (intOf i).toNat)
    case atStart => exact ⟨_, 0, .nil, rfl, rfl, Nat.zero_le _, Nat.le_refl _, Lib.hid (Built.nil (Nat.le_refl _)), Lib.hid (dn_start f), Below.refl _ _⟩
    case round =>
      obtain ⟨v, k, P, rfl, rfl, hk, hPk, hB, hD, hbl⟩ := hrel
      by_cases hkl : k < f.len
      · obtain rfl := HAB.out (by omega)
        have hb := HBW.out (by omega)
        obtain ⟨kd, t, c, hd⟩ := Fo.drop_at hkl
        obtain ⟨c0, c1, ac, capc, c2, hsc⟩ := HCX.out k kd t c _ hd
        have e0 := (hbl.cell (p := ⟨b, o + k * 3, none⟩) hb).trans c0
        have e1 := (hbl.cell (p := ⟨b, o + k * 3 + 1, none⟩) hb).trans c1
        have e2 := (hbl.cell (p := ⟨b, o + k * 3 + 2, none⟩) hb).trans c2
        have hck := Fo.count_kid hd
        have HDD := Lib.hid hd
        have HPL := Lib.hid (show P.len ≤ 1000001 from by omega)
        have hsc' := hsc.below hbl hbl.size
        clear c0 c1 c2 hd
        obtain ⟨W, hW⟩ : ∃ W, W = wr.alloc (.cells #[.int .i64 kd, .string t, .slice ac c.len capc] 35) := ⟨_, rfl⟩
        have hbrW : Below wr.heap.size wr W := by rw [hW]; exact (Below.refl _ _).alloc (Nat.le_refl _) _
        have hbW : Below w.heap.size w W := hbl.trans (hbrW.mono hbl.size)
        have HSC := Lib.hid (hsc'.later hbrW)
        have HBW1 := Lib.hid (hB.out.later hbrW)
        have HBRW := Lib.hid hbrW
        have hbx : Box W wr.heap.size kd t ac c.len capc := by rw [hW]; exact Box.new _ _ _ _ _ _
        have HBX := Lib.hid hbx
        obtain ⟨x3, x0, x1, x2⟩ := hbx
        clear hsc hsc' hbrW
        by_cases h4 : kd = 4
        · subst h4
          have S := Lib.hid (HIH.out c ac capc W (by omega) HSC.out)
          go_wp2_with fail
          rw [← hW]
          clear hW
          refine S.out.mono ?_
          rintro e w2 ⟨a2, cap2, rfl, hs2, hb2⟩
          have hbl2 := hbW.trans (hb2.mono hbW.size)
          cases hdc : dn c with
          | none =>
            rw [dnR_none hdc]
            have HF := Lib.hid (dn_fail hD.out (by rw [HDD.out, dn_group, hdc]; rfl))
            clear hdc
            go_wp2
            go_ret2
            exact outDn_none HF.out hbl2
          | some l =>
            rw [dnR_some hdc] at hs2 ⊢
            have HST := Lib.hid (dn_step (j := k + 1) (k := 4) (t := ⟨#[]⟩) (c := l) hD.out (by rw [HDD.out, dn_group, hdc]; rfl))
            have hB2 := HBW1.out.later hb2
            obtain ⟨m2, hm2⟩ : ∃ m, m = l.len := ⟨_, rfl⟩
            have hk2 : RepsS (fun b => w.heap.size ≤ b ∧ b < w2.heap.size ∧ u4.ownBlock ≠ some b) w2 [.int .i64 4, .string ⟨#[]⟩, .slice a2 m2 cap2] (.cons 4 ⟨#[]⟩ l .nil) := by rw [hm2]; exact RepsS.one (k := 4) (t := ⟨#[]⟩) (outF_kids hB.out HBRW.out hs2.out)
            simp only
            rw [← hm2]
            clear hdc hm2
            go_wp2_with (first | (at_builtin; refine wpList_append_built rfl (.tmp 35) (.tmp 38) rfl (hB2.push _) rfl rfl rfl (Put.push hk2 (by simp)) (by have := HPL.out; simp only [Fo.len_cons, Fo.len_nil]; omega) ?_; intro v6 w6 hB6 hgrow6 hat6) | fail)
            have hbn := below_push hbl2 hB2 hgrow6
            go_roundw
            case rel => exact ⟨_, k + 1, _, rfl, by go_num, by omega, by simp only [Fo.len_app, Fo.len_cons, Fo.len_nil]; omega, Lib.hid hB6, Lib.hid (HST.out), hbn⟩
            case measure => simp [intOf]; omega
        by_cases hst : kd = 1 ∧ t = ⟨#[42]⟩
        · obtain ⟨rfl, rfl⟩ := hst
          have S : Hid (∀ w', Calls Try.prog 51 #[.agg #[.int .i64 1, .string ⟨#[42]⟩, .slice ac c.len capc], .string ⟨#[42]⟩] w' (OutV w' (.bool true))) := Lib.hid (fun w' => by
            have h := ris_any 1 ⟨#[42]⟩ ⟨#[42]⟩ ac c.len capc w'
            rw [decide_eq_true (And.intro rfl rfl)] at h
            exact h)
          go_wp2_with fail
          rw [← hW]
          clear hW
          refine (S.out W).mono ?_
          rintro e w2 ⟨rfl, hb2⟩
          have hbl2 := hbW.trans (hb2.mono hbW.size)
          have HB2 := Lib.hid (HBW1.out.later hb2)
          clear S x3 x0 x1 x2 hbW
          by_cases hk1 : k + 1 < f.len
          · obtain ⟨k2, t2, kc, hd2⟩ := Fo.drop_at hk1
            obtain ⟨c0, c1, ak, capk, c2, hsk⟩ := HCX.out (k + 1) k2 t2 kc _ hd2
            have e3 := (hbl2.cell (p := ⟨b, o + (k + 1) * 3, none⟩) hb).trans c0
            have e4 := (hbl2.cell (p := ⟨b, o + (k + 1) * 3 + 1, none⟩) hb).trans c1
            have e5 := (hbl2.cell (p := ⟨b, o + (k + 1) * 3 + 2, none⟩) hb).trans c2
            have hck2 := Fo.count_kid hd2
            have HD2 := Lib.hid hd2
            have hsk' := hsk.below hbl2 hbl2.size
            clear c0 c1 c2 hd2
            obtain ⟨W2, hW2⟩ : ∃ W2, W2 = w2.alloc (.cells #[.int .i64 k2, .string t2, .slice ak kc.len capk] 35) := ⟨_, rfl⟩
            have hbrW2 : Below w2.heap.size w2 W2 := by rw [hW2]; exact (Below.refl _ _).alloc (Nat.le_refl _) _
            have hbW2 : Below w.heap.size w W2 := hbl2.trans (hbrW2.mono hbl2.size)
            have HSK := Lib.hid (hsk'.later hbrW2)
            have HBW2 := Lib.hid (HB2.out.later hbrW2)
            have HBRW2 := Lib.hid hbrW2
            have hbx2 : Box W2 w2.heap.size k2 t2 ak kc.len capk := by rw [hW2]; exact Box.new _ _ _ _ _ _
            have HBX2 := Lib.hid hbx2
            clear hsk hsk' hbrW2 hbx2
            by_cases hv : k2 = 1 ∧ t2 = ⟨#[86]⟩
            · obtain ⟨rfl, rfl⟩ := hv
              have S2 : Hid (∀ w', Calls Try.prog 51 #[.agg #[.int .i64 1, .string ⟨#[86]⟩, .slice ak kc.len capk], .string ⟨#[86]⟩] w' (OutV w' (.bool true))) := Lib.hid (fun w' => by
                have h := ris_any 1 ⟨#[86]⟩ ⟨#[86]⟩ ak kc.len capk w'
                rw [decide_eq_true (And.intro rfl rfl)] at h
                exact h)
              have HST := Lib.hid (dn_step (j := k + 1 + 1) (k := 1) (t := ⟨#[42]⟩) (c := .nil) hD.out (by rw [HDD.out, HD2.out]; exact dn_star _ _ _))
              go_wp2_with fail
              rw [← hW2]
              clear hW2
              refine (S2.out W2).mono ?_
              rintro e w3 ⟨rfl, hb3⟩
              have hbl3 := hbW2.trans (hb3.mono hbW2.size)
              have hB3 := HBW2.out.later hb3
              go_wp2_with fail
              refine (rchar_any _ w3).mono ?_
              rintro e w4 ⟨rfl, hb4⟩
              have hbl4 := hbl3.trans (hb4.mono hbl3.size)
              have hB4 := hB3.later hb4
              have hk4 := RepsS.one (w := w4) (S := fun b => w.heap.size ≤ b ∧ b < w4.heap.size ∧ u4.ownBlock ≠ some b) (k := 1) (t := ⟨#[42]⟩) SlS.nil
              go_wp2_with (first | (at_builtin; refine wpList_append_built rfl (.tmp 63) (.tmp 65) rfl (hB4.push _) rfl rfl rfl (Put.push hk4 (by simp)) (by have := HPL.out; simp only [Fo.len_cons, Fo.len_nil]; omega) ?_; intro v6 w6 hB6 hgrow6 hat6) | fail)
              have hbn := below_push hbl4 hB4 hgrow6
              go_roundw
              case rel => exact ⟨_, k + 1 + 1, _, rfl, by go_num, by omega, by simp only [Fo.len_app, Fo.len_cons, Fo.len_nil]; omega, Lib.hid hB6, Lib.hid (HST.out), hbn⟩
              case measure => simp [intOf]; omega

            · have S2 : Hid (∀ w', Calls Try.prog 51 #[.agg #[.int .i64 k2, .string t2, .slice ak kc.len capk], .string ⟨#[86]⟩] w' (OutV w' (.bool false))) := Lib.hid (fun w' => by
                have h := ris_any k2 t2 ⟨#[86]⟩ ak kc.len capk w'
                rw [decide_eq_false hv] at h
                exact h)
              have HV := Lib.hid hv
              clear hv
              by_cases h24 : k2 = 4
              · subst h24
                go_wp2_with fail
                rw [← hW2]
                clear hW2
                refine (S2.out W2).mono ?_
                rintro e w3 ⟨rfl, hb3⟩
                have hbl3 := hbW2.trans (hb3.mono hbW2.size)
                have HB3 := Lib.hid (HBW2.out.later hb3)
                obtain ⟨y3, y0, y1, y2⟩ := HBX2.out.later hb3
                have HSK3 := Lib.hid (HSK.out.later hb3)
                have HBRW3 := Lib.hid (HBRW2.out.trans (hb3.mono HBRW2.out.size))
                clear S2 hb3
                cases hkc : kc with
                | nil =>
                  have HF := Lib.hid (dn_fail hD.out (by rw [HDD.out, HD2.out, hkc]; exact dn_call0 _ _ _))
                  subst hkc
                  go_wp2
                  go_ret2
                  exact outDn_none HF.out hbl3
                | cons k3 t3 c3 r3 =>
                  subst hkc
                  obtain ⟨b2, o2, hab2, hbw2, HCX2⟩ := base_of HSK3.out
                  obtain rfl := hab2 (by simp)
                  obtain ⟨z0, z1, _, _, z2, _⟩ := HCX2.out 0 k3 t3 c3 r3 (Fo.drop_zero _)
                  simp only [Nat.zero_mul, Nat.add_zero] at z0 z1 z2
                  clear hab2 HCX2 z2
                  obtain ⟨n2, hn2⟩ : ∃ n2, n2 = (Fo.cons k3 t3 c3 r3).len := ⟨_, rfl⟩
                  rw [← hn2] at y2
                  have hn1 : n2 = r3.len + 1 := hn2
                  have hnp : 0 < n2 := by omega
                  have hcp : n2 ≤ capk := by have := HSK3.out.cap.1; rw [Fo.len_cons] at this; omega
                  have hcm : capk ≤ 9223372036854775807 := by have := HSK3.out.cap.2; unfold maxLen at this; omega
                  have hn1i : (1 : Int) ≤ (n2 : Int) := by omega
                  have hnci : (n2 : Int) ≤ (capk : Int) := by omega
                  have hnz : ¬ n2 = 0 := by omega
                  have hnq : ((n2 : Int) == 0) = false := by simp; omega
                  have HN1 := Lib.hid hn1
                  clear hn2 hn1
                  by_cases h3 : k3 = 2
                  · subst h3
                    have hbb : b2 < w3.heap.size := hbw2 (by simp)
                    have HS3 := Lib.hid (fun a' c' (h : Sl w3.heap.size w3 a' c' r3) => HIH.out r3 a' c' w3 (by simp only [Fo.count] at hck2; omega) h)
                    have HTL := Lib.hid HSK3.out.tail
                    by_cases hc1 : capk = 1
                    · subst hc1
                      have hn2e : n2 = 1 := by omega
                      subst hn2e
                      have hr3 : r3 = .nil := len0 (by have := HN1.out; omega)
                      have S3 : Hid (Calls Try.prog 35 #[.slice (some ⟨b2, o2, none⟩) 0 0] w3 (OutDn w3 r3)) := Lib.hid (by
                        have h := HS3.out (some ⟨b2, o2, none⟩) 0 ⟨by rw [hr3]; exact Nat.le_refl _, Nat.zero_le _, by simp, .inl hr3⟩
                        rw [hr3] at h ⊢
                        exact h)
                      clear hr3 hnp hcp hcm hn1i hnci hnz hnq
                      go_wp2_with fail
                      refine S3.out.mono ?_
                      rintro e w4 ⟨a4, cap4, rfl, hs4, hb4⟩
                      have hbl4 := hbl3.trans (hb4.mono hbl3.size)
                      cases hdr : dn r3 with
                      | none =>
                        rw [dnR_none hdr]
                        have HF := Lib.hid (dn_fail hD.out (by rw [HDD.out, HD2.out]; exact (dn_call _ _ _ _ _ _).trans (by rw [hdr]; rfl)))
                        clear hdr
                        go_wp2
                        go_ret2
                        exact outDn_none HF.out hbl4
                      | some l =>
                        rw [dnR_some hdr] at hs4 ⊢
                        have HST := Lib.hid (dn_step (j := k + 1 + 1) (k := 8) (t := t3) (c := l) hD.out (by rw [HDD.out, HD2.out]; exact (dn_call _ _ _ _ _ _).trans (by rw [hdr]; rfl)))
                        have hB4 := HB3.out.later hb4
                        obtain ⟨m4, hm4⟩ : ∃ m, m = l.len := ⟨_, rfl⟩
                        have hk4 : RepsS (fun b => w.heap.size ≤ b ∧ b < w4.heap.size ∧ u4.ownBlock ≠ some b) w4 [.int .i64 8, .string t3, .slice a4 m4 cap4] (.cons 8 t3 l .nil) := by rw [hm4]; exact RepsS.one (k := 8) (t := t3) (outF_kids HB2.out HBRW3.out hs4.out)
                        have v1 := (hb4.cell (p := ⟨b2, o2 + 1, none⟩) hbb).trans z1
                        have v2 := (hb4.cell (p := ⟨w2.heap.size, 2, none⟩) y3).trans y2
                        simp only
                        rw [← hm4]
                        clear hdr hm4
                        go_wp2_with (first | (at_builtin; refine wpList_append_built rfl (.tmp 91) (.tmp 99) rfl (hB4.push _) rfl rfl rfl (Put.push hk4 (by simp)) (by have := HPL.out; simp only [Fo.len_cons, Fo.len_nil]; omega) ?_; intro v6 w6 hB6 hgrow6 hat6) | fail)
                        have hbn := below_push hbl4 hB4 hgrow6
                        go_roundw
                        case rel => exact ⟨_, k + 1 + 1, _, rfl, by go_num, by omega, by simp only [Fo.len_app, Fo.len_cons, Fo.len_nil]; omega, Lib.hid hB6, Lib.hid (HST.out), hbn⟩
                        case measure => simp [intOf]; omega

                    · have hc2 : ¬ capk - 1 = 0 := by omega
                      have hc3 : ¬ capk = 1 := hc1
                      have S3 : Hid (Calls Try.prog 35 #[.slice (some ⟨b2, o2 + 3, none⟩) (n2 - 1) (capk - 1)] w3 (OutDn w3 r3)) := Lib.hid (by
                        rw [show n2 - 1 = r3.len from by have := HN1.out; omega]
                        exact HS3.out _ _ HTL.out)
                      go_wp2_with fail
                      refine S3.out.mono ?_
                      rintro e w4 ⟨a4, cap4, rfl, hs4, hb4⟩
                      have hbl4 := hbl3.trans (hb4.mono hbl3.size)
                      cases hdr : dn r3 with
                      | none =>
                        rw [dnR_none hdr]
                        have HF := Lib.hid (dn_fail hD.out (by rw [HDD.out, HD2.out]; exact (dn_call _ _ _ _ _ _).trans (by rw [hdr]; rfl)))
                        clear hdr
                        go_wp2
                        go_ret2
                        exact outDn_none HF.out hbl4
                      | some l =>
                        rw [dnR_some hdr] at hs4 ⊢
                        have HST := Lib.hid (dn_step (j := k + 1 + 1) (k := 8) (t := t3) (c := l) hD.out (by rw [HDD.out, HD2.out]; exact (dn_call _ _ _ _ _ _).trans (by rw [hdr]; rfl)))
                        have hB4 := HB3.out.later hb4
                        obtain ⟨m4, hm4⟩ : ∃ m, m = l.len := ⟨_, rfl⟩
                        have hk4 : RepsS (fun b => w.heap.size ≤ b ∧ b < w4.heap.size ∧ u4.ownBlock ≠ some b) w4 [.int .i64 8, .string t3, .slice a4 m4 cap4] (.cons 8 t3 l .nil) := by rw [hm4]; exact RepsS.one (k := 8) (t := t3) (outF_kids HB2.out HBRW3.out hs4.out)
                        have v1 := (hb4.cell (p := ⟨b2, o2 + 1, none⟩) hbb).trans z1
                        have v2 := (hb4.cell (p := ⟨w2.heap.size, 2, none⟩) y3).trans y2
                        simp only
                        rw [← hm4]
                        clear hdr hm4
                        go_wp2_with (first | (at_builtin; refine wpList_append_built rfl (.tmp 91) (.tmp 99) rfl (hB4.push _) rfl rfl rfl (Put.push hk4 (by simp)) (by have := HPL.out; simp only [Fo.len_cons, Fo.len_nil]; omega) ?_; intro v6 w6 hB6 hgrow6 hat6) | fail)
                        have hbn := below_push hbl4 hB4 hgrow6
                        go_roundw
                        case rel => exact ⟨_, k + 1 + 1, _, rfl, by go_num, by omega, by simp only [Fo.len_app, Fo.len_cons, Fo.len_nil]; omega, Lib.hid hB6, Lib.hid (HST.out), hbn⟩
                        case measure => simp [intOf]; omega

                  · have HF := Lib.hid (dn_fail hD.out (by rw [HDD.out, HD2.out]; exact dn_call1 _ _ _ _ _ _ h3))
                    have q3 : (k3 == 2) = false := by simpa using h3
                    clear h3
                    go_wp2
                    go_ret2
                    exact outDn_none HF.out hbl3
              · have q24 : (k2 == 4) = false := by simpa using h24
                go_wp2_with fail
                rw [← hW2]
                clear hW2
                refine (S2.out W2).mono ?_
                rintro e w3 ⟨rfl, hb3⟩
                have hbl3 := hbW2.trans (hb3.mono hbW2.size)
                have HB3 := Lib.hid (HBW2.out.later hb3)
                have HBX3 := Lib.hid (HBX2.out.later hb3)
                obtain ⟨y3, y0, y1, y2⟩ := HBX3.out
                clear S2 hb3
                go_wp2_with fail
                go_loopw [12, 13] (fun x j wl => ∃ n : Nat, j = .int .i64 (5 + (n : Int)) ∧ n ≤ 3 ∧ x = .int .i64 (kindTo k2 t2 n) ∧ Below w3.heap.size w3 wl) (fun _ j _ => 8 - (intOf j).toNat)
                case atStart => exact ⟨0, rfl, Nat.zero_le _, rfl, Below.refl _ _⟩
                case round =>
                  obtain ⟨n, rfl, hn, rfl, hbq⟩ := hrel
                  by_cases hn3 : n < 3
                  · have hj7 : (5 : Int) + (n : Int) ≤ 7 := by omega
                    by_cases hm : k2 = 1 ∧ t2 = letterOf (5 + (n : Int))
                    · have S4 : Hid (∀ w', Calls Try.prog 51 #[.agg #[.int .i64 k2, .string t2, .slice ak kc.len capk], .string (letterOf (5 + (n : Int)))] w' (OutV w' (.bool true))) := Lib.hid (fun w' => by
                        have h := ris_any k2 t2 (letterOf (5 + (n : Int))) ak kc.len capk w'
                        rw [decide_eq_true hm] at h
                        exact h)
                      have HKT := Lib.hid (show kindTo k2 t2 (n + 1) = 5 + (n : Int) from by rw [kindTo, if_pos hm])
                      clear hm
                      go_wp2_with fail
                      have hbd := hbq.drew
                      have HBD := Lib.hid hbd
                      obtain ⟨g3, g0, g1, g2⟩ := HBX3.out.later hbd
                      go_region_held3 (fun w' => w'.cell? ⟨w2.heap.size, 0, none⟩ = some (.int .i64 k2) ∧ w'.cell? ⟨w2.heap.size, 1, none⟩ = some (.string t2) ∧ w'.cell? ⟨w2.heap.size, 2, none⟩ = some (.slice ak kc.len capk))
                        (first | exact ⟨g0, g1, g2⟩ | exact K7.out | exact K6.out | go_keep)
                        (first
                          | (go_at_call 51; refine (S4.out w6).mono ?_; rintro e w7 ⟨rfl, hb7⟩; have Q7 := Lib.hid (Q6.out.trans (hb7.mono Q6.out.size)); have K7 := Lib.hid (HBX3.out.later Q7.out).2)
                          | (go_at_call 43; refine (rletter_any _ _).mono ?_; rintro e w6 ⟨rfl, hb6⟩; have Q6 := Lib.hid (HBD.out.trans (hb6.mono HBD.out.size)); have K6 := Lib.hid (HBX3.out.later Q6.out).2)
                          | fail)
                      go_wp2
                      go_roundw
                      case rel => exact ⟨n + 1, by go_num, by omega, by rw [HKT.out], Q7.out⟩
                      case measure => simp [intOf]; omega
                    · have S4 : Hid (∀ w', Calls Try.prog 51 #[.agg #[.int .i64 k2, .string t2, .slice ak kc.len capk], .string (letterOf (5 + (n : Int)))] w' (OutV w' (.bool false))) := Lib.hid (fun w' => by
                        have h := ris_any k2 t2 (letterOf (5 + (n : Int))) ak kc.len capk w'
                        rw [decide_eq_false hm] at h
                        exact h)
                      have HKT := Lib.hid (show kindTo k2 t2 (n + 1) = kindTo k2 t2 n from by rw [kindTo, if_neg hm])
                      clear hm
                      go_wp2_with fail
                      have hbd := hbq.drew
                      have HBD := Lib.hid hbd
                      obtain ⟨g3, g0, g1, g2⟩ := HBX3.out.later hbd
                      go_region_held3 (fun w' => w'.cell? ⟨w2.heap.size, 0, none⟩ = some (.int .i64 k2) ∧ w'.cell? ⟨w2.heap.size, 1, none⟩ = some (.string t2) ∧ w'.cell? ⟨w2.heap.size, 2, none⟩ = some (.slice ak kc.len capk))
                        (first | exact ⟨g0, g1, g2⟩ | exact K7.out | exact K6.out | go_keep)
                        (first
                          | (go_at_call 51; refine (S4.out w6).mono ?_; rintro e w7 ⟨rfl, hb7⟩; have Q7 := Lib.hid (Q6.out.trans (hb7.mono Q6.out.size)); have K7 := Lib.hid (HBX3.out.later Q7.out).2)
                          | (go_at_call 43; refine (rletter_any _ _).mono ?_; rintro e w6 ⟨rfl, hb6⟩; have Q6 := Lib.hid (HBD.out.trans (hb6.mono HBD.out.size)); have K6 := Lib.hid (HBX3.out.later Q6.out).2)
                          | fail)
                      go_wp2
                      go_roundw
                      case rel => exact ⟨n + 1, by go_num, by omega, by rw [HKT.out], Q7.out⟩
                      case measure => simp [intOf]; omega
                  · obtain rfl : n = 3 := by omega
                    have hblq := hbl3.trans (hbq.mono hbl3.size)
                    have hBq := HB3.out.later hbq
                    have HH4 := Lib.hid h24
                    obtain ⟨kv, hkv⟩ : ∃ kv, kv = kindTo k2 t2 3 := ⟨_, rfl⟩
                    have HKV := Lib.hid hkv
                    rw [← hkv]
                    clear hkv
                    by_cases h0 : kv = 0
                    · subst h0
                      have HF := Lib.hid (dn_fail hD.out (by rw [HDD.out, HD2.out]; exact dn_varX _ _ _ HV.out HH4.out HKV.out.symm))
                      go_wp2
                      go_ret2
                      exact outDn_none HF.out hblq
                    · have q0 : (kv == 0) = false := by simpa using h0
                      have H0 := Lib.hid (show kindTo k2 t2 3 ≠ 0 from by rw [← HKV.out]; exact h0)
                      clear h0
                      by_cases hk3 : k + 1 + 1 < f.len
                      · obtain ⟨k4, t4, c4, hd4⟩ := Fo.drop_at hk3
                        obtain ⟨c0, c1, _, _, c2, _⟩ := HCX.out (k + 1 + 1) k4 t4 c4 _ hd4
                        have e6 := (hblq.cell (p := ⟨b, o + (k + 1 + 1) * 3, none⟩) hb).trans c0
                        have e7 := (hblq.cell (p := ⟨b, o + (k + 1 + 1) * 3 + 1, none⟩) hb).trans c1
                        have HD4 := Lib.hid hd4
                        have hkq : ((k : Int) + 1 + 1 == (f.len : Int)) = false := by simp; omega
                        clear c0 c1 c2 hd4
                        by_cases h42 : k4 = 2
                        · subst h42
                          have HST := Lib.hid (dn_step (j := k + 1 + 1 + 1) (k := kv) (t := t4) (c := .nil) hD.out (by rw [HDD.out, HD2.out, HD4.out, HKV.out]; exact dn_varZ _ _ _ _ _ HV.out HH4.out H0.out))
                          have hkn := RepsS.one (w := wr) (S := fun b => w.heap.size ≤ b ∧ b < wr.heap.size ∧ u4.ownBlock ≠ some b) (k := kv) (t := t4) SlS.nil
                          go_wp2_with (first | (at_builtin; refine wpList_append_built rfl (.tmp 128) (.tmp 136) rfl (hBq.push _) rfl rfl rfl (Put.push hkn (by simp)) (by have := HPL.out; simp only [Fo.len_cons, Fo.len_nil]; omega) ?_; intro v9 w9 hB9 hgrow9 hat9) | fail)
                          have hbn := below_push hblq hBq hgrow9
                          go_roundw
                          case rel => exact ⟨_, k + 1 + 1 + 1, _, rfl, by go_num, by omega, by simp only [Fo.len_app, Fo.len_cons, Fo.len_nil]; omega, Lib.hid hB9, Lib.hid (HST.out), hbn⟩
                          case measure => simp [intOf]; omega
                        · have HF := Lib.hid (dn_fail hD.out (by rw [HDD.out, HD2.out, HD4.out]; exact dn_varY _ _ _ _ _ HV.out HH4.out h42))
                          have q42 : (k4 == 2) = false := by simpa using h42
                          clear h42
                          go_wp2
                          go_ret2
                          exact outDn_none HF.out hblq
                      · have hk3' : k + 1 + 1 = f.len := by omega
                        have HF := Lib.hid (dn_fail hD.out (by rw [HDD.out, HD2.out, show f.drop (k + 1 + 1) = .nil from by rw [hk3']; exact Fo.drop_len f]; exact dn_var0 _ _ HV.out HH4.out))
                        have hki : (k : Int) + 1 + 1 = (f.len : Int) := by omega
                        have hkq : ((k : Int) + 1 + 1 == (f.len : Int)) = true := by simpa using hki
                        clear hk3
                        go_wp2
                        go_ret2
                        exact outDn_none HF.out hblq
          · have hk1' : k + 1 = f.len := by omega
            have HF := Lib.hid (dn_fail hD.out (by rw [HDD.out, show f.drop (k + 1) = .nil from by rw [hk1']; exact Fo.drop_len f]; exact dn_end _))
            have hki : (k : Int) + 1 = (f.len : Int) := by omega
            have hkq : ((k : Int) + 1 == (f.len : Int)) = true := by simpa using hki
            clear hk1
            go_wp2
            go_ret2
            exact outDn_none HF.out hbl2
        · have S : Hid (∀ w', Calls Try.prog 51 #[.agg #[.int .i64 kd, .string t, .slice ac c.len capc], .string ⟨#[42]⟩] w' (OutV w' (.bool false))) := Lib.hid (fun w' => by
            have h := ris_any kd t ⟨#[42]⟩ ac c.len capc w'
            rw [decide_eq_false hst] at h
            exact h)
          have HST := Lib.hid (dn_step (j := k + 1) (k := kd) (t := t) (c := .nil) hD.out (by rw [HDD.out, dn_plain _ _ h4 hst]))
          have q4 : (kd == 4) = false := by simpa using h4
          clear hst h4
          go_wp2_with fail
          rw [← hW]
          clear hW
          refine (S.out W).mono ?_
          rintro e w2 ⟨rfl, hb2⟩
          have hbl2 := hbW.trans (hb2.mono hbW.size)
          have hB2 := HBW1.out.later hb2
          obtain ⟨y3, y0, y1, y2⟩ := HBX.out.later hb2
          have hk2 := RepsS.one (w := w2) (S := fun b => w.heap.size ≤ b ∧ b < w2.heap.size ∧ u4.ownBlock ≠ some b) (k := kd) (t := t) SlS.nil
          go_wp2_with (first | (at_builtin; refine wpList_append_built rfl (.tmp 43) (.tmp 49) rfl (hB2.push _) rfl rfl rfl (Put.push hk2 (by simp)) (by have := HPL.out; simp only [Fo.len_cons, Fo.len_nil]; omega) ?_; intro v6 w6 hB6 hgrow6 hat6) | fail)
          have hbn := below_push hbl2 hB2 hgrow6
          go_roundw
          case rel => exact ⟨_, k + 1, _, rfl, by go_num, by omega, by simp only [Fo.len_app, Fo.len_cons, Fo.len_nil]; omega, Lib.hid hB6, Lib.hid (HST.out), hbn⟩
          case measure => simp [intOf]; omega
      · obtain rfl : k = f.len := by omega
        have HF := Lib.hid (dn_done hD.out)
        go_wp2
        go_ret2
        exact outDn_some HF.out hB.out hbl
end Go.Proofs.Ytfajodndpoepcaa
