/- The law on metacode and back: the walk. -/
import Derived.Test.YtfajodndpoepcaaRg
import Derived.Test.YtfajodndpoepcaaLt
import Derived.Test.YtfajodndpoepcaaVg
namespace Go.Proofs.Ytfajodndpoepcaa
open Go.RowKit TmM

theorem small_up : ∀ {f : Fo}, Small f → Small (up f)
  | .nil, h => h
  | .cons k t c r, h => by
    have h1 := small_up h.2.1
    have h2 := small_up h.2.2
    have h3 := h.1
    have hs : ∀ b : UInt8, (str b).size ≤ 600 := fun b => by show 1 ≤ 600; decide
    have h0 : (⟨#[]⟩ : ByteArray).size ≤ 600 := by decide
    simp only [up]
    repeat' split
    all_goals simp only [Small]
    all_goals simp [h1, h2, h3, hs, h0]

/-- an answer with an expression and an error. -/
def OutA (w : World) (m : Nat) (G : Fo) (q : Int) (e : Ending) (w' : World) : Prop :=
  ∃ a cap, e = .returned (.tuple #[.slice a m cap, .int .i64 q]) ∧ Hid (SlS (fun b => w.heap.size ≤ b ∧ b < w'.heap.size) w' a cap G) ∧ Below w.heap.size w w'
theorem OutUp.a {w w' : World} {f G : Fo} {q : Int} {e : Ending} (h : OutUp w f e w') (hr : upR f = (G, q)) : OutA w G.len G q e w' := by
  obtain ⟨a, cap, h1, h2, h3⟩ := h
  rw [hr] at h1 h2
  exact ⟨a, cap, h1, h2, h3⟩
theorem OutDnX.a {w w' : World} {f G : Fo} {q : Int} {e : Ending} (h : OutDnX w f e w') (hr : dnX f = (G, q)) : OutA w G.len G q e w' := by
  obtain ⟨a, cap, h1, h2, h3⟩ := h
  rw [hr] at h1 h2
  exact ⟨a, cap, h1, h2, h3⟩

set_option maxHeartbeats 12800000 in
set_option maxRecDepth 100000 in
theorem lawBack_any (f : Fo) (a : Option Addr) (cap : Nat) (w : World) (hs : Sl w.heap.size w a cap f) :
    Calls Try.prog 6 #[.slice a f.len cap] w (OutV w (.bool true)) := by
  have hnot : ∀ (x : Bool) (w : World), (Op.unary .not (.bool x)).run Try.prog w = .ok (.bool (!x)) w := fun _ _ => rfl
  have SM := Lib.hid (small_any f a cap 2000 w (by decide) (by decide) hs)
  have HS := Lib.hid hs
  obtain ⟨m, hm⟩ : ∃ m, m = f.len := ⟨_, rfl⟩
  have HM := Lib.hid hm
  rw [← hm] at SM ⊢
  clear hs hm
  go_enter Try.func6, Try.ntmps6
  go_wp2_with fail
  refine SM.out.mono ?_
  rintro e w1 ⟨r, rfl, hr, rfl⟩
  have hs0 : Below w.heap.size w w := Below.refl _ _
  cases r
  · clear hr SM
    go_wp2_with fail
    refine (awake_any _).mono ?_
    rintro e w2 ⟨rfl, hb2⟩
    go_wp2
    go_ret
    exact ⟨rfl, hb2⟩
  · have hc := (hr.out rfl).1
    have hsm := (hr.out rfl).2
    have hc' : f.count ≤ 1000000 := by simp at hc; omega
    have hcs : f.count ≤ 2000 := hc
    obtain ⟨V, hV⟩ : ∃ V, V = (upR f).1 := ⟨_, rfl⟩
    obtain ⟨q1, hq1⟩ : ∃ q, q = (upR f).2 := ⟨_, rfl⟩
    obtain ⟨X, hX⟩ : ∃ X, X = (dnX f).1 := ⟨_, rfl⟩
    obtain ⟨q2, hq2⟩ : ∃ q, q = (dnX f).2 := ⟨_, rfl⟩
    obtain ⟨mV, hmV⟩ : ∃ m, m = V.len := ⟨_, rfl⟩
    obtain ⟨mX, hmX⟩ : ∃ m, m = X.len := ⟨_, rfl⟩
    obtain ⟨r4, hr4⟩ : ∃ r, r = wrongC 4 f := ⟨_, rfl⟩
    obtain ⟨st, hst⟩ : ∃ r, r = starB f := ⟨_, rfl⟩
    have HU := Lib.hid (fun w' (h : Below w.heap.size w w') => show Calls Try.prog 11 #[.slice a m cap] w' (OutA w' mV V q1) from by
      rw [HM.out, hmV]
      exact (pUp_any f a cap w' hc' hsm (HS.out.later h)).mono (fun _ _ h => h.a (by rw [hV, hq1])))
    have HD := Lib.hid (fun w' (h : Below w.heap.size w w') => show Calls Try.prog 14 #[.slice a m cap] w' (OutA w' mX X q2) from by
      rw [HM.out, hmX]
      exact (pDn_any f a cap w' hc' hsm (HS.out.later h)).mono (fun _ _ h => h.a (by rw [hX, hq2])))
    have HVAL := Lib.hid (fun w' (h : Below w.heap.size w w') => show Calls Try.prog 20 #[.slice a m cap] w' (OutV w' (.int .i64 r4)) from by
      rw [HM.out, hr4]
      exact pvalue_any f a cap w' hc' hsm (HS.out.later h))
    have HST := Lib.hid (fun w' (h : Below w.heap.size w w') => show Calls Try.prog 21 #[.slice a m cap] w' (fun e w'' => e = .returned (.bool st) ∧ w' = w'') from by
      rw [HM.out, hst]
      exact star_n f.count f a cap w' (Nat.le_refl _) (HS.out.later h))
    have EQF := Lib.hid (fun (a' : Option Addr) (c' : Nat) w' (h : Below w.heap.size w w') (hs' : Sl w'.heap.size w' a' c' f) => show Calls Try.prog 13 #[.slice a' m c', .slice a m cap] w' (OutV w' (.bool true)) from by
      have E := equal_any f f a' a c' cap w' hs' (HS.out.later h)
      rw [eqF_self] at E
      rw [HM.out]
      exact E)
    have HUOK := Lib.hid (fun (h0 : q1 = 0) => show (∀ (a' : Option Addr) (c' : Nat) w', Below w.heap.size w w' → Sl w'.heap.size w' a' c' V → Calls Try.prog 14 #[.slice a' mV c'] w' (OutA w' m f 0)) ∧
        (∀ (a' : Option Addr) (c' : Nat) w', Below w.heap.size w w' → Sl w'.heap.size w' a' c' V → Calls Try.prog 20 #[.slice a' mV c'] w' (OutV w' (.int .i64 0))) from by
      have h1 : (upR f).2 = 0 := by rw [← hq1]; exact h0
      obtain ⟨h4, hd⟩ := dnX_up h1
      have hVu : V = up f := by rw [hV]; exact (upR_ok h1).2.2
      rw [← hVu] at h4 hd
      have hcV : V.count ≤ 1000000 := by have := (wrong_formM h4).1; omega
      have hsV : Small V := by rw [hVu]; exact small_up hsm
      rw [HM.out, hmV]
      refine ⟨fun a' c' w' _ hs' => (pDn_any V a' c' w' hcV hsV hs').mono (fun _ _ h => h.a hd), fun a' c' w' _ hs' => ?_⟩
      have := pvalue_any V a' c' w' hcV hsV hs'
      rwa [h4] at this)
    have HDOK := Lib.hid (fun (h0 : q2 = 0) => show ∀ (a' : Option Addr) (c' : Nat) w', Below w.heap.size w w' → Sl w'.heap.size w' a' c' X → Calls Try.prog 11 #[.slice a' mX c'] w' (OutA w' m f 0) from by
      have h1 : (dnX f).2 = 0 := by rw [← hq2]; exact h0
      have hu := upR_dn h1
      rw [← hX] at hu
      obtain ⟨h4, g, hd, hw, he⟩ := dnX_ok h1
      have hXg : X = g := by rw [hX, he]
      have hp := dn_parts hd
      rw [← hXg] at hp
      rw [HM.out, hmX]
      exact fun a' c' w' _ hs' => (pUp_any X a' c' w' (by omega) (hp.2 hsm) hs').mono (fun _ _ h => h.a hu))
    have HPLAIN := Lib.hid (fun (h0 : r4 = 0) (h1 : st = false) => plain_back (f := f) (by rw [← hr4]; exact h0) (by rw [← hst]; exact h1))
    have HUPP := Lib.hid (fun (hx : upR f = (f, 0)) w' (h : Below w.heap.size w w') => show Calls Try.prog 11 #[.slice a m cap] w' (OutA w' m f 0) from by
      rw [HM.out]
      exact (pUp_any f a cap w' hc' hsm (HS.out.later h)).mono (fun _ _ h => h.a hx))
    have HDNP := Lib.hid (fun (hx : dnX f = (f, 0)) w' (h : Below w.heap.size w w') => show Calls Try.prog 14 #[.slice a m cap] w' (OutA w' m f 0) from by
      rw [HM.out]
      exact (pDn_any f a cap w' hc' hsm (HS.out.later h)).mono (fun _ _ h => h.a hx))
    clear hr SM hc hsm hc' hcs hV hq1 hX hq2 hmV hmX hr4 hst
    go_wp2_with fail
    refine (HU.out w hs0).mono ?_
    rintro e w2 ⟨av2, cv2, rfl, hsv2, hb2⟩
    have hs2 := hs0.trans (hb2.mono hs0.size)
    by_cases hq1 : q1 = 0
    · have HX1 := Lib.hid (HUOK.out hq1)
      subst hq1
      go_wp2_with fail
      refine (HX1.out.1 av2 cv2 w2 hs2 (hsv2.out.sl (fun b hb => hb.2))).mono ?_
      rintro e w3 ⟨ay3, cy3, rfl, hsy3, hb3⟩
      have hs3 := hs2.trans (hb3.mono hs2.size)
      go_wp2_with fail
      refine (EQF.out ay3 cy3 w3 hs3 (hsy3.out.sl (fun b hb => hb.2))).mono ?_
      rintro e w4 ⟨rfl, hb4⟩
      have hs4 := hs3.trans (hb4.mono hs3.size)
      have hbv4 := hb3.trans (hb4.mono hb3.size)
      go_wp2_with fail
      refine (HX1.out.2 av2 cv2 w4 hs4 ((hsv2.out.sl (fun b hb => hb.2)).later hbv4)).mono ?_
      rintro e w5 ⟨rfl, hb5⟩
      have hs5 := hs4.trans (hb5.mono hs4.size)
      go_wp2_with fail
      refine (HD.out w5 hs5).mono ?_
      rintro e w6 ⟨ax6, cx6, rfl, hsx6, hb6⟩
      have hs6 := hs5.trans (hb6.mono hs5.size)
      by_cases hq2 : q2 = 0
      · have HX := Lib.hid (HDOK.out hq2)
        subst hq2
        go_wp2_with fail
        refine (HX.out ax6 cx6 w6 hs6 (hsx6.out.sl (fun b hb => hb.2))).mono ?_
        rintro e w7 ⟨au7, cu7, rfl, hsu7, hb7⟩
        have hs7 := hs6.trans (hb7.mono hs6.size)
        go_wp2_with fail
        refine (EQF.out au7 cu7 w7 hs7 (hsu7.out.sl (fun b hb => hb.2))).mono ?_
        rintro e w8 ⟨rfl, hb8⟩
        have hs8 := hs7.trans (hb8.mono hs7.size)
        go_wp2_with fail
        refine (HVAL.out w8 hs8).mono ?_
        rintro e w9 ⟨rfl, hb9⟩
        have hs9 := hs8.trans (hb9.mono hs8.size)
        by_cases hr : r4 = 0
        · subst hr
          cases st
          · have HP := Lib.hid (HPLAIN.out rfl rfl)
            go_wp2_with fail
            refine (HST.out w9 hs9).mono ?_
            rintro e w10 ⟨rfl, rfl⟩
            go_wp2_with fail
            refine (HUPP.out HP.out.1 w9 hs9).mono ?_
            rintro e w11 ⟨au11, cu11, rfl, hsu11, hb11⟩
            have hs11 := hs9.trans (hb11.mono hs9.size)
            go_wp2_with fail
            refine (HDNP.out HP.out.2 w11 hs11).mono ?_
            rintro e w12 ⟨au12, cu12, rfl, hsu12, hb12⟩
            have hs12 := hs11.trans (hb12.mono hs11.size)
            have su11 := (hsu11.out.sl (fun b hb => hb.2)).later hb12
            go_wp2_with fail
            refine (EQF.out au11 cu11 w12 hs12 su11).mono ?_
            rintro e w13 ⟨rfl, hb13⟩
            have hs13 := hs12.trans (hb13.mono hs12.size)
            have su12 := (hsu12.out.sl (fun b hb => hb.2)).later hb13
            go_wp2_with fail
            refine (EQF.out au12 cu12 w13 hs13 su12).mono ?_
            rintro e w14 ⟨rfl, hb14⟩
            have hs14 := hs13.trans (hb14.mono hs13.size)
            go_wp2_with fail
            refine (awake_any _).mono ?_
            rintro e w15 ⟨rfl, hb15⟩
            go_wp2
            go_ret
            exact ⟨rfl, hs14.trans (hb15.mono hs14.size)⟩
          · skip
            go_wp2_with fail
            refine (HST.out w9 hs9).mono ?_
            rintro e w16 ⟨rfl, rfl⟩
            go_wp2_with fail
            refine (awake_any _).mono ?_
            rintro e w17 ⟨rfl, hb17⟩
            go_wp2
            go_ret
            exact ⟨rfl, hs9.trans (hb17.mono hs9.size)⟩
        · have e4 : (r4 == 0) = false := by simpa using hr
          clear hr
          go_wp2_with fail
          refine (awake_any _).mono ?_
          rintro e w18 ⟨rfl, hb18⟩
          go_wp2
          go_ret
          exact ⟨rfl, hs9.trans (hb18.mono hs9.size)⟩
      · have e2 : (q2 == 0) = false := by simpa using hq2
        clear hq2
        go_wp2_with fail
        refine (HVAL.out w6 hs6).mono ?_
        rintro e w19 ⟨rfl, hb19⟩
        have hs19 := hs6.trans (hb19.mono hs6.size)
        by_cases hr : r4 = 0
        · subst hr
          cases st
          · have HP := Lib.hid (HPLAIN.out rfl rfl)
            go_wp2_with fail
            refine (HST.out w19 hs19).mono ?_
            rintro e w20 ⟨rfl, rfl⟩
            go_wp2_with fail
            refine (HUPP.out HP.out.1 w19 hs19).mono ?_
            rintro e w21 ⟨au21, cu21, rfl, hsu21, hb21⟩
            have hs21 := hs19.trans (hb21.mono hs19.size)
            go_wp2_with fail
            refine (HDNP.out HP.out.2 w21 hs21).mono ?_
            rintro e w22 ⟨au22, cu22, rfl, hsu22, hb22⟩
            have hs22 := hs21.trans (hb22.mono hs21.size)
            have su21 := (hsu21.out.sl (fun b hb => hb.2)).later hb22
            go_wp2_with fail
            refine (EQF.out au21 cu21 w22 hs22 su21).mono ?_
            rintro e w23 ⟨rfl, hb23⟩
            have hs23 := hs22.trans (hb23.mono hs22.size)
            have su22 := (hsu22.out.sl (fun b hb => hb.2)).later hb23
            go_wp2_with fail
            refine (EQF.out au22 cu22 w23 hs23 su22).mono ?_
            rintro e w24 ⟨rfl, hb24⟩
            have hs24 := hs23.trans (hb24.mono hs23.size)
            go_wp2_with fail
            refine (awake_any _).mono ?_
            rintro e w25 ⟨rfl, hb25⟩
            go_wp2
            go_ret
            exact ⟨rfl, hs24.trans (hb25.mono hs24.size)⟩
          · skip
            go_wp2_with fail
            refine (HST.out w19 hs19).mono ?_
            rintro e w26 ⟨rfl, rfl⟩
            go_wp2_with fail
            refine (awake_any _).mono ?_
            rintro e w27 ⟨rfl, hb27⟩
            go_wp2
            go_ret
            exact ⟨rfl, hs19.trans (hb27.mono hs19.size)⟩
        · have e4 : (r4 == 0) = false := by simpa using hr
          clear hr
          go_wp2_with fail
          refine (awake_any _).mono ?_
          rintro e w28 ⟨rfl, hb28⟩
          go_wp2
          go_ret
          exact ⟨rfl, hs19.trans (hb28.mono hs19.size)⟩
    · have e1 : (q1 == 0) = false := by simpa using hq1
      clear hq1
      go_wp2_with fail
      refine (HD.out w2 hs2).mono ?_
      rintro e w29 ⟨ax29, cx29, rfl, hsx29, hb29⟩
      have hs29 := hs2.trans (hb29.mono hs2.size)
      by_cases hq2 : q2 = 0
      · have HX := Lib.hid (HDOK.out hq2)
        subst hq2
        go_wp2_with fail
        refine (HX.out ax29 cx29 w29 hs29 (hsx29.out.sl (fun b hb => hb.2))).mono ?_
        rintro e w30 ⟨au30, cu30, rfl, hsu30, hb30⟩
        have hs30 := hs29.trans (hb30.mono hs29.size)
        go_wp2_with fail
        refine (EQF.out au30 cu30 w30 hs30 (hsu30.out.sl (fun b hb => hb.2))).mono ?_
        rintro e w31 ⟨rfl, hb31⟩
        have hs31 := hs30.trans (hb31.mono hs30.size)
        go_wp2_with fail
        refine (HVAL.out w31 hs31).mono ?_
        rintro e w32 ⟨rfl, hb32⟩
        have hs32 := hs31.trans (hb32.mono hs31.size)
        by_cases hr : r4 = 0
        · subst hr
          cases st
          · have HP := Lib.hid (HPLAIN.out rfl rfl)
            go_wp2_with fail
            refine (HST.out w32 hs32).mono ?_
            rintro e w33 ⟨rfl, rfl⟩
            go_wp2_with fail
            refine (HUPP.out HP.out.1 w32 hs32).mono ?_
            rintro e w34 ⟨au34, cu34, rfl, hsu34, hb34⟩
            have hs34 := hs32.trans (hb34.mono hs32.size)
            go_wp2_with fail
            refine (HDNP.out HP.out.2 w34 hs34).mono ?_
            rintro e w35 ⟨au35, cu35, rfl, hsu35, hb35⟩
            have hs35 := hs34.trans (hb35.mono hs34.size)
            have su34 := (hsu34.out.sl (fun b hb => hb.2)).later hb35
            go_wp2_with fail
            refine (EQF.out au34 cu34 w35 hs35 su34).mono ?_
            rintro e w36 ⟨rfl, hb36⟩
            have hs36 := hs35.trans (hb36.mono hs35.size)
            have su35 := (hsu35.out.sl (fun b hb => hb.2)).later hb36
            go_wp2_with fail
            refine (EQF.out au35 cu35 w36 hs36 su35).mono ?_
            rintro e w37 ⟨rfl, hb37⟩
            have hs37 := hs36.trans (hb37.mono hs36.size)
            go_wp2_with fail
            refine (awake_any _).mono ?_
            rintro e w38 ⟨rfl, hb38⟩
            go_wp2
            go_ret
            exact ⟨rfl, hs37.trans (hb38.mono hs37.size)⟩
          · skip
            go_wp2_with fail
            refine (HST.out w32 hs32).mono ?_
            rintro e w39 ⟨rfl, rfl⟩
            go_wp2_with fail
            refine (awake_any _).mono ?_
            rintro e w40 ⟨rfl, hb40⟩
            go_wp2
            go_ret
            exact ⟨rfl, hs32.trans (hb40.mono hs32.size)⟩
        · have e4 : (r4 == 0) = false := by simpa using hr
          clear hr
          go_wp2_with fail
          refine (awake_any _).mono ?_
          rintro e w41 ⟨rfl, hb41⟩
          go_wp2
          go_ret
          exact ⟨rfl, hs32.trans (hb41.mono hs32.size)⟩
      · have e2 : (q2 == 0) = false := by simpa using hq2
        clear hq2
        go_wp2_with fail
        refine (HVAL.out w29 hs29).mono ?_
        rintro e w42 ⟨rfl, hb42⟩
        have hs42 := hs29.trans (hb42.mono hs29.size)
        by_cases hr : r4 = 0
        · subst hr
          cases st
          · have HP := Lib.hid (HPLAIN.out rfl rfl)
            go_wp2_with fail
            refine (HST.out w42 hs42).mono ?_
            rintro e w43 ⟨rfl, rfl⟩
            go_wp2_with fail
            refine (HUPP.out HP.out.1 w42 hs42).mono ?_
            rintro e w44 ⟨au44, cu44, rfl, hsu44, hb44⟩
            have hs44 := hs42.trans (hb44.mono hs42.size)
            go_wp2_with fail
            refine (HDNP.out HP.out.2 w44 hs44).mono ?_
            rintro e w45 ⟨au45, cu45, rfl, hsu45, hb45⟩
            have hs45 := hs44.trans (hb45.mono hs44.size)
            have su44 := (hsu44.out.sl (fun b hb => hb.2)).later hb45
            go_wp2_with fail
            refine (EQF.out au44 cu44 w45 hs45 su44).mono ?_
            rintro e w46 ⟨rfl, hb46⟩
            have hs46 := hs45.trans (hb46.mono hs45.size)
            have su45 := (hsu45.out.sl (fun b hb => hb.2)).later hb46
            go_wp2_with fail
            refine (EQF.out au45 cu45 w46 hs46 su45).mono ?_
            rintro e w47 ⟨rfl, hb47⟩
            have hs47 := hs46.trans (hb47.mono hs46.size)
            go_wp2_with fail
            refine (awake_any _).mono ?_
            rintro e w48 ⟨rfl, hb48⟩
            go_wp2
            go_ret
            exact ⟨rfl, hs47.trans (hb48.mono hs47.size)⟩
          · skip
            go_wp2_with fail
            refine (HST.out w42 hs42).mono ?_
            rintro e w49 ⟨rfl, rfl⟩
            go_wp2_with fail
            refine (awake_any _).mono ?_
            rintro e w50 ⟨rfl, hb50⟩
            go_wp2
            go_ret
            exact ⟨rfl, hs42.trans (hb50.mono hs42.size)⟩
        · have e4 : (r4 == 0) = false := by simpa using hr
          clear hr
          go_wp2_with fail
          refine (awake_any _).mono ?_
          rintro e w51 ⟨rfl, hb51⟩
          go_wp2
          go_ret
          exact ⟨rfl, hs42.trans (hb51.mono hs42.size)⟩
end Go.Proofs.Ytfajodndpoepcaa
