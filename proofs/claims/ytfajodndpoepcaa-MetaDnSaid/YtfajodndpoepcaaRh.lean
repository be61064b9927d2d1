/- The reference's Dn; the law on Dn: the walk. -/
import Derived.Test.YtfajodndpoepcaaRg
import Derived.Test.YtfajodndpoepcaaDr
import Derived.Test.YtfajodndpoepcaaVg
namespace Go.Proofs.Ytfajodndpoepcaa
open Go.RowKit TmM

set_option maxHeartbeats 6400000 in
theorem rDn_any (f : Fo) (a : Option Addr) (cap : Nat) (w : World) (hc : f.count ≤ 1000000) (hsm : Small f) (hs : Sl w.heap.size w a cap f) :
    Calls Try.prog 15 #[.slice a f.len cap] w (OutDnX w f) := by
  have hnot : ∀ (x : Bool) (w : World), (Op.unary .not (.bool x)).run Try.prog w = .ok (.bool (!x)) w := fun _ _ => rfl
  have S := Lib.hid (value_any f a cap w (by omega) hsm hs)
  have HS := Lib.hid hs
  have HSM := Lib.hid hsm
  have HC := Lib.hid hc
  obtain ⟨q, hq⟩ : ∃ q, q = wrongC 4 f := ⟨_, rfl⟩
  rw [← hq] at S
  have HQ := Lib.hid hq
  clear hs hsm hq hc
  by_cases h0 : q = 0
  · subst h0
    have hW0 := Lib.hid HQ.out.symm
    go_enter Try.func15, Try.ntmps15
    go_wp2_with fail
    refine S.out.mono ?_
    rintro e w2 ⟨rfl, hb2⟩
    go_wp2_with fail
    refine (rdn_n 1000000 (Nat.le_refl _) f a cap w2 HC.out (HS.out.later hb2)).mono ?_
    rintro e w3 ⟨a3, cap3, rfl, hs3, hb3⟩
    have hb23 := hb2.trans (hb3.mono hb2.size)
    cases hd : dn f with
    | none =>
      have HX := Lib.hid (dnX_none hW0.out hd)
      rw [dnR_none hd]
      clear hd
      go_wp2
      go_ret2
      exact outDnX_err HX.out hb23
    | some l =>
      have HD := Lib.hid hd
      have hp := dn_parts hd
      rw [dnR_some hd] at hs3 ⊢
      have hcl : l.count ≤ 1000000000 := by have := HC.out; omega
      have R := Lib.hid (result_any l a3 cap3 w3 hcl (hp.2 HSM.out) (hs3.out.sl (fun b hb => hb.2)))
      obtain ⟨r, hr⟩ : ∃ r, r = wrongC 8 l := ⟨_, rfl⟩
      obtain ⟨ml, hml⟩ : ∃ m, m = l.len := ⟨_, rfl⟩
      rw [← hr, ← hml] at R
      simp only
      rw [← hml]
      have HR := Lib.hid hr
      have HML := Lib.hid hml
      clear hd hp hr hml
      by_cases h1 : r = 0
      · subst h1
        have HX := Lib.hid (dnX_some hW0.out HD.out HR.out.symm)
        go_wp2_with fail
        refine R.out.mono ?_
        rintro e w5 ⟨rfl, hb5⟩
        go_wp2
        go_ret2
        exact outDnX_ok HX.out HML.out (hs3.out.mono (fun b hb => ⟨by have := hb.1; have := hb2.size; omega, Nat.lt_of_lt_of_le hb.2 hb5.size⟩) (fun b hb => hb5.block b hb.2)) (hb23.trans (hb5.mono hb23.size))
      · have e1 : (r == 0) = false := by simpa using h1
        have HX := Lib.hid (dnX_bad hW0.out HD.out (by rw [← HR.out]; exact h1))
        clear h1
        go_wp2_with fail
        refine R.out.mono ?_
        rintro e w5 ⟨rfl, hb5⟩
        go_wp2
        go_ret2
        exact outDnX_err HX.out (hb23.trans (hb5.mono hb23.size))
  · have e1 : (q == 0) = false := by simpa using h0
    have HE := Lib.hid (show dnX f = (.nil, q) from by rw [HQ.out]; exact dnX_err (by rw [← HQ.out]; exact h0))
    clear h0
    go_enter Try.func15, Try.ntmps15
    go_wp2_with fail
    refine S.out.mono ?_
    rintro e w2 ⟨rfl, hb2⟩
    go_wp2
    go_ret2
    exact outDnX_err HE.out hb2

set_option maxHeartbeats 3200000 in
theorem lawDn_any (f : Fo) (a : Option Addr) (cap : Nat) (w : World) (hs : Sl w.heap.size w a cap f) :
    Calls Try.prog 4 #[.slice a f.len cap] w (OutV w (.bool true)) := by
  have SM := Lib.hid (small_any f a cap 5000 w (by decide) (by decide) hs)
  have HS := Lib.hid hs
  clear hs
  go_enter Try.func4, Try.ntmps4
  go_wp2_with fail
  refine SM.out.mono ?_
  rintro e w1 ⟨r, rfl, hr, rfl⟩
  cases r
  · clear hr SM
    go_wp2_with fail
    refine (awake_any _).mono ?_
    rintro e w2 ⟨rfl, hb2⟩
    go_wp2
    go_ret
    exact ⟨rfl, hb2⟩
  · have hc := (hr.out rfl).1
    have hsm := (hr.out rfl).2
    have hc' : f.count ≤ 1000000 := by simp at hc; omega
    have P := Lib.hid (pDn_any f a cap w hc' hsm HS.out)
    have R := Lib.hid (fun w' (h : Below w.heap.size w w') => rDn_any f a cap w' hc' hsm (HS.out.later h))
    obtain ⟨V, hV⟩ : ∃ V, V = (dnX f).1 := ⟨_, rfl⟩
    obtain ⟨q, hq⟩ : ∃ q, q = (dnX f).2 := ⟨_, rfl⟩
    unfold OutDnX at P R
    rw [← hV, ← hq] at P R
    obtain ⟨m, hm⟩ : ∃ m, m = V.len := ⟨_, rfl⟩
    have HM := Lib.hid hm
    rw [← hm] at P R
    clear hr SM hc hsm hc' hV hq hm
    go_wp2_with fail
    refine P.out.mono ?_
    rintro e w2 ⟨a2, cap2, rfl, hs2, hb2⟩
    go_wp2_with fail
    refine (R.out w2 hb2).mono ?_
    rintro e w3 ⟨a3, cap3, rfl, hs3, hb3⟩
    have hb23 := hb2.trans (hb3.mono hb2.size)
    have E := Lib.hid (equal_any V V a2 a3 cap2 cap3 w3 ((hs2.out.sl (fun b hb => hb.2)).later hb3) (hs3.out.sl (fun b hb => hb.2)))
    rw [eqF_self, ← HM.out] at E
    clear hb2 hb3 P R
    go_wp2_with fail
    refine E.out.mono ?_
    rintro e w4 ⟨rfl, hb4⟩
    have hb24 := hb23.trans (hb4.mono hb23.size)
    go_wp2_with fail
    refine (awake_any _).mono ?_
    rintro e w5 ⟨rfl, hb5⟩
    go_wp2
    go_ret
    exact ⟨rfl, hb24.trans (hb5.mono hb24.size)⟩
end Go.Proofs.Ytfajodndpoepcaa
