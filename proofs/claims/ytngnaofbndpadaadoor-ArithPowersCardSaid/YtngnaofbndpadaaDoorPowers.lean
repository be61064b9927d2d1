/- The law of powers returns true for every text and exponent. -/
import Derived.Test.YtngnaofbndpadaaDoorLa
import Derived.Test.YtngnaofbndpadaaDoorRd2
import Derived.Test.YtngnaofbndpadaaDoorPt
import Derived.Test.YtngnaofbndpadaaDoorLd
import Derived.Test.YtngnaofbndpadaaDoorCards
import Derived.Test.YtngnaofbndpadaaDoorTie
import Derived.OpenShut
import Derived.ChangeMaps5
import Derived.SevenTiedAt
/- The law of powers. -/
namespace Go.Proofs.YtngnaofbndpadaaDoor
open Go.RowKit Go.Proofs.ArM

theorem strs1 (w : World) (s : ByteArray) : Strs (w.alloc (.cells #[.string s] 9)) w.heap.size 0 [s] := by
  refine ⟨by simp, fun j hj => ?_⟩
  rcases j with _ | j
  · rw [World.cell?_alloc_at _ _ _ _ (by simp)]; rfl
  · simp at hj

set_option maxHeartbeats 6400000 in
set_option maxRecDepth 100000 in
theorem powers_any (s : ByteArray) (n : Int) (w : World) (hn : -9223372036854775808 ≤ n) (hn' : n ≤ 9223372036854775807) (hT : Tabs w) : Calls Tryd.prog 4 #[.string s, .int .i64 n] w (OutV w (.bool true)) := by
  have hS := strs1 w s
  have hbA : Below w.heap.size w (w.alloc (.cells #[.string s] 9)) := (Below.refl _ _).alloc (Nat.le_refl _) _
  have SH := Lib.hid (short_any [s] w.heap.size 0 1 (w.alloc (.cells #[.string s] 9)) (by simp) hS (by simp))
  have HBA := Lib.hid hbA
  have HT := Lib.hid hT
  clear hT
  clear hS hbA
  have HN := Lib.hid hn
  have HN' := Lib.hid hn'
  clear hn hn'
  go_enter Tryd.func4, Tryd.ntmps4
  go_wp2_with fail
  refine SH.out.mono ?_
  rintro e w1 ⟨rfl, hb1⟩
  have hz1 := HBA.out.trans (hb1.mono HBA.out.size)
  cases hany : [s].any (fun s => decide (600 < s.size))
  · have hs : s.size ≤ 600 := by simpa using hany
    clear hany
    obtain ⟨rp, hrp⟩ : ∃ rp, rp = powR s.data.toList n := ⟨_, rfl⟩
    obtain ⟨rr, hrr⟩ : ∃ rr, rr = rootR s.data.toList n := ⟨_, rfl⟩
    have A1 := Lib.hid (show ∀ w, Tabs w → Calls Tryd.prog 16 #[.string s, .int .i64 n] w (OutT w rp) from fun w hT => hrp ▸ aPower_any s n w (by omega) HN.out HN'.out hT)
    have B1 := Lib.hid (show ∀ w, Calls Tryd.prog 17 #[.string s, .int .i64 n] w (OutT w rp) from fun w => hrp ▸ pow_any s n w (by omega) HN.out HN'.out)
    have A2 := Lib.hid (show ∀ w, Tabs w → Calls Tryd.prog 18 #[.string s, .int .i64 n] w (OutT w rr) from fun w hT => hrr ▸ aRoot_any s n w (by omega) HN.out HN'.out hT)
    have B2 := Lib.hid (show ∀ w, Calls Tryd.prog 19 #[.string s, .int .i64 n] w (OutT w rr) from fun w => hrr ▸ root_any s n w (by omega))
    clear hrp hrr
    obtain ⟨rp1, rp2⟩ := rp
    obtain ⟨rr1, rr2⟩ := rr
    go_wp2_with fail
    refine (A1.out w1 (HT.out.later hz1)).mono ?_
    rintro e w2 ⟨rfl, hb2⟩
    have hz2 := hz1.trans (hb2.mono hz1.size)
    go_wp2_with fail
    refine (B1.out w2).mono ?_
    rintro e w3 ⟨rfl, hb3⟩
    have hz3 := hz2.trans (hb3.mono hz2.size)
    go_wp2_with fail
    refine (A2.out w3 (HT.out.later hz3)).mono ?_
    rintro e w4 ⟨rfl, hb4⟩
    have hz4 := hz3.trans (hb4.mono hz3.size)
    go_wp2_with fail
    refine (B2.out w4).mono ?_
    rintro e w5 ⟨rfl, hb5⟩
    have hz5 := hz4.trans (hb5.mono hz4.size)
    go_wp2_with fail
    refine (awake_any w5 (HT.out.later hz5)).mono ?_
    rintro e w6 ⟨rfl, hb6⟩
    go_wp2
    go_ret
    exact ⟨rfl, hz5.trans (hb6.mono hz5.size)⟩
  · clear hany
    go_wp2_with fail
    refine (awake_any w1 (HT.out.later hz1)).mono ?_
    rintro e w2 ⟨rfl, hb2⟩
    go_wp2
    go_ret
    exact ⟨rfl, hz1.trans (hb2.mono hz1.size)⟩
end Go.Proofs.YtngnaofbndpadaaDoor

/- The law ArithPowers returns true for every input: the row and its card. -/
namespace Go.Proofs.YtngnaofbndpadaaDoor
open Go.ChangeShapes Go.WideShapes Go.ChangeAt Go.RowKit Go.Proofs.ArM
open Go.ChangeMaps (open_string shut_string)

set_option maxRecDepth 100000 in
theorem powers_contract (H : Type) (enc : TypeId × Value → H) (W : World) (base : Nat) (args : Array Value) (ds gs : List (DataW H)) (before : List MemPlace)
    (hval : ∀ (j : Nat) t v, Tryd.f4.params[j]? = some t → args[j]? = some v → Value.okWide Tryd.prog W .any base t v)
    (hW : DataW.Whole enc Tryd.prog Tryd.f4.params.toList Rows.arithPowersSpec.vars false W args.toList ds gs before) (hT : Tabs W) :
    Calls Tryd.prog 4 args W fun e W' => ∃ v, e = .returned v ∧ Rows.arithPowersSpec.post enc Tryd.prog Tryd.f4 false true false false W args v W' := by
  have hW' := hW
  obtain ⟨p, q, hA0, hV, rfl, hfz, hnd⟩ := hW
  have hA : DataW.TrodAll enc Tryd.prog W 0 (fun _ => true) true Tryd.f4.params.toList args.toList ds p := hA0
  rw [Tryd.params4] at hA hval
  obtain ⟨v0, vs0, d0, ds0, p0, q0, hargs, rfl, rfl, h0, r0⟩ := trodAll_cons hA
  obtain ⟨v1, vs1, d1, ds1, p1, q1, hargs1, rfl, rfl, h1, r1⟩ := trodAll_cons r0
  obtain ⟨rfl, rfl, rfl⟩ := trodAll_nil r1
  obtain rfl : args = #[v0, v1] := by cases args; simp_all
  obtain ⟨rfl, rfl⟩ := trodVars_none hV
  obtain ⟨s0, rfl, rfl, rfl, hs0⟩ := open_string Tryd.underlying9 (hval 0 9 v0 rfl rfl) h0
  obtain ⟨n1, rfl, rfl, rfl, hs1⟩ := open_int Tryd.underlying3 (hval 1 3 v1 rfl rfl) h1
  have hx1 : -9223372036854775808 ≤ n1 ∧ n1 ≤ 9223372036854775807 := by simpa [Lit.wf, IntKind.min, IntKind.max, IntKind.signed, IntKind.bits] using hs1
  clear hA0
  simp only [List.append_nil] at hW'
  refine (powers_any s0 n1 W hx1.1 hx1.2 hT).mono fun e W' ⟨he, hb⟩ => ?_
  subst he
  exact ⟨_, rfl, _, _, _, [], [], [], hW', (trodAll_cons_mk (shut_bool Tryd.underlying4 _) trodAll_mk0), (trodAll_cons_mk (shut_string Tryd.underlying9 hs0) (trodAll_cons_mk (shut_int Tryd.underlying3 hs1) trodAll_mk0)), rfl, hb.frame _, fun h => by cases h⟩

set_option maxRecDepth 100000 in
theorem powers_lifted (os : Os) (started : os.Started) (H : Type) (enc : TypeId × Value → H) :
    ReturnsInHanded {} Tryd.checked os 4 .any (fun w args => (Rows.arithPowersSpec.pre enc Tryd.prog Tryd.f4 [] false w args ∧ laidMetH Tryd.prog laidL w) ∧ sizedMet enc Tryd.prog Tryd.f4 (OpenSpec.ofChange Rows.arithPowersSpec) false w args)
      (Rows.arithPowersSpec.post enc Tryd.prog Tryd.f4 false true false false) := by
  refine returnsInHanded_of_change_and (C := Tryd.checked) (X := fun w _ => laidMetH Tryd.prog laidL w) (fun _ _ _ hh h => h.of_heap hh) ownL started (by kernel_rfl) Tryd.func4
    (ChangeSpec.witness_shaped (enc := enc) (C := Tryd.checked) (os := os) (X := fun w _ => laidMetH Tryd.prog laidL w) false (World.doorLaid Tryd.prog 62 os) #[.string ⟨#[]⟩, .int .i64 0] 8 rfl (door_shaped os _) (by kernel_rfl) (by kernel_rfl) (by kernel_rfl) (door_met os _)) ?_
  intro W base args ds gs before hval hW _ _ hL _
  exact powers_contract H enc W base args ds gs before hval hW (tabs_of_laid hL)

theorem powers_said : Rows.ArithPowersSaid :=
  OpenClaim.holds_of_wide 4 Tryd.f4 rfl rfl rfl rfl rfl rfl rfl ⟨rfl, rfl, rfl, rfl, rfl⟩ rfl rfl rfl rfl rfl (by kernel_rfl) Tryd.func4 (by kernel_rfl)
    (of_decide_eq_true (by kernel_rfl)) (by unfold Func.isWrapper; first | (rw [if_pos (by decide +kernel)]; kernel_rfl) | (rw [if_neg (by decide +kernel)]; exact ⟨rfl, rfl⟩))
    (fun os started H enc _ => powers_lifted os started H enc)

theorem arithPowers_proved : Rows.ArithPowersCardSaid :=
  Claim7.holds_tied_plain_at .later [] [.data, .data, .data, .sentinel, .sentinel] true Rows.arithPowersCard.stood.harness true
    powers_said (fun _ h => by cases h) (by kernel_rfl) (fun _ h => by cases h) arithPowers_row_tie rfl ⟨rfl, rfl⟩ (by kernel_rfl) rfl
    (fun f fn hf hfn => by
      obtain rfl : f = 4 := Option.some.inj ((show Tryd.prog.funcNamed "chiasmus/chiasmuslaw08.ArithPowers" = some 4 by kernel_rfl).symm.trans hf) |>.symm
      obtain rfl : fn = Tryd.f4 := (Option.some.inj (Tryd.func4.symm.trans hfn)).symm
      exact ⟨by kernel_rfl, fun j t ht => by
        rw [Tryd.params4] at ht
        have hm : t ∈ [9, 3] := by simpa using Array.mem_of_getElem? ht
        have hall : ([9, 3].all fun u => !Tryd.prog.wantsStandIn u) = true := by kernel_rfl
        exact (show Tryd.prog.wantsStandIn t = false by simpa using List.all_eq_true.1 hall t hm)⟩)
    (by kernel_rfl)
end Go.Proofs.YtngnaofbndpadaaDoor
