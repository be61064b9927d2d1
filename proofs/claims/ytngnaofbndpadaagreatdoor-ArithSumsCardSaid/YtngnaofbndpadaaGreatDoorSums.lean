/- The law of sums returns true for every two texts. -/
import Derived.Test.YtngnaofbndpadaaGreatDoorLa
import Derived.Test.YtngnaofbndpadaaGreatDoorZc
import Derived.Test.YtngnaofbndpadaaGreatDoorLd
import Derived.Test.YtngnaofbndpadaaGreatDoorCards
import Derived.Test.YtngnaofbndpadaaGreatDoorTie
import Derived.OpenShut
import Derived.ChangeMaps5
import Derived.SevenTiedAt
/- The law of sums. -/
namespace Go.Proofs.YtngnaofbndpadaaGreatDoor
open Go.RowKit Go.Proofs.ArM

set_option maxHeartbeats 6400000 in
set_option maxRecDepth 100000 in
theorem sums_any (s t : ByteArray) (w : World) (hT : Tabs w) : Calls Tryz.prog 3 #[.string s, .string t] w (OutV w (.bool true)) := by
  have hS := strs2 w s t
  have hbA : Below w.heap.size w (w.alloc (.cells #[.string s, .string t] 9)) := (Below.refl _ _).alloc (Nat.le_refl _) _
  have SH := Lib.hid (short_any [s, t] w.heap.size 0 2 (w.alloc (.cells #[.string s, .string t] 9)) (by simp) hS (by simp))
  have HBA := Lib.hid hbA
  have HT := Lib.hid hT
  clear hT
  clear hS hbA
  go_enter Tryz.func3, Tryz.ntmps3
  go_wp2_with fail
  refine SH.out.mono ?_
  rintro e w1 ⟨rfl, hb1⟩
  have hz1 := HBA.out.trans (hb1.mono HBA.out.size)
  cases hany : [s, t].any (fun s => decide (600 < s.size))
  · have hs : s.size ≤ 600 := by simp at hany; exact hany.1
    have ht : t.size ≤ 600 := by simp at hany; exact hany.2
    clear hany
    obtain ⟨rc, hrc⟩ : ∃ rc, rc = cmpR s.data.toList t.data.toList := ⟨_, rfl⟩
    obtain ⟨rv, hrv⟩ : ∃ rv, rv = validB s.data.toList := ⟨_, rfl⟩
    obtain ⟨ra, hra⟩ : ∃ ra, ra = addR s.data.toList t.data.toList := ⟨_, rfl⟩
    obtain ⟨rs, hrs⟩ : ∃ rs, rs = subR s.data.toList t.data.toList := ⟨_, rfl⟩
    obtain ⟨rn, hrn⟩ : ∃ rn, rn = negR s.data.toList := ⟨_, rfl⟩
    have A1 := Lib.hid (show ∀ w, Calls Tryz.prog 7 #[.string s, .string t] w (OutN w rc) from fun w => hrc ▸ aCompare_any s t w (by omega) (by omega))
    have B1 := Lib.hid (show ∀ w, Calls Tryz.prog 8 #[.string s, .string t] w (OutN w rc) from fun w => hrc ▸ compare_any s t w (by omega) (by omega))
    have A2 := Lib.hid (show ∀ w, Calls Tryz.prog 9 #[.string s] w (OutV w (.bool rv)) from fun w => hrv ▸ aValid_any s w (by omega))
    have B2 := Lib.hid (show ∀ w, Calls Tryz.prog 10 #[.string s] w (OutV w (.bool rv)) from fun w => hrv ▸ valid_any s w (by omega))
    have A3 := Lib.hid (show ∀ w, Tabs w → Calls Tryz.prog 11 #[.string s, .string t] w (OutT w ra) from fun w hT => hra ▸ aAdd_any s t w (by omega) (by omega) hT)
    have B3 := Lib.hid (show ∀ w, Calls Tryz.prog 12 #[.string s, .string t] w (OutT w ra) from fun w => hra ▸ add_any s t w (by omega) (by omega))
    have A4 := Lib.hid (show ∀ w, Tabs w → Calls Tryz.prog 13 #[.string s, .string t] w (OutT w rs) from fun w hT => hrs ▸ aSub_any s t w (by omega) (by omega) hT)
    have B4 := Lib.hid (show ∀ w, Calls Tryz.prog 14 #[.string s, .string t] w (OutT w rs) from fun w => hrs ▸ sub_any s t w (by omega) (by omega))
    have A5 := Lib.hid (show ∀ w, Tabs w → Calls Tryz.prog 15 #[.string s] w (OutT w rn) from fun w hT => hrn ▸ aNeg_any s w (by omega) hT)
    have B5 := Lib.hid (show ∀ w, Calls Tryz.prog 16 #[.string s] w (OutT w rn) from fun w => hrn ▸ neg_any s w (by omega))
    clear hrc hrv hra hrs hrn
    obtain ⟨rc1, rc2⟩ := rc
    obtain ⟨ra1, ra2⟩ := ra
    obtain ⟨rs1, rs2⟩ := rs
    obtain ⟨rn1, rn2⟩ := rn
    go_wp2_with fail
    refine (A1.out w1).mono ?_
    rintro e w2 ⟨rfl, hb2⟩
    have hz2 := hz1.trans (hb2.mono hz1.size)
    go_wp2_with fail
    refine (B1.out w2).mono ?_
    rintro e w3 ⟨rfl, hb3⟩
    have hz3 := hz2.trans (hb3.mono hz2.size)
    go_wp2_with fail
    refine (A2.out w3).mono ?_
    rintro e w4 ⟨rfl, hb4⟩
    have hz4 := hz3.trans (hb4.mono hz3.size)
    go_wp2_with fail
    refine (B2.out w4).mono ?_
    rintro e w5 ⟨rfl, hb5⟩
    have hz5 := hz4.trans (hb5.mono hz4.size)
    go_wp2_with fail
    refine (A3.out w5 (HT.out.later hz5)).mono ?_
    rintro e w6 ⟨rfl, hb6⟩
    have hz6 := hz5.trans (hb6.mono hz5.size)
    go_wp2_with fail
    refine (B3.out w6).mono ?_
    rintro e w7 ⟨rfl, hb7⟩
    have hz7 := hz6.trans (hb7.mono hz6.size)
    go_wp2_with fail
    refine (A4.out w7 (HT.out.later hz7)).mono ?_
    rintro e w8 ⟨rfl, hb8⟩
    have hz8 := hz7.trans (hb8.mono hz7.size)
    go_wp2_with fail
    refine (B4.out w8).mono ?_
    rintro e w9 ⟨rfl, hb9⟩
    have hz9 := hz8.trans (hb9.mono hz8.size)
    go_wp2_with fail
    refine (A5.out w9 (HT.out.later hz9)).mono ?_
    rintro e w10 ⟨rfl, hb10⟩
    have hz10 := hz9.trans (hb10.mono hz9.size)
    go_wp2_with fail
    refine (B5.out w10).mono ?_
    rintro e w11 ⟨rfl, hb11⟩
    have hz11 := hz10.trans (hb11.mono hz10.size)
    go_wp2_with fail
    refine (awake_any w11 (HT.out.later hz11)).mono ?_
    rintro e w12 ⟨rfl, hb12⟩
    go_wp2
    go_ret
    exact ⟨rfl, hz11.trans (hb12.mono hz11.size)⟩
  · clear hany
    go_wp2_with fail
    refine (awake_any w1 (HT.out.later hz1)).mono ?_
    rintro e w2 ⟨rfl, hb2⟩
    go_wp2
    go_ret
    exact ⟨rfl, hz1.trans (hb2.mono hz1.size)⟩
end Go.Proofs.YtngnaofbndpadaaGreatDoor

/- The law ArithSums returns true for every input: the row and its card. -/
namespace Go.Proofs.YtngnaofbndpadaaGreatDoor
open Go.ChangeShapes Go.WideShapes Go.ChangeAt Go.RowKit Go.Proofs.ArM
open Go.ChangeMaps (open_string shut_string)

set_option maxRecDepth 100000 in
theorem sums_contract (H : Type) (enc : TypeId × Value → H) (W : World) (base : Nat) (args : Array Value) (ds gs : List (DataW H)) (before : List MemPlace)
    (hval : ∀ (j : Nat) t v, Tryz.f3.params[j]? = some t → args[j]? = some v → Value.okWide Tryz.prog W .any base t v)
    (hW : DataW.Whole enc Tryz.prog Tryz.f3.params.toList Rows.arithSumsSpec.vars false W args.toList ds gs before) (hT : Tabs W) :
    Calls Tryz.prog 3 args W fun e W' => ∃ v, e = .returned v ∧ Rows.arithSumsSpec.post enc Tryz.prog Tryz.f3 false true false false W args v W' := by
  have hW' := hW
  obtain ⟨p, q, hA0, hV, rfl, hfz, hnd⟩ := hW
  have hA : DataW.TrodAll enc Tryz.prog W 0 (fun _ => true) true Tryz.f3.params.toList args.toList ds p := hA0
  rw [Tryz.params3] at hA hval
  obtain ⟨v0, vs0, d0, ds0, p0, q0, hargs, rfl, rfl, h0, r0⟩ := trodAll_cons hA
  obtain ⟨v1, vs1, d1, ds1, p1, q1, hargs1, rfl, rfl, h1, r1⟩ := trodAll_cons r0
  obtain ⟨rfl, rfl, rfl⟩ := trodAll_nil r1
  obtain rfl : args = #[v0, v1] := by cases args; simp_all
  obtain ⟨rfl, rfl⟩ := trodVars_none hV
  obtain ⟨s0, rfl, rfl, rfl, hs0⟩ := open_string Tryz.underlying9 (hval 0 9 v0 rfl rfl) h0
  obtain ⟨s1, rfl, rfl, rfl, hs1⟩ := open_string Tryz.underlying9 (hval 1 9 v1 rfl rfl) h1
  clear hA0
  simp only [List.append_nil] at hW'
  refine (sums_any s0 s1 W hT).mono fun e W' ⟨he, hb⟩ => ?_
  subst he
  exact ⟨_, rfl, _, _, _, [], [], [], hW', (trodAll_cons_mk (shut_bool Tryz.underlying4 _) trodAll_mk0), (trodAll_cons_mk (shut_string Tryz.underlying9 hs0) (trodAll_cons_mk (shut_string Tryz.underlying9 hs1) trodAll_mk0)), rfl, hb.frame _, fun h => by cases h⟩

set_option maxRecDepth 100000 in
theorem sums_lifted (os : Os) (started : os.Started) (H : Type) (enc : TypeId × Value → H) :
    ReturnsInHanded {} Tryz.checked os 3 .any (fun w args => (Rows.arithSumsSpec.pre enc Tryz.prog Tryz.f3 [] false w args ∧ laidMetH Tryz.prog laidL w) ∧ sizedMet enc Tryz.prog Tryz.f3 (OpenSpec.ofChange Rows.arithSumsSpec) false w args)
      (Rows.arithSumsSpec.post enc Tryz.prog Tryz.f3 false true false false) := by
  refine returnsInHanded_of_change_and (C := Tryz.checked) (X := fun w _ => laidMetH Tryz.prog laidL w) (fun _ _ _ hh h => h.of_heap hh) ownL started (by kernel_rfl) Tryz.func3
    (ChangeSpec.witness_shaped (enc := enc) (C := Tryz.checked) (os := os) (X := fun w _ => laidMetH Tryz.prog laidL w) false (World.doorLaid Tryz.prog 62 os) #[.string ⟨#[]⟩, .string ⟨#[]⟩] 8 rfl (door_shaped os _) (by kernel_rfl) (by kernel_rfl) (by kernel_rfl) (door_met os _)) ?_
  intro W base args ds gs before hval hW _ _ hL _
  exact sums_contract H enc W base args ds gs before hval hW (tabs_of_laid hL)

theorem sums_said : Rows.ArithSumsSaid :=
  OpenClaim.holds_of_wide 3 Tryz.f3 rfl rfl rfl rfl rfl rfl rfl ⟨rfl, rfl, rfl, rfl, rfl⟩ rfl rfl rfl rfl rfl (by kernel_rfl) Tryz.func3 (by kernel_rfl)
    (of_decide_eq_true (by kernel_rfl)) (by unfold Func.isWrapper; first | (rw [if_pos (by decide +kernel)]; kernel_rfl) | (rw [if_neg (by decide +kernel)]; exact ⟨rfl, rfl⟩))
    (fun os started H enc _ => sums_lifted os started H enc)

theorem arithSums_proved : Rows.ArithSumsCardSaid :=
  Claim7.holds_tied_plain_at .later [] [.data, .data, .data, .sentinel, .sentinel] true Rows.arithSumsCard.stood.harness true
    sums_said (fun _ h => by cases h) (by kernel_rfl) (fun _ h => by cases h) arithSums_row_tie rfl ⟨rfl, rfl⟩ (by kernel_rfl) rfl
    (fun f fn hf hfn => by
      obtain rfl : f = 3 := Option.some.inj ((show Tryz.prog.funcNamed "chiasmus/chiasmuslaw08.ArithSums" = some 3 by kernel_rfl).symm.trans hf) |>.symm
      obtain rfl : fn = Tryz.f3 := (Option.some.inj (Tryz.func3.symm.trans hfn)).symm
      exact ⟨by kernel_rfl, fun j t ht => by
        rw [Tryz.params3] at ht
        have hm : t ∈ [9, 9] := by simpa using Array.mem_of_getElem? ht
        have hall : ([9, 9].all fun u => !Tryz.prog.wantsStandIn u) = true := by kernel_rfl
        exact (show Tryz.prog.wantsStandIn t = false by simpa using List.all_eq_true.1 hall t hm)⟩)
    (by kernel_rfl)
end Go.Proofs.YtngnaofbndpadaaGreatDoor
