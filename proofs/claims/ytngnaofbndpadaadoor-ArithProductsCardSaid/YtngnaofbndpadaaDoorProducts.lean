/- The law of products returns true for every two texts. -/
import Derived.Test.YtngnaofbndpadaaDoorLa
import Derived.Test.YtngnaofbndpadaaDoorRc
import Derived.Test.YtngnaofbndpadaaDoorLd
import Derived.Test.YtngnaofbndpadaaDoorCards
import Derived.Test.YtngnaofbndpadaaDoorTie
import Derived.OpenShut
import Derived.ChangeMaps5
import Derived.SevenTiedAt
/- The law of products. -/
namespace Go.Proofs.YtngnaofbndpadaaDoor
open Go.RowKit Go.Proofs.ArM

set_option maxHeartbeats 6400000 in
set_option maxRecDepth 100000 in
theorem products_any (s t : ByteArray) (w : World) (hT : Tabs w) : Calls Tryd.prog 3 #[.string s, .string t] w (OutV w (.bool true)) := by
  have hS := strs2 w s t
  have hbA : Below w.heap.size w (w.alloc (.cells #[.string s, .string t] 9)) := (Below.refl _ _).alloc (Nat.le_refl _) _
  have SH := Lib.hid (short_any [s, t] w.heap.size 0 2 (w.alloc (.cells #[.string s, .string t] 9)) (by simp) hS (by simp))
  have HBA := Lib.hid hbA
  have HT := Lib.hid hT
  clear hT
  clear hS hbA
  go_enter Tryd.func3, Tryd.ntmps3
  go_wp2_with fail
  refine SH.out.mono ?_
  rintro e w1 ⟨rfl, hb1⟩
  have hz1 := HBA.out.trans (hb1.mono HBA.out.size)
  cases hany : [s, t].any (fun s => decide (600 < s.size))
  · have hs : s.size ≤ 600 := by simp at hany; exact hany.1
    have ht : t.size ≤ 600 := by simp at hany; exact hany.2
    clear hany
    obtain ⟨rm, hrm⟩ : ∃ rm, rm = mulR s.data.toList t.data.toList := ⟨_, rfl⟩
    obtain ⟨rd, hrd⟩ : ∃ rd, rd = divR s.data.toList t.data.toList := ⟨_, rfl⟩
    obtain ⟨rg, hrg⟩ : ∃ rg, rg = gcdR s.data.toList t.data.toList := ⟨_, rfl⟩
    have A1 := Lib.hid (show ∀ w, Tabs w → Calls Tryd.prog 10 #[.string s, .string t] w (OutT w rm) from fun w hT => hrm ▸ aMul_any s t w (by omega) (by omega) hT)
    have B1 := Lib.hid (show ∀ w, Calls Tryd.prog 11 #[.string s, .string t] w (OutT w rm) from fun w => hrm ▸ mul_any s t w (by omega) (by omega))
    have A2 := Lib.hid (show ∀ w, Tabs w → Calls Tryd.prog 12 #[.string s, .string t] w (OutTT w rd) from fun w hT => hrd ▸ aDivmod_any s t w (by omega) (by omega) hT)
    have B2 := Lib.hid (show ∀ w, Calls Tryd.prog 13 #[.string s, .string t] w (OutTT w rd) from fun w => hrd ▸ divmod_any s t w (by omega) (by omega))
    have A3 := Lib.hid (show ∀ w, Tabs w → Calls Tryd.prog 14 #[.string s, .string t] w (OutT w rg) from fun w hT => hrg ▸ aGcd_any s t w (by omega) (by omega) hT)
    have B3 := Lib.hid (show ∀ w, Calls Tryd.prog 15 #[.string s, .string t] w (OutT w rg) from fun w => hrg ▸ gcd_any s t w (by omega) (by omega))
    clear hrm hrd hrg
    obtain ⟨rm1, rm2⟩ := rm
    obtain ⟨rd1, rd2, rd3⟩ := rd
    obtain ⟨rg1, rg2⟩ := rg
    go_wp2_with fail
    refine (A1.out w1 (HT.out.later hz1)).mono ?_
    rintro e w2 ⟨rfl, hb2⟩
    have hz2 := hz1.trans (hb2.mono hz1.size)
    go_wp2_with fail
    refine (B1.out w2).mono ?_
    rintro e w3 ⟨rfl, hb3⟩
    have hz3 := hz2.trans (hb3.mono hz2.size)
    go_wp2_with fail
    refine (A2.out w3 (HT.out.later hz3)).mono ?_
    rintro e w4 ⟨rfl, hb4⟩
    have hz4 := hz3.trans (hb4.mono hz3.size)
    go_wp2_with fail
    refine (B2.out w4).mono ?_
    rintro e w5 ⟨rfl, hb5⟩
    have hz5 := hz4.trans (hb5.mono hz4.size)
    go_wp2_with fail
    refine (A3.out w5 (HT.out.later hz5)).mono ?_
    rintro e w6 ⟨rfl, hb6⟩
    have hz6 := hz5.trans (hb6.mono hz5.size)
    go_wp2_with fail
    refine (B3.out w6).mono ?_
    rintro e w7 ⟨rfl, hb7⟩
    have hz7 := hz6.trans (hb7.mono hz6.size)
    go_wp2_with fail
    refine (awake_any w7 (HT.out.later hz7)).mono ?_
    rintro e w8 ⟨rfl, hb8⟩
    go_wp2
    go_ret
    exact ⟨rfl, hz7.trans (hb8.mono hz7.size)⟩
  · clear hany
    go_wp2_with fail
    refine (awake_any w1 (HT.out.later hz1)).mono ?_
    rintro e w2 ⟨rfl, hb2⟩
    go_wp2
    go_ret
    exact ⟨rfl, hz1.trans (hb2.mono hz1.size)⟩
end Go.Proofs.YtngnaofbndpadaaDoor

/- The law ArithProducts returns true for every input: the row and its card. -/
namespace Go.Proofs.YtngnaofbndpadaaDoor
open Go.ChangeShapes Go.WideShapes Go.ChangeAt Go.RowKit Go.Proofs.ArM
open Go.ChangeMaps (open_string shut_string)

set_option maxRecDepth 100000 in
theorem products_contract (H : Type) (enc : TypeId × Value → H) (W : World) (base : Nat) (args : Array Value) (ds gs : List (DataW H)) (before : List MemPlace)
    (hval : ∀ (j : Nat) t v, Tryd.f3.params[j]? = some t → args[j]? = some v → Value.okWide Tryd.prog W .any base t v)
    (hW : DataW.Whole enc Tryd.prog Tryd.f3.params.toList Rows.arithProductsSpec.vars false W args.toList ds gs before) (hT : Tabs W) :
    Calls Tryd.prog 3 args W fun e W' => ∃ v, e = .returned v ∧ Rows.arithProductsSpec.post enc Tryd.prog Tryd.f3 false true false false W args v W' := by
  have hW' := hW
  obtain ⟨p, q, hA0, hV, rfl, hfz, hnd⟩ := hW
  have hA : DataW.TrodAll enc Tryd.prog W 0 (fun _ => true) true Tryd.f3.params.toList args.toList ds p := hA0
  rw [Tryd.params3] at hA hval
  obtain ⟨v0, vs0, d0, ds0, p0, q0, hargs, rfl, rfl, h0, r0⟩ := trodAll_cons hA
  obtain ⟨v1, vs1, d1, ds1, p1, q1, hargs1, rfl, rfl, h1, r1⟩ := trodAll_cons r0
  obtain ⟨rfl, rfl, rfl⟩ := trodAll_nil r1
  obtain rfl : args = #[v0, v1] := by cases args; simp_all
  obtain ⟨rfl, rfl⟩ := trodVars_none hV
  obtain ⟨s0, rfl, rfl, rfl, hs0⟩ := open_string Tryd.underlying9 (hval 0 9 v0 rfl rfl) h0
  obtain ⟨s1, rfl, rfl, rfl, hs1⟩ := open_string Tryd.underlying9 (hval 1 9 v1 rfl rfl) h1
  clear hA0
  simp only [List.append_nil] at hW'
  refine (products_any s0 s1 W hT).mono fun e W' ⟨he, hb⟩ => ?_
  subst he
  exact ⟨_, rfl, _, _, _, [], [], [], hW', (trodAll_cons_mk (shut_bool Tryd.underlying4 _) trodAll_mk0), (trodAll_cons_mk (shut_string Tryd.underlying9 hs0) (trodAll_cons_mk (shut_string Tryd.underlying9 hs1) trodAll_mk0)), rfl, hb.frame _, fun h => by cases h⟩

set_option maxRecDepth 100000 in
theorem products_lifted (os : Os) (started : os.Started) (H : Type) (enc : TypeId × Value → H) :
    ReturnsInHanded {} Tryd.checked os 3 .any (fun w args => (Rows.arithProductsSpec.pre enc Tryd.prog Tryd.f3 [] false w args ∧ laidMetH Tryd.prog laidL w) ∧ sizedMet enc Tryd.prog Tryd.f3 (OpenSpec.ofChange Rows.arithProductsSpec) false w args)
      (Rows.arithProductsSpec.post enc Tryd.prog Tryd.f3 false true false false) := by
  refine returnsInHanded_of_change_and (C := Tryd.checked) (X := fun w _ => laidMetH Tryd.prog laidL w) (fun _ _ _ hh h => h.of_heap hh) ownL started (by kernel_rfl) Tryd.func3
    (ChangeSpec.witness_shaped (enc := enc) (C := Tryd.checked) (os := os) (X := fun w _ => laidMetH Tryd.prog laidL w) false (World.doorLaid Tryd.prog 62 os) #[.string ⟨#[]⟩, .string ⟨#[]⟩] 8 rfl (door_shaped os _) (by kernel_rfl) (by kernel_rfl) (by kernel_rfl) (door_met os _)) ?_
  intro W base args ds gs before hval hW _ _ hL _
  exact products_contract H enc W base args ds gs before hval hW (tabs_of_laid hL)

theorem products_said : Rows.ArithProductsSaid :=
  OpenClaim.holds_of_wide 3 Tryd.f3 rfl rfl rfl rfl rfl rfl rfl ⟨rfl, rfl, rfl, rfl, rfl⟩ rfl rfl rfl rfl rfl (by kernel_rfl) Tryd.func3 (by kernel_rfl)
    (of_decide_eq_true (by kernel_rfl)) (by unfold Func.isWrapper; first | (rw [if_pos (by decide +kernel)]; kernel_rfl) | (rw [if_neg (by decide +kernel)]; exact ⟨rfl, rfl⟩))
    (fun os started H enc _ => products_lifted os started H enc)

theorem arithProducts_proved : Rows.ArithProductsCardSaid :=
  Claim7.holds_tied_plain_at .later [] [.data, .data, .data, .sentinel, .sentinel] true Rows.arithProductsCard.stood.harness true
    products_said (fun _ h => by cases h) (by kernel_rfl) (fun _ h => by cases h) arithProducts_row_tie rfl ⟨rfl, rfl⟩ (by kernel_rfl) rfl
    (fun f fn hf hfn => by
      obtain rfl : f = 3 := Option.some.inj ((show Tryd.prog.funcNamed "chiasmus/chiasmuslaw08.ArithProducts" = some 3 by kernel_rfl).symm.trans hf) |>.symm
      obtain rfl : fn = Tryd.f3 := (Option.some.inj (Tryd.func3.symm.trans hfn)).symm
      exact ⟨by kernel_rfl, fun j t ht => by
        rw [Tryd.params3] at ht
        have hm : t ∈ [9, 9] := by simpa using Array.mem_of_getElem? ht
        have hall : ([9, 9].all fun u => !Tryd.prog.wantsStandIn u) = true := by kernel_rfl
        exact (show Tryd.prog.wantsStandIn t = false by simpa using List.all_eq_true.1 hall t hm)⟩)
    (by kernel_rfl)
end Go.Proofs.YtngnaofbndpadaaDoor
