/- The law of digits returns true for every text, digits and base. -/
import Derived.Test.YtebejllehbpahaaGreatDoorPb
import Derived.Test.YtebejllehbpahaaGreatDoorLa
import Derived.Test.YtebejllehbpahaaGreatDoorZd
import Derived.Test.YtebejllehbpahaaGreatDoorZe
import Derived.Test.YtebejllehbpahaaGreatDoorPu
import Derived.Test.YtebejllehbpahaaGreatDoorLe
import Derived.Test.YtebejllehbpahaaGreatDoorCards
import Derived.Test.YtebejllehbpahaaGreatDoorTie
import Derived.OpenShut
import Derived.ChangeMaps5
import Derived.SevenTiedAt
import Derived.ChangeSlices
import Derived.Carry
import Derived.ChangeOld
/- Two lists of ints that read alike are equal to the library's test. -/
namespace Go.Proofs.YtebejllehbpahaaGreatDoor
open Go.RowKit Go.Proofs.ArM

set_option maxHeartbeats 3200000 in
set_option maxRecDepth 100000 in
theorem equal_any (a a' : Option Addr) (c c' : Nat) (xs : List Int) (w : World) (h : Sl w.heap.size w a c xs) (h' : Sl w.heap.size w a' c' xs) :
    Calls Tryz.prog 19 #[.slice a xs.length c, .slice a' xs.length c'] w (OutV w (.bool true)) := by
  obtain ⟨b, o, hab, hbw, HCX⟩ := base_of h
  obtain ⟨b', o', hab', hbw', HCY⟩ := base_of h'
  have hcx := h.cap
  unfold maxLen at hcx
  have HAB := Lib.hid hab
  have HBW := Lib.hid hbw
  have HAB' := Lib.hid hab'
  have HBW' := Lib.hid hbw'
  clear h h' hab hbw hab' hbw'
  go_enter Tryz.func19, Tryz.ntmps19
  go_wp2_with fail
  go_loopw [13] (fun i wr => ∃ k : Nat, i = .int .i64 k ∧ k ≤ xs.length ∧ Below w.heap.size w wr) (fun i _ => xs.length - (intOf i).toNat)
  case atStart => exact ⟨0, by go_num, Nat.zero_le _, Below.refl _ _⟩
  case round =>
    obtain ⟨k, rfl, hk, hbl⟩ := hrel
    by_cases hkl : k < xs.length
    · obtain rfl := HAB.out (by omega)
      obtain rfl := HAB'.out (by omega)
      obtain ⟨d, hd⟩ : ∃ d, d = xs.getD k 0 := ⟨_, rfl⟩
      have cx : wr.cell? ⟨b, o + k, none⟩ = some (.int .i64 d) := by rw [hd]; exact (hbl.cell (p := ⟨b, o + k, none⟩) (HBW.out (by omega))).trans (HCX.out k hkl)
      have cy : wr.cell? ⟨b', o' + k, none⟩ = some (.int .i64 d) := by rw [hd]; exact (hbl.cell (p := ⟨b', o' + k, none⟩) (HBW'.out (by omega))).trans (HCY.out k hkl)
      clear hd
      go_wp2_with fail
      go_quiet (fail)
      have hbq := below_drewN hbl
      go_wp2
      go_roundw
      case rel => exact ⟨k + 1, by go_num, by omega, hbq _⟩
      case measure => simp [intOf]; omega
    · go_wp2
      go_ret
      exact ⟨rfl, hbl⟩
end Go.Proofs.YtebejllehbpahaaGreatDoor

/- The law of digits. -/
namespace Go.Proofs.YtebejllehbpahaaGreatDoor
open Go.RowKit Go.Proofs.ArM

theorem strs1 (w : World) (s : ByteArray) : Strs (w.alloc (.cells #[.string s] 9)) w.heap.size 0 [s] := by
  refine ⟨by simp, fun j hj => ?_⟩
  rcases j with _ | j
  · rw [World.cell?_alloc_at _ _ _ _ (by simp)]; rfl
  · simp at hj

/-- digits and a code -/
def OutDq (w : World) (r : List Int × Int) (e : Ending) (w' : World) : Prop :=
  ∃ a c zs, e = .returned (.tuple #[.slice a zs.length c, .int .i64 r.2]) ∧ Hid (Sl w'.heap.size w' a c zs) ∧ Hid (zs = r.1) ∧ Below w.heap.size w w'

theorem outDq_of {w w' : World} {r : List Int × Int} {e : Ending} (h : OutDg w r e w') : OutDq w r e w' := by
  rcases h with ⟨b, o, c, zs, rfl, hI, hr, hb⟩ | ⟨c, rfl, hr, hb⟩
  · exact ⟨_, c, zs, by rw [hr.out], Lib.hid (Sl.mk hI), Lib.hid (by rw [hr.out]), hb⟩
  · exact ⟨none, 0, [], by rw [hr.out]; rfl, Lib.hid Sl.nil, Lib.hid (by rw [hr.out]), hb⟩

set_option maxHeartbeats 6400000 in
set_option maxRecDepth 100000 in
theorem digits_law (s : ByteArray) (a : Option Addr) (c : Nat) (l : List Int) (n : Int) (w : World) (hn0 : -9223372036854775808 ≤ n) (hn1 : n ≤ 9223372036854775807) (hl : SlE w.heap.size w a c l) (hT : Tabs w) (hE : ErrV w) :
    Calls Tryz.prog 4 #[.string s, .slice a l.length c, .int .i64 n] w (OutV w (.bool true)) := by
  have hS := strs1 w s
  have hbA : Below w.heap.size w (w.alloc (.cells #[.string s] 9)) := (Below.refl _ _).alloc (Nat.le_refl _) _
  have SH := Lib.hid (short_any [s] w.heap.size 0 1 (w.alloc (.cells #[.string s] 9)) (by simp) hS (by simp))
  have HBA := Lib.hid hbA
  have HT := Lib.hid hT
  have HE := Lib.hid hE
  have HL := Lib.hid hl
  have hcap := hl.cap
  unfold maxLen at hcap
  clear hT hE hS hbA hl
  go_enter Tryz.func4, Tryz.ntmps4
  go_wp2_with fail
  refine SH.out.mono ?_
  rintro e w1 ⟨rfl, hb1⟩
  have hz1 := HBA.out.trans (hb1.mono HBA.out.size)
  cases hany : [s].any (fun s => decide (600 < s.size))
  · have hs : s.size ≤ 600 := by simpa using hany
    clear hany
    by_cases hlen : 2100 < l.length
    · have hlen2 : (2100 : Int) < (l.length : Int) := by omega
      go_wp2_with fail
      refine (awake_any w1 (HT.out.later hz1)).mono ?_
      rintro e w2 ⟨rfl, hb2⟩
      go_wp2
      go_ret
      exact ⟨rfl, hz1.trans (hb2.mono hz1.size)⟩
    · have hlen2 : ¬ (2100 : Int) < (l.length : Int) := by omega
      obtain ⟨rd, hrd⟩ : ∃ rd, rd = digR s.data.toList n := ⟨_, rfl⟩
      obtain ⟨rn, hrn⟩ : ∃ rn, rn = numR l n := ⟨_, rfl⟩
      obtain ⟨ri, hri⟩ : ∃ ri, ri = intR s.data.toList := ⟨_, rfl⟩
      obtain ⟨rt, hrt⟩ : ∃ rt : ByteArray, rt = ⟨(numT n).toArray⟩ := ⟨_, rfl⟩
      have A1 := Lib.hid (show ∀ w, Calls Tryz.prog 17 #[.string s, .int .i64 n] w (OutDq w rd) from fun w => hrd ▸ (aDigits_any s n w (by omega)).mono fun _ _ h => outDq_of h)
      have B1 := Lib.hid (show ∀ w, Calls Tryz.prog 18 #[.string s, .int .i64 n] w (OutDq w rd) from fun w => hrd ▸ (digits_any s n w (by omega)).mono fun _ _ h => outDq_of h)
      have A2 := Lib.hid (show ∀ w, SlE w.heap.size w a c l → Tabs w → Calls Tryz.prog 20 #[.slice a l.length c, .int .i64 n] w (OutT w rn) from fun w hl hT => hrn ▸ aNumber_any a c l n w hl hT)
      have B2 := Lib.hid (show ∀ w, SlE w.heap.size w a c l → Calls Tryz.prog 21 #[.slice a l.length c, .int .i64 n] w (OutT w rn) from fun w hl => hrn ▸ rnumber_any a c l n w hl)
      have A3 := Lib.hid (show ∀ w, ErrV w → Calls Tryz.prog 22 #[.string s] w (OutN w ri) from fun w hE => hri ▸ aInt_any s w (by omega) hE)
      have B3 := Lib.hid (show ∀ w, Calls Tryz.prog 23 #[.string s] w (OutN w ri) from fun w => hri ▸ rint_any s w (by omega))
      have A4 := Lib.hid (show ∀ w, Tabs w → Calls Tryz.prog 24 #[.int .i64 n] w (OutV w (.string rt)) from fun w hT => hrt ▸ aText_any n w hn0 hn1 hT)
      have B4 := Lib.hid (show ∀ w, Calls Tryz.prog 25 #[.int .i64 n] w (OutV w (.string rt)) from fun w => hrt ▸ rtext_any n w hn0 hn1)
      clear hrd hrn hri hrt
      obtain ⟨rd1, rd2⟩ := rd
      obtain ⟨rn1, rn2⟩ := rn
      obtain ⟨ri1, ri2⟩ := ri
      go_wp2_with fail
      refine (A1.out w1).mono ?_
      rintro e w2 ⟨a2, c2, zs, rfl, hS2, hzs, hb2⟩
      have hz2 := hz1.trans (hb2.mono hz1.size)
      go_wp2_with fail
      refine (B1.out w2).mono ?_
      rintro e w3 ⟨a3, c3, zs', rfl, hS3, hzs', hb3⟩
      have hz3 := hz2.trans (hb3.mono hz2.size)
      obtain rfl : zs' = zs := by rw [hzs.out, hzs'.out]
      have EQ := Lib.hid (equal_any a2 a3 c2 c3 zs' w3 (hS2.out.later hb3) hS3.out)
      go_wp2_with fail
      refine EQ.out.mono ?_
      rintro e w4 ⟨rfl, hb4⟩
      have hz4 := hz3.trans (hb4.mono hz3.size)
      go_wp2_with fail
      refine (A2.out w4 (HL.out.later hz4) (HT.out.later hz4)).mono ?_
      rintro e w5 ⟨rfl, hb5⟩
      have hz5 := hz4.trans (hb5.mono hz4.size)
      go_wp2_with fail
      refine (B2.out w5 (HL.out.later hz5)).mono ?_
      rintro e w6 ⟨rfl, hb6⟩
      have hz6 := hz5.trans (hb6.mono hz5.size)
      go_wp2_with fail
      refine (A3.out w6 (HE.out.later hz6)).mono ?_
      rintro e w7 ⟨rfl, hb7⟩
      have hz7 := hz6.trans (hb7.mono hz6.size)
      go_wp2_with fail
      refine (B3.out w7).mono ?_
      rintro e w8 ⟨rfl, hb8⟩
      have hz8 := hz7.trans (hb8.mono hz7.size)
      go_wp2_with fail
      refine (A4.out w8 (HT.out.later hz8)).mono ?_
      rintro e w9 ⟨rfl, hb9⟩
      have hz9 := hz8.trans (hb9.mono hz8.size)
      go_wp2_with fail
      refine (B4.out w9).mono ?_
      rintro e w10 ⟨rfl, hb10⟩
      have hz10 := hz9.trans (hb10.mono hz9.size)
      go_wp2_with fail
      refine (awake_any w10 (HT.out.later hz10)).mono ?_
      rintro e w11 ⟨rfl, hb11⟩
      go_wp2
      go_ret
      exact ⟨rfl, hz10.trans (hb11.mono hz10.size)⟩
  · clear hany
    go_wp2_with fail
    refine (awake_any w1 (HT.out.later hz1)).mono ?_
    rintro e w2 ⟨rfl, hb2⟩
    go_wp2
    go_ret
    exact ⟨rfl, hz1.trans (hb2.mono hz1.size)⟩
end Go.Proofs.YtebejllehbpahaaGreatDoor

/- The law ArithDigits returns true for every input: the row and its card. -/
namespace Go.Proofs.YtebejllehbpahaaGreatDoor
open Go.ChangeShapes Go.WideShapes Go.ChangeAt Go.RowKit Go.Proofs.ArM
open Go.ChangeMaps (open_string shut_string)

theorem Tryz.laidOut : laidOutB Tryz.prog = true := by kernel_rfl
theorem Tryz.cellsInt : Tryz.prog.cellsOf 3 = 1 := by kernel_rfl

theorem trod_blocks {H : Type} {enc : TypeId × Value → H} {W : World} {base : Nat} {sp : Nat → Bool} {held : Bool} {t : TypeId} {v : Value} {d : DataW H} {ps : List MemPlace} (h : DataW.Trod enc Tryz.prog W base sp held t v d ps) : ∀ x ∈ ps, x.block < W.heap.size := by
  obtain ⟨fuel, hf⟩ := h
  exact DataW.trod_lt _ _ _ _ hf

theorem sle_of {H : Type} {enc : TypeId × Value → H} {W : World} {a : Option Addr} {len cap : Nat} {d : DataW H} {ps : List MemPlace} (h : DataW.Trod enc Tryz.prog W 0 (fun _ => true) true 32 (.slice a len cap) d ps) :
    ∃ l : List Int, l.length = len ∧ SlE W.heap.size W a cap l := by
  have hlt := trod_blocks h
  obtain ⟨fuel, hf⟩ := h
  rcases open_ints Tryz.underlying32 Tryz.underlying3 Tryz.cellsInt hf with ⟨hcs, _⟩ | ⟨a', len', cap', zs, hcs, _, hl, hm, hz, hx, hcell, _⟩
  · simp [Value.cells] at hcs
    obtain ⟨rfl, rfl, rfl⟩ := hcs
    exact ⟨[], rfl, ⟨Nat.le_refl _, Nat.zero_le _⟩, .inl rfl⟩
  · simp [Value.cells] at hcs
    obtain ⟨rfl, rfl, rfl⟩ := hcs
    simp only [Prod.mk.injEq] at hx
    obtain ⟨_, rfl⟩ := hx
    simp only [if_true] at hz
    have hll : (zs.take len).length = len := by rw [List.length_take]; omega
    refine ⟨zs.take len, hll, ⟨by rw [hll]; exact hl, hm⟩, ?_⟩
    by_cases hl0 : len = 0
    · exact .inl (by rw [hl0, List.take_zero])
    · obtain ⟨b, off, spot⟩ := a'
      have hspot : spot = none := by simpa [Addr.add] using World.cell?_spot (hcell 0 (by omega))
      subst hspot
      have hbW : b < W.heap.size := hlt (.cell b off) (MemPlace.mem_row.2 ⟨0, by omega, by simp⟩)
      refine .inr (Sl.mk ⟨b, off, cap, rfl, by rw [hll]; exact hl, hm, hbW, fun j hj => ?_⟩)
      rw [hll] at hj
      rw [← add_plain, hcell j (by omega)]
      have : (zs.take len).getD j 0 = zs.getD j 0 := by simp [List.getD, show j < len by omega]
      rw [this]


set_option maxRecDepth 100000 in
theorem digits_contract (H : Type) (enc : TypeId × Value → H) (W : World) (base : Nat) (args : Array Value) (ds gs : List (DataW H)) (before : List MemPlace)
    (hval : ∀ (j : Nat) t v, Tryz.f4.params[j]? = some t → args[j]? = some v → Value.okWide Tryz.prog W .any base t v)
    (hW : DataW.Whole enc Tryz.prog Tryz.f4.params.toList Rows.arithDigitsSpec.vars false W args.toList ds gs before) (hT : Tabs W) (hE : ErrV W) :
    Calls Tryz.prog 4 args W fun e W' => ∃ v, e = .returned v ∧ Rows.arithDigitsSpec.post enc Tryz.prog Tryz.f4 false true false false W args v W' := by
  have hW' := hW
  obtain ⟨p, q, hA0, hV, rfl, hfz, hnd⟩ := hW
  have hA : DataW.TrodAll enc Tryz.prog W 0 (fun _ => true) true Tryz.f4.params.toList args.toList ds p := hA0
  rw [Tryz.params4] at hA hval
  obtain ⟨v0, vs0, d0, ds0, p0, q0, hargs, rfl, rfl, h0, r0⟩ := trodAll_cons hA
  obtain ⟨v1, vs1, d1, ds1, p1, q1, hargs1, rfl, rfl, h1, r1⟩ := trodAll_cons r0
  obtain ⟨v2, vs2, d2, ds2, p2, q2, hargs2, rfl, rfl, h2, r2⟩ := trodAll_cons r1
  obtain ⟨rfl, rfl, rfl⟩ := trodAll_nil r2
  obtain rfl : args = #[v0, v1, v2] := by cases args; simp_all
  obtain ⟨rfl, rfl⟩ := trodVars_none hV
  obtain ⟨s0, rfl, rfl, rfl, hs0⟩ := open_string Tryz.underlying9 (hval 0 9 v0 rfl rfl) h0
  obtain ⟨a1, len1, cap1, rfl⟩ := okWide_slice Tryz.underlying32 (hval 1 32 v1 rfl rfl)
  obtain ⟨l1, rfl, hs1⟩ := sle_of h1
  have harg1 := fun W' (hn : Below W.heap.size W W') => Below.trod Tryz.laidOut (by kernel_rfl) (of_decide_eq_true (by kernel_rfl)) h1 hn (trod_blocks h1)
  obtain ⟨n2, rfl, rfl, rfl, hs2⟩ := open_int Tryz.underlying3 (hval 2 3 v2 rfl rfl) h2
  have hx2 : -9223372036854775808 ≤ n2 ∧ n2 ≤ 9223372036854775807 := by simpa [Lit.wf, IntKind.min, IntKind.max, IntKind.signed, IntKind.bits] using hs2
  clear hA0
  simp only [List.append_nil] at hW'
  refine (digits_law s0 a1 cap1 l1 n2 W hx2.1 hx2.2 hs1 hT hE).mono fun e W' ⟨he, hb⟩ => ?_
  subst he
  exact ⟨_, rfl, _, _, _, [], _, [], hW', (trodAll_cons_mk (shut_bool Tryz.underlying4 _) trodAll_mk0), (trodAll_cons_mk (shut_string Tryz.underlying9 hs0) (trodAll_cons_mk (harg1 _ hb) (trodAll_cons_mk (shut_int Tryz.underlying3 hs2) trodAll_mk0))), rfl, hb.frame _, fun h => by cases h⟩

set_option maxRecDepth 100000 in
theorem digits_lifted (os : Os) (started : os.Started) (H : Type) (enc : TypeId × Value → H) :
    ReturnsInHanded {} Tryz.checked os 4 .any (fun w args => (Rows.arithDigitsSpec.pre enc Tryz.prog Tryz.f4 [] false w args ∧ laidMetH Tryz.prog laidL w) ∧ sizedMet enc Tryz.prog Tryz.f4 (OpenSpec.ofChange Rows.arithDigitsSpec) false w args)
      (Rows.arithDigitsSpec.post enc Tryz.prog Tryz.f4 false true false false) := by
  refine returnsInHanded_of_change_and (C := Tryz.checked) (X := fun w _ => laidMetH Tryz.prog laidL w) (fun _ _ _ hh h => h.of_heap hh) ownL started (by kernel_rfl) Tryz.func4
    (ChangeSpec.witness_shaped (enc := enc) (C := Tryz.checked) (os := os) (X := fun w _ => laidMetH Tryz.prog laidL w) false (World.doorLaid Tryz.prog 62 os) #[.string ⟨#[]⟩, .slice none 0 0, .int .i64 0] 8 rfl (door_shaped os _) (by kernel_rfl) (by kernel_rfl) (by kernel_rfl) (door_met os _)) ?_
  intro W base args ds gs before hval hW _ _ hL _
  exact digits_contract H enc W base args ds gs before hval hW (tabs_of_laid hL) (errv_of_laid hL)

theorem digits_said : Rows.ArithDigitsSaid :=
  OpenClaim.holds_of_wide 4 Tryz.f4 rfl rfl rfl rfl rfl rfl rfl ⟨rfl, rfl, rfl, rfl, rfl⟩ rfl rfl rfl rfl rfl (by kernel_rfl) Tryz.func4 (by kernel_rfl)
    (of_decide_eq_true (by kernel_rfl)) (by unfold Func.isWrapper; first | (rw [if_pos (by decide +kernel)]; kernel_rfl) | (rw [if_neg (by decide +kernel)]; exact ⟨rfl, rfl⟩))
    (fun os started H enc _ => digits_lifted os started H enc)

theorem arithDigits_proved : Rows.ArithDigitsCardSaid :=
  Claim7.holds_tied_plain_at .later [] [.data, .data, .data, .sentinel, .sentinel] true Rows.arithDigitsCard.stood.harness true
    digits_said (fun _ h => by cases h) (by kernel_rfl) (fun _ h => by cases h) arithDigits_row_tie rfl ⟨rfl, rfl⟩ (by kernel_rfl) rfl
    (fun f fn hf hfn => by
      obtain rfl : f = 4 := Option.some.inj ((show Tryz.prog.funcNamed "chiasmus/chiasmuslaw08.ArithDigits" = some 4 by kernel_rfl).symm.trans hf) |>.symm
      obtain rfl : fn = Tryz.f4 := (Option.some.inj (Tryz.func4.symm.trans hfn)).symm
      exact ⟨by kernel_rfl, fun j t ht => by
        rw [Tryz.params4] at ht
        have hm : t ∈ [9, 32, 3] := by simpa using Array.mem_of_getElem? ht
        have hall : ([9, 32, 3].all fun u => !Tryz.prog.wantsStandIn u) = true := by kernel_rfl
        exact (show Tryz.prog.wantsStandIn t = false by simpa using List.all_eq_true.1 hall t hm)⟩)
    (by kernel_rfl)
end Go.Proofs.YtebejllehbpahaaGreatDoor
