/- The law of division returns true for every two texts. -/
import Derived.Test.YtngnaofbndpadaaDoorLc
import Derived.Test.YtngnaofbndpadaaDoorLd
import Derived.Test.YtngnaofbndpadaaDoorCards
import Derived.Test.YtngnaofbndpadaaDoorTie
import Derived.OpenShut
import Derived.ChangeMaps5
import Derived.SevenTiedAt
/- The law of division. -/
namespace Go.Proofs.YtngnaofbndpadaaDoor
open Go.RowKit Go.Proofs.ArM

theorem numT_neg {m : Int} (h : m < 0) : numT m = 45 :: numT (-m) := by
  have hne : digs m.natAbs ≠ [] := by rw [digs_pos (by omega)]; simp
  rw [numT, numT, Int.natAbs_neg, textOf, textOf, if_neg hne, if_neg hne, decide_eq_true h, decide_eq_false (show ¬ -m < 0 by omega)]; rfl
theorem numT_pos {m : Int} (h : 0 ≤ m) : ∃ b l, numT m = b :: l ∧ 48 ≤ b.toNat := by
  by_cases h0 : m = 0
  · subst h0; exact ⟨48, [], by simp [numT, textOf, digs_zero], by decide⟩
  · obtain ⟨d, l, hr, h1, h9⟩ := digs_rev_cons (n := m.natAbs) (by omega)
    have hne : digs m.natAbs ≠ [] := by rw [digs_pos (by omega)]; simp
    have hb := dch_toNat (d := d) ⟨by omega, h9⟩
    refine ⟨dch d, l.map dch, ?_, by omega⟩
    rw [numT, textOf, if_neg hne, decide_eq_false (by omega), hr]; rfl

theorem head_dat2 {s : ByteArray} (h : 0 < s.size) : s.data.toList.headD 0 = s[0] := by
  obtain ⟨⟨l⟩⟩ := s
  cases l with
  | nil => exact absurd h (Nat.lt_irrefl 0)
  | cons a l => rfl
theorem numB_cons {m : Int} {b : UInt8} {l : List UInt8} (h : numT m = b :: l) : 0 < (numB m).size ∧ ∀ h0 : 0 < (numB m).size, (numB m)[0].toNat = b.toNat := by
  have e : (numB m).data.toList = b :: l := by rw [numB_list, h]
  have hz : 0 < (numB m).size := by
    have : (numB m).data.toList.length = (numB m).size := Array.length_toList
    rw [e] at this; simp at this; omega
  refine ⟨hz, fun h0 => ?_⟩
  have := head_dat2 h0
  rw [e] at this
  exact (congrArg UInt8.toNat this).symm

/-- a number's text begins with '-' where it is less than 0, and not elsewhere -/
theorem numB_sign (m : Int) : ∃ h0 : 0 < (numB m).size, (((numB m)[0].toNat : Int) == 45) = decide (m < 0) := by
  by_cases h : m < 0
  · obtain ⟨hz, hc⟩ := numB_cons (numT_neg h)
    refine ⟨hz, ?_⟩
    rw [hc hz, decide_eq_true h]; rfl
  · obtain ⟨b, l, e, hb⟩ := numT_pos (m := m) (by omega)
    obtain ⟨hz, hc⟩ := numB_cons e
    refine ⟨hz, ?_⟩
    rw [hc hz, decide_eq_false h, beq_eq_false_iff_ne]
    omega
theorem numB_tail {m : Int} (h : m < 0) : (numB m).extract 1 (numB m).size = numB (-m) := by
  have e : ((numB m).extract 1 (numB m).size).data.toList = (numB (-m)).data.toList := by
    rw [Lib.extract_to_end, numB_list, numB_list, numT_neg h]; rfl
  rw [← back ((numB m).extract 1 (numB m).size), e, back]

theorem numB_zero (m : Int) : ((numB m).toList == [48]) = decide (m = 0) := by
  rw [ByteArray.toList_eq, numB_list, Bool.eq_iff_iff, beq_iff_eq, decide_eq_true_eq]
  constructor
  · intro e
    by_cases h : m < 0
    · rw [numT_neg h] at e
      have := congrArg (fun l => l.headD 0) e
      simp at this
    · by_cases h0 : m = 0
      · exact h0
      · exfalso
        obtain ⟨d, l, hr, h1, h9⟩ := digs_rev_cons (n := m.natAbs) (by omega)
        have hne : digs m.natAbs ≠ [] := by rw [digs_pos (by omega)]; simp
        have hb := dch_toNat (d := d) ⟨by omega, h9⟩
        rw [numT, textOf, if_neg hne, decide_eq_false h, hr] at e
        have h3 : (dch d :: l.map dch) = [48] := e
        have := congrArg (fun l => (l.headD 0).toNat) h3
        simp at this
        omega
  · rintro rfl; simp [numT, textOf, digs_zero]

set_option maxHeartbeats 3200000 in
set_option maxRecDepth 100000 in
theorem abs_minus (s : ByteArray) (w : World) (h0 : 0 < s.size) (hs : ((s[0].toNat : Int) == 45) = true) : Calls Tryd.prog 28 #[.string s] w (OutV w (.string (s.extract 1 s.size))) := by
  go_enter Tryd.func28, Tryd.ntmps28
  go_wp2
  go_ret
  exact ⟨rfl, Below.refl _ _⟩

set_option maxHeartbeats 3200000 in
set_option maxRecDepth 100000 in
theorem abs_plus (s : ByteArray) (w : World) (h0 : 0 < s.size) (hs : ((s[0].toNat : Int) == 45) = false) : Calls Tryd.prog 28 #[.string s] w (OutV w (.string s)) := by
  go_enter Tryd.func28, Tryd.ntmps28
  go_wp2
  go_ret
  exact ⟨rfl, Below.refl _ _⟩

theorem absN (m : Int) (w : World) : Calls Tryd.prog 28 #[.string (numB m)] w (OutV w (.string (numB (m.natAbs : Int)))) := by
  obtain ⟨h0, hs⟩ := numB_sign m
  by_cases h : m < 0
  · have ht := numB_tail h
    have ea : (m.natAbs : Int) = -m := by omega
    rw [decide_eq_true h] at hs
    rw [ea, ← ht]
    exact abs_minus _ w h0 hs
  · have ea : (m.natAbs : Int) = m := by omega
    rw [decide_eq_false h] at hs
    rw [ea]
    exact abs_plus _ w h0 hs

/-- a quotient, a remainder and a code -/
def OutQR (w : World) (q r : ByteArray) (e : Ending) (w' : World) : Prop := e = .returned (.tuple #[.string q, .string r, .int .i64 0]) ∧ Below w.heap.size w w'
def DivIs (x y q r : ByteArray) : Prop := ∀ w, Tabs w → Calls Tryd.prog 12 #[.string x, .string y] w (OutQR w q r)
def GcdIs (x y z : ByteArray) : Prop := ∀ w, Tabs w → Calls Tryd.prog 14 #[.string x, .string y] w (OutT w (z.data.toList, 0))
def AbsIs (x z : ByteArray) : Prop := ∀ w, Calls Tryd.prog 28 #[.string x] w (OutV w (.string z))
def LessIs (x y : ByteArray) : Prop := ∀ w, Calls Tryd.prog 27 #[.string x, .string y] w (OutN w (-1, 0))

theorem divIs {m n : Int} (hm : Fits 500 m) (hn : Fits 500 n) (h : n ≠ 0) : DivIs (numB m) (numB n) (numB (m.tdiv n)) (numB (m.tmod n)) := fun w hT => by
  refine (divN hm hn h w hT).mono ?_
  rintro e w' ⟨rfl, hb⟩
  exact ⟨rfl, hb⟩
theorem gcdIs {m n : Int} (hm : Fits 500 m) (hn : Fits 500 n) : GcdIs (numB m) (numB n) (numB (Nat.gcd m.natAbs n.natAbs : Nat)) := fun w hT => by
  rw [numB_list]; exact gcdN hm hn w hT
theorem lessIs {m n : Int} (hm : Fits 500 m) (hn : Fits 500 n) (h : m < n) : LessIs (numB m) (numB n) := fun w => by
  have := cmpN hm hn w
  rwa [show ordZ m n = -1 from by unfold ordZ; simp [h]] at this

theorem Fits.abs {k : Nat} {m : Int} (h : Fits k m) : Fits k (m.natAbs : Int) := by
  unfold Fits at *; rwa [Int.natAbs_natCast]

/-- all that the law of division asks of two numbers -/
theorem div_facts {a b : Int} (ha : Fits 100 a) (hb : Fits 100 b) (h0 : b ≠ 0) :
    ∃ q r p r' b' g x y : ByteArray, Hid (DivIs (numB a) (numB b) q r) ∧ Hid (MulIs q (numB b) p) ∧ Hid (AddIs p r (numB a)) ∧ Hid (AbsIs r r') ∧ Hid (AbsIs (numB b) b') ∧ Hid (LessIs r' b') ∧
      Hid (GcdIs (numB a) (numB b) g) ∧ Hid (DivIs (numB a) g x ⟨#[48]⟩) ∧ Hid (DivIs (numB b) g y ⟨#[48]⟩) ∧
      Hid ((r.toList == [48]) = true ∨ ((r.toList == [48]) = false ∧ ∃ (z : Bool) (h1 : 0 < r.size) (h2 : 0 < (numB a).size), ((r[0].toNat : Int) == 45) = z ∧ (((numB a)[0].toNat : Int) == 45) = z)) := by
  have a5 : Fits 500 a := ha.mono (by omega)
  have b5 : Fits 500 b := hb.mono (by omega)
  have hq1 : (a.tdiv b).natAbs ≤ a.natAbs := by rw [Int.natAbs_tdiv]; exact Nat.div_le_self _ _
  have hr1 : (a.tmod b).natAbs ≤ a.natAbs := by rw [Int.natAbs_tmod]; exact Nat.mod_le _ _
  have hr2 : (a.tmod b).natAbs < b.natAbs := by rw [Int.natAbs_tmod]; exact Nat.mod_lt _ (by omega)
  have hq : Fits 100 (a.tdiv b) := by unfold Fits at *; omega
  have hr : Fits 100 (a.tmod b) := by unfold Fits at *; omega
  have hg0 : Nat.gcd a.natAbs b.natAbs ≠ 0 := by
    intro e; have := (Nat.gcd_eq_zero_iff.1 e).2; omega
  have hg1 : Nat.gcd a.natAbs b.natAbs ≤ b.natAbs := Nat.le_of_dvd (by omega) (Nat.gcd_dvd_right _ _)
  have hg : Fits 500 ((Nat.gcd a.natAbs b.natAbs : Nat) : Int) := by unfold Fits at *; simp; omega
  have hm := (hq.mul hb).mono (show 200 ≤ 500 by omega)
  have e0 : (⟨#[48]⟩ : ByteArray) = numB 0 := by
    have : numT 0 = [48] := by simp [numT, textOf, digs_zero]
    unfold numB; rw [this]
  have hz : ∀ c : Int, c.natAbs ∣ c.natAbs → ∀ g : Nat, g ∣ c.natAbs → c.tmod (g : Int) = 0 := fun c _ g hg => by
    have h1 : (c.tmod (g : Int)).natAbs = 0 := by rw [Int.natAbs_tmod]; exact Nat.mod_eq_zero_of_dvd hg
    omega
  have da := divIs a5 hg (by omega)
  have db := divIs b5 hg (by omega)
  rw [hz a (Nat.dvd_refl _) _ (Nat.gcd_dvd_left _ _), ← e0] at da
  rw [hz b (Nat.dvd_refl _) _ (Nat.gcd_dvd_right _ _), ← e0] at db
  refine ⟨_, _, _, _, _, _, _, _, Lib.hid (divIs a5 b5 h0), Lib.hid (mulIs (hq.mono (by omega)) b5 hm rfl), Lib.hid (addIs hm (hr.mono (by omega)) a5 (Int.tdiv_mul_add_tmod a b)), Lib.hid (absN _), Lib.hid (absN _),
    Lib.hid (lessIs (hr.mono (by omega)).abs b5.abs (by omega)), Lib.hid (gcdIs a5 b5), Lib.hid da, Lib.hid db, Lib.hid ?_⟩
  rw [numB_zero]
  by_cases hr0 : a.tmod b = 0
  · exact .inl (decide_eq_true hr0)
  · refine .inr ⟨decide_eq_false hr0, decide (a < 0), (numB_sign _).1, (numB_sign _).1, ?_, (numB_sign a).2⟩
    rw [(numB_sign (a.tmod b)).2]
    congr 1
    rw [eq_iff_iff]
    by_cases ha0 : 0 ≤ a
    · have := Int.tmod_nonneg b ha0
      constructor <;> intro <;> omega
    · have h1 : (-a).tmod b = -(a.tmod b) := Int.neg_tmod ..
      have := Int.tmod_nonneg b (show 0 ≤ -a by omega)
      constructor <;> intro <;> omega

set_option maxHeartbeats 6400000 in
set_option maxRecDepth 100000 in
theorem division_any (s t : ByteArray) (w : World) (hT : Tabs w) : Calls Tryd.prog 6 #[.string s, .string t] w (OutV w (.bool true)) := by
  have hS := strs2 w s t
  have hbA : Below w.heap.size w (w.alloc (.cells #[.string s, .string t] 9)) := (Below.refl _ _).alloc (Nat.le_refl _) _
  have SH := Lib.hid (valids_any [s, t] w.heap.size 0 2 (w.alloc (.cells #[.string s, .string t] 9)) (by simp) hS (by simp))
  have HBA := Lib.hid hbA
  have HT := Lib.hid hT
  clear hT
  clear hS hbA
  cases hany : [s, t].any notNum
  · rw [hany] at SH
    have hs : notNum s = false := by simp at hany; exact hany.1
    have ht : notNum t = false := by simp at hany; exact hany.2
    clear hany
    obtain ⟨hs1, _, hs3, hs4⟩ := num_short hs
    obtain ⟨ht1, htv, ht3, ht4⟩ := num_short ht
    have hzt := zero_text htv
    by_cases hb0 : numOf t.data.toList = 0
    · have D0 := aDivmod_any s t
      have hzz : (t.toList == [48]) = true := by rw [ByteArray.toList_eq, hzt, decide_eq_true hb0]
      have D1 := Lib.hid (show ∀ w, Tabs w → Calls Tryd.prog 12 #[.string s, .string t] w (OutTT w ([], [], 100)) from fun w hT => by
        have := D0 w (by omega) (by omega) hT
        rwa [divR, show validB s.data.toList = true from by simp [notNum] at hs; exact hs.2, htv, Bool.and_self, if_pos rfl, if_pos hb0] at this)
      clear D0 hs ht hs1 hs3 hs4 ht1 htv ht3 ht4 hzt hb0
      go_enter Tryd.func6, Tryd.ntmps6
      go_wp2_with fail
      refine SH.out.mono ?_
      rintro e w1 ⟨rfl, hb1⟩
      have hz1 := HBA.out.trans (hb1.mono HBA.out.size)
      go_wp2_with fail
      refine (D1.out w1 (HT.out.later hz1)).mono ?_
      rintro e w2 ⟨rfl, hb2⟩
      have hz2 := hz1.trans (hb2.mono hz1.size)
      go_wp2_with fail
      refine (awake_any w2 (HT.out.later hz2)).mono ?_
      rintro e w3 ⟨rfl, hb3⟩
      go_wp2
      go_ret
      exact ⟨rfl, hz2.trans (hb3.mono hz2.size)⟩
    · have hzz : (t.toList == [48]) = false := by rw [ByteArray.toList_eq, hzt, decide_eq_false hb0]
      obtain ⟨q, r, p, r', b', g, x, y, F1, F2, F3, F4, F5, F6, F7, F8, F9, F10⟩ := div_facts hs4 ht4 hb0
      rw [← hs3, ← ht3] at F1 F7
      rw [← ht3] at F2 F5 F9
      rw [← hs3] at F3 F8 F10
      clear hs ht hs1 hs3 hs4 ht1 htv ht3 ht4 hzt hb0
      go_enter Tryd.func6, Tryd.ntmps6
      go_wp2_with fail
      refine SH.out.mono ?_
      rintro e w1 ⟨rfl, hb1⟩
      have hz1 := HBA.out.trans (hb1.mono HBA.out.size)
      go_wp2_with fail
      refine (F1.out w1 (HT.out.later hz1)).mono ?_
      rintro e w2 ⟨rfl, hb2⟩
      have hz2 := hz1.trans (hb2.mono hz1.size)
      go_wp2_with fail
      refine (F2.out w2 (HT.out.later hz2)).mono ?_
      rintro e w3 ⟨rfl, hb3⟩
      rw [back]
      have hz3 := hz2.trans (hb3.mono hz2.size)
      go_wp2_with fail
      refine (F3.out w3 (HT.out.later hz3)).mono ?_
      rintro e w4 ⟨rfl, hb4⟩
      rw [back]
      have hz4 := hz3.trans (hb4.mono hz3.size)
      go_wp2_with fail
      refine (F4.out w4).mono ?_
      rintro e w5 ⟨rfl, hb5⟩
      have hz5 := hz4.trans (hb5.mono hz4.size)
      go_wp2_with fail
      refine (F5.out w5).mono ?_
      rintro e w6 ⟨rfl, hb6⟩
      have hz6 := hz5.trans (hb6.mono hz5.size)
      go_wp2_with fail
      refine (F6.out w6).mono ?_
      rintro e w7 ⟨rfl, hb7⟩
      have hz7 := hz6.trans (hb7.mono hz6.size)
      go_wp2_with fail
      rcases F10.out with hr0 | ⟨hr0, z, hl1, hl2, hc1, hc2⟩
      · go_quiet (fail)
        go_wp2_with fail
        refine (F7.out _ (HT.out.later (below_drewN hz7 _))).mono ?_
        rintro e w8 ⟨rfl, hb8⟩
        rw [back]
        have hz8 := (below_drewN hz7 _).trans (hb8.mono (below_drewN hz7 _).size)
        go_wp2_with fail
        refine (F8.out w8 (HT.out.later hz8)).mono ?_
        rintro e w9 ⟨rfl, hb9⟩
        have hz9 := hz8.trans (hb9.mono hz8.size)
        go_wp2_with fail
        refine (F9.out w9 (HT.out.later hz9)).mono ?_
        rintro e w10 ⟨rfl, hb10⟩
        have hz10 := hz9.trans (hb10.mono hz9.size)
        go_wp2_with fail
        refine (awake_any w10 (HT.out.later hz10)).mono ?_
        rintro e w11 ⟨rfl, hb11⟩
        go_wp2
        go_ret
        exact ⟨rfl, hz10.trans (hb11.mono hz10.size)⟩
      · cases z
        · go_quiet (fail)
          go_wp2_with fail
          refine (F7.out _ (HT.out.later (below_drewN hz7 _))).mono ?_
          rintro e w8 ⟨rfl, hb8⟩
          rw [back]
          have hz8 := (below_drewN hz7 _).trans (hb8.mono (below_drewN hz7 _).size)
          go_wp2_with fail
          refine (F8.out w8 (HT.out.later hz8)).mono ?_
          rintro e w9 ⟨rfl, hb9⟩
          have hz9 := hz8.trans (hb9.mono hz8.size)
          go_wp2_with fail
          refine (F9.out w9 (HT.out.later hz9)).mono ?_
          rintro e w10 ⟨rfl, hb10⟩
          have hz10 := hz9.trans (hb10.mono hz9.size)
          go_wp2_with fail
          refine (awake_any w10 (HT.out.later hz10)).mono ?_
          rintro e w11 ⟨rfl, hb11⟩
          go_wp2
          go_ret
          exact ⟨rfl, hz10.trans (hb11.mono hz10.size)⟩
        · go_quiet (fail)
          go_wp2_with fail
          refine (F7.out _ (HT.out.later (below_drewN hz7 _))).mono ?_
          rintro e w8 ⟨rfl, hb8⟩
          rw [back]
          have hz8 := (below_drewN hz7 _).trans (hb8.mono (below_drewN hz7 _).size)
          go_wp2_with fail
          refine (F8.out w8 (HT.out.later hz8)).mono ?_
          rintro e w9 ⟨rfl, hb9⟩
          have hz9 := hz8.trans (hb9.mono hz8.size)
          go_wp2_with fail
          refine (F9.out w9 (HT.out.later hz9)).mono ?_
          rintro e w10 ⟨rfl, hb10⟩
          have hz10 := hz9.trans (hb10.mono hz9.size)
          go_wp2_with fail
          refine (awake_any w10 (HT.out.later hz10)).mono ?_
          rintro e w11 ⟨rfl, hb11⟩
          go_wp2
          go_ret
          exact ⟨rfl, hz10.trans (hb11.mono hz10.size)⟩
  · rw [hany] at SH
    clear hany
    go_enter Tryd.func6, Tryd.ntmps6
    go_wp2_with fail
    refine SH.out.mono ?_
    rintro e w1 ⟨rfl, hb1⟩
    have hz1 := HBA.out.trans (hb1.mono HBA.out.size)
    go_wp2_with fail
    refine (awake_any w1 (HT.out.later hz1)).mono ?_
    rintro e w2 ⟨rfl, hb2⟩
    go_wp2
    go_ret
    exact ⟨rfl, hz1.trans (hb2.mono hz1.size)⟩

end Go.Proofs.YtngnaofbndpadaaDoor

/- The law ArithDivision returns true for every input: the row and its card. -/
namespace Go.Proofs.YtngnaofbndpadaaDoor
open Go.ChangeShapes Go.WideShapes Go.ChangeAt Go.RowKit Go.Proofs.ArM
open Go.ChangeMaps (open_string shut_string)

set_option maxRecDepth 100000 in
theorem division_contract (H : Type) (enc : TypeId × Value → H) (W : World) (base : Nat) (args : Array Value) (ds gs : List (DataW H)) (before : List MemPlace)
    (hval : ∀ (j : Nat) t v, Tryd.f6.params[j]? = some t → args[j]? = some v → Value.okWide Tryd.prog W .any base t v)
    (hW : DataW.Whole enc Tryd.prog Tryd.f6.params.toList Rows.arithDivisionSpec.vars false W args.toList ds gs before) (hT : Tabs W) :
    Calls Tryd.prog 6 args W fun e W' => ∃ v, e = .returned v ∧ Rows.arithDivisionSpec.post enc Tryd.prog Tryd.f6 false true false false W args v W' := by
  have hW' := hW
  obtain ⟨p, q, hA0, hV, rfl, hfz, hnd⟩ := hW
  have hA : DataW.TrodAll enc Tryd.prog W 0 (fun _ => true) true Tryd.f6.params.toList args.toList ds p := hA0
  rw [Tryd.params6] at hA hval
  obtain ⟨v0, vs0, d0, ds0, p0, q0, hargs, rfl, rfl, h0, r0⟩ := trodAll_cons hA
  obtain ⟨v1, vs1, d1, ds1, p1, q1, hargs1, rfl, rfl, h1, r1⟩ := trodAll_cons r0
  obtain ⟨rfl, rfl, rfl⟩ := trodAll_nil r1
  obtain rfl : args = #[v0, v1] := by cases args; simp_all
  obtain ⟨rfl, rfl⟩ := trodVars_none hV
  obtain ⟨s0, rfl, rfl, rfl, hs0⟩ := open_string Tryd.underlying9 (hval 0 9 v0 rfl rfl) h0
  obtain ⟨s1, rfl, rfl, rfl, hs1⟩ := open_string Tryd.underlying9 (hval 1 9 v1 rfl rfl) h1
  clear hA0
  simp only [List.append_nil] at hW'
  refine (division_any s0 s1 W hT).mono fun e W' ⟨he, hb⟩ => ?_
  subst he
  exact ⟨_, rfl, _, _, _, [], [], [], hW', (trodAll_cons_mk (shut_bool Tryd.underlying4 _) trodAll_mk0), (trodAll_cons_mk (shut_string Tryd.underlying9 hs0) (trodAll_cons_mk (shut_string Tryd.underlying9 hs1) trodAll_mk0)), rfl, hb.frame _, fun h => by cases h⟩

set_option maxRecDepth 100000 in
theorem division_lifted (os : Os) (started : os.Started) (H : Type) (enc : TypeId × Value → H) :
    ReturnsInHanded {} Tryd.checked os 6 .any (fun w args => (Rows.arithDivisionSpec.pre enc Tryd.prog Tryd.f6 [] false w args ∧ laidMetH Tryd.prog laidL w) ∧ sizedMet enc Tryd.prog Tryd.f6 (OpenSpec.ofChange Rows.arithDivisionSpec) false w args)
      (Rows.arithDivisionSpec.post enc Tryd.prog Tryd.f6 false true false false) := by
  refine returnsInHanded_of_change_and (C := Tryd.checked) (X := fun w _ => laidMetH Tryd.prog laidL w) (fun _ _ _ hh h => h.of_heap hh) ownL started (by kernel_rfl) Tryd.func6
    (ChangeSpec.witness_shaped (enc := enc) (C := Tryd.checked) (os := os) (X := fun w _ => laidMetH Tryd.prog laidL w) false (World.doorLaid Tryd.prog 62 os) #[.string ⟨#[]⟩, .string ⟨#[]⟩] 8 rfl (door_shaped os _) (by kernel_rfl) (by kernel_rfl) (by kernel_rfl) (door_met os _)) ?_
  intro W base args ds gs before hval hW _ _ hL _
  exact division_contract H enc W base args ds gs before hval hW (tabs_of_laid hL)

theorem division_said : Rows.ArithDivisionSaid :=
  OpenClaim.holds_of_wide 6 Tryd.f6 rfl rfl rfl rfl rfl rfl rfl ⟨rfl, rfl, rfl, rfl, rfl⟩ rfl rfl rfl rfl rfl (by kernel_rfl) Tryd.func6 (by kernel_rfl)
    (of_decide_eq_true (by kernel_rfl)) (by unfold Func.isWrapper; first | (rw [if_pos (by decide +kernel)]; kernel_rfl) | (rw [if_neg (by decide +kernel)]; exact ⟨rfl, rfl⟩))
    (fun os started H enc _ => division_lifted os started H enc)

theorem arithDivision_proved : Rows.ArithDivisionCardSaid :=
  Claim7.holds_tied_plain_at .later [] [.data, .data, .data, .sentinel, .sentinel] true Rows.arithDivisionCard.stood.harness true
    division_said (fun _ h => by cases h) (by kernel_rfl) (fun _ h => by cases h) arithDivision_row_tie rfl ⟨rfl, rfl⟩ (by kernel_rfl) rfl
    (fun f fn hf hfn => by
      obtain rfl : f = 6 := Option.some.inj ((show Tryd.prog.funcNamed "chiasmus/chiasmuslaw08.ArithDivision" = some 6 by kernel_rfl).symm.trans hf) |>.symm
      obtain rfl : fn = Tryd.f6 := (Option.some.inj (Tryd.func6.symm.trans hfn)).symm
      exact ⟨by kernel_rfl, fun j t ht => by
        rw [Tryd.params6] at ht
        have hm : t ∈ [9, 9] := by simpa using Array.mem_of_getElem? ht
        have hall : ([9, 9].all fun u => !Tryd.prog.wantsStandIn u) = true := by kernel_rfl
        exact (show Tryd.prog.wantsStandIn t = false by simpa using List.all_eq_true.1 hall t hm)⟩)
    (by kernel_rfl)
end Go.Proofs.YtngnaofbndpadaaDoor
