/- The law of roots returns true for every number and exponents. -/
import Derived.Test.YtngnaofbndpadaaDoorDivision
import Derived.Test.YtngnaofbndpadaaDoorPu
import Derived.Test.YtngnaofbndpadaaDoorLe
import Derived.Test.YtngnaofbndpadaaDoorCards
import Derived.Test.YtngnaofbndpadaaDoorTie
import Derived.OpenShut
import Derived.ChangeMaps5
import Derived.SevenTiedAt
/- The law of roots. -/
namespace Go.Proofs.YtngnaofbndpadaaDoor
open Go.RowKit Go.Proofs.ArM

theorem powN {m : Int} {k : Nat} (hm : Fits 500 m) (hk : Fits 500 (m ^ k)) (hk9 : k ≤ 1000) (w : World) (hT : Tabs w) : Calls Tryd.prog 16 #[.string (numB m), .int .i64 (k : Int)] w (OutT w (numT (m ^ k), 0)) := by
  have := aPower_any (numB m) (k : Int) w (numB_size hm) (by omega) (by omega) hT
  rwa [numB_list, powR, (text_valid hm.digs).1, (text_valid hm.digs).2, if_pos rfl, if_neg (by omega), Int.toNat_natCast, if_pos (by rw [← Int.natAbs_pow]; exact hk.digs)] at this
theorem rootNum {m k : Nat} (hm : Fits 500 (m : Int)) (hk1 : 1 ≤ k) (hk9 : k ≤ 1000) (w : World) (hT : Tabs w) : Calls Tryd.prog 18 #[.string (numB (m : Int)), .int .i64 (k : Int)] w (OutT w (numT (rootN m k : Nat), 0)) := by
  have := aRoot_any (numB (m : Int)) (k : Int) w (numB_size hm) (by omega) (by omega) hT
  rwa [numB_list, rootR, (text_valid hm.digs).1, (text_valid hm.digs).2, if_pos rfl, if_neg (by omega), if_neg (by omega), Int.toNat_natCast, Int.natAbs_natCast] at this

theorem root_exists {n : Nat} (hn : 1 ≤ n) : ∀ A : Nat, ∃ r, IsRoot A n r
  | 0 => ⟨0, by rw [Nat.zero_pow (by omega)]; exact Nat.le_refl _, by rw [Nat.zero_add, Nat.one_pow]; exact Nat.one_pos⟩
  | A + 1 => by
    obtain ⟨r, h1, h2⟩ := root_exists hn A
    by_cases h : (r + 1) ^ n ≤ A + 1
    · have h3 : (r + 1) ^ n < (r + 1 + 1) ^ n := Nat.pow_lt_pow_left (by omega) (by omega)
      exact ⟨r + 1, h, by omega⟩
    · exact ⟨r, by omega, by omega⟩
theorem root_is {n : Nat} (hn : 1 ≤ n) (A : Nat) : IsRoot A n (rootN A n) := by
  obtain ⟨r, h⟩ := root_exists hn A
  rw [rootN_eq h]; exact h
theorem root_pow {b n : Nat} (hn : 1 ≤ n) : rootN (b ^ n) n = b :=
  rootN_eq ⟨Nat.le_refl _, Nat.pow_lt_pow_left (by omega) (by omega)⟩

theorem Fits.pow {j k : Nat} {m : Int} (h : Fits j m) (hk : 1 ≤ k) : Fits (j * k) (m ^ k) := by
  induction k with
  | zero => omega
  | succ k ih =>
    rw [Int.pow_succ, Nat.mul_succ]
    rcases Nat.eq_zero_or_pos k with rfl | h0
    · simpa using h
    · exact (ih h0).mul h

def PowIs (x : ByteArray) (k : Nat) (z : ByteArray) : Prop := ∀ w, Tabs w → Calls Tryd.prog 16 #[.string x, .int .i64 (k : Int)] w (OutT w (z.data.toList, 0))
def RootIs (x : ByteArray) (k : Nat) (z : ByteArray) : Prop := ∀ w, Tabs w → Calls Tryd.prog 18 #[.string x, .int .i64 (k : Int)] w (OutT w (z.data.toList, 0))
def CmpIs (x y : ByteArray) (v : Int) : Prop := ∀ w, Calls Tryd.prog 27 #[.string x, .string y] w (OutN w (v, 0))
/-- some digits and no error -/
def OutDz (w : World) (zs : List Int) (e : Ending) (w' : World) : Prop := ∃ a c, e = .returned (.tuple #[.slice a zs.length c, .int .i64 0]) ∧ Sl w'.heap.size w' a c zs ∧ Below w.heap.size w w'
theorem outDz_of {w w' : World} {zs : List Int} {e : Ending} (h : OutDg w (zs, 0) e w') : OutDz w zs e w' := by
  rcases h with ⟨b, o, c, ys, rfl, hI, hz, hb⟩ | ⟨c, rfl, hz, hb⟩
  · obtain rfl : zs = ys := congrArg Prod.fst hz.out
    exact ⟨_, c, rfl, .mk hI, hb⟩
  · obtain rfl : zs = [] := congrArg Prod.fst hz.out
    obtain rfl : 0 = c := congrArg Prod.snd hz.out
    exact ⟨none, 0, rfl, Sl.nil, hb⟩
def DigIs (x : ByteArray) (k : Nat) (zs : List Int) : Prop := ∀ w, Calls Tryd.prog 30 #[.string x, .int .i64 (k : Int)] w (OutDz w zs)
def NumIs (zs : List Int) (k : Nat) (z : ByteArray) : Prop := ∀ a c w, Sl w.heap.size w a c zs → Tabs w → Calls Tryd.prog 31 #[.slice a zs.length c, .int .i64 (k : Int)] w (OutT w (z.data.toList, 0))

theorem powIs {m z : Int} {k : Nat} (hm : Fits 500 m) (hz : Fits 500 z) (h : m ^ k = z) (hk : k ≤ 1000) : PowIs (numB m) k (numB z) := fun w hT => by
  subst h; rw [numB_list]; exact powN hm hz hk w hT
theorem rootIs {m k r : Nat} (hm : Fits 500 (m : Int)) (hk1 : 1 ≤ k) (hk9 : k ≤ 1000) (h : rootN m k = r) : RootIs (numB (m : Int)) k (numB (r : Int)) := fun w hT => by
  subst h; rw [numB_list]; exact rootNum hm hk1 hk9 w hT
theorem cmpIs {m n v : Int} (hm : Fits 500 m) (hn : Fits 500 n) (h : ordZ m n = v) : CmpIs (numB m) (numB n) v := fun w => by
  subst h; exact cmpN hm hn w

theorem digNum {A : Int} {tb : Nat} (hA : Fits 30 A) (h2 : 2 ≤ tb) (h9 : tb ≤ 1000) : ∃ zs, DigIs (numB A) tb zs ∧ NumIs zs tb (numB (A.natAbs : Int)) := by
  have a5 : Fits 500 A := hA.mono (by omega)
  have hb := base_all h2 A.natAbs
  have hlt : A.natAbs < 2 ^ (4 * 30) := by
    have h1 : (A.natAbs : Int) < ((10 ^ 30 : Nat) : Int) := by rw [← p10_nat]; exact hA
    exact Nat.lt_of_lt_of_le (Int.ofNat_lt.1 h1) (pow_1016 30)
  have hlen := hb.2.2 _ hlt
  have hres : resB ((A.natAbs : Nat) : Int) = (numT (A.natAbs : Int), 0) := res_fits (Fits.abs a5)
  refine ⟨if A = 0 then [0] else baseDigs tb A.natAbs, ?_, ?_⟩
  · intro w
    have := aDigits_any (numB A) (tb : Int) w (numB_size a5)
    rw [numB_list, digR, (text_valid a5.digs).1, (text_valid a5.digs).2, if_pos rfl, if_neg (by omega), Int.toNat_natCast] at this
    by_cases h0 : A = 0
    · rw [if_pos h0] at this ⊢; exact this.mono fun _ _ h => outDz_of h
    · rw [if_neg h0] at this ⊢; exact this.mono fun _ _ h => outDz_of h
  · intro a c w hS hT
    have := aNumber_any a c _ (tb : Int) w hS hT
    rw [numB_list]
    by_cases h0 : A = 0
    · rw [if_pos h0] at this ⊢
      rw [numR, if_neg (by omega), if_neg (by simp), badDig, Int.toNat_natCast] at this
      subst h0
      have e : ([0] : List Int).any (fun d => decide (d < 0) || decide ((tb : Int) ≤ d)) = false := by simp; omega
      rw [e, if_neg (by simp)] at this
      have e2 : fb tb 0 [0] = 0 := by simp [fb]
      rw [e2] at this
      rw [← hres]; exact this
    · rw [if_neg h0] at this ⊢
      have e : badDig (tb : Int) (baseDigs tb A.natAbs) = false := by
        rw [badDig, List.any_eq_false]
        intro d hd
        have := hb.2.1 d hd
        simp; omega
      rw [numR, if_neg (by omega), if_neg (by omega), e, if_neg (by simp), Int.toNat_natCast, hb.1, hres] at this
      exact this

/-- all that the law of roots asks of a number -/
theorem roots_facts {A : Int} {p q tb : Nat} (hA : Fits 30 A) (hp : 1 ≤ p ∧ p ≤ 8) (hq : 1 ≤ q ∧ q ≤ 8) (ht : 2 ≤ tb ∧ tb ≤ 1000) :
    ∃ (x y z b xb r s lo hi : ByteArray) (zs : List Int) (i j : Int), Hid (PowIs (numB A) p x) ∧ Hid (PowIs (numB A) q y) ∧ Hid (PowIs (numB A) (p + q) z) ∧ Hid (MulIs x y z) ∧ Hid (AbsIs (numB A) b) ∧ Hid (PowIs b p xb) ∧ Hid (RootIs xb p b) ∧ Hid (RootIs b p r) ∧
      Hid (AddIs r ⟨#[49]⟩ s) ∧ Hid (PowIs r p lo) ∧ Hid (PowIs s p hi) ∧ Hid (CmpIs lo b i) ∧ Hid (CmpIs hi b j) ∧ ¬ 0 < i ∧ ¬ j ≤ 0 ∧ Hid (DigIs (numB A) tb zs) ∧ Hid (NumIs zs tb b) := by
  have f : ∀ {k : Nat} {m : Int}, Fits k m → k ≤ 500 → Fits 500 m := fun h hk => h.mono hk
  have hB : Fits 30 (A.natAbs : Int) := Fits.abs hA
  obtain ⟨zs, hz1, hz2⟩ := digNum hA ht.1 ht.2
  have e1 : (⟨#[49]⟩ : ByteArray) = numB 1 := by
    have : numT 1 = [49] := by
      rw [numT, show (1 : Int).natAbs = 1 from rfl, digs_pos (by omega), digs_zero]; rfl
    unfold numB; rw [this]
  have o5 : Fits 1 1 := by unfold Fits; decide
  have mulb : ∀ k : Nat, k ≤ 16 → 30 * k ≤ 500 := fun k h => by omega
  have hR := root_is hp.1 A.natAbs
  obtain ⟨r, hr⟩ : ∃ r, r = rootN A.natAbs p := ⟨_, rfl⟩
  rw [← hr] at hR
  have hrB : r ≤ A.natAbs := Nat.le_trans (Nat.le_self_pow (by omega) r) hR.1
  have hrF : Fits 30 (r : Int) := by unfold Fits at *; rw [Int.natAbs_natCast]; omega
  have hsF : Fits 31 ((r : Int) + 1) := hrF.add (o5.mono (by omega))
  have xb5 : Fits 500 (((A.natAbs ^ p : Nat) : Nat) : Int) := by
    rw [Int.natCast_pow]; exact f (hB.pow (by omega)) (mulb p (by omega))
  refine ⟨_, _, _, _, numB ((A.natAbs ^ p : Nat) : Int), numB (r : Int), numB ((r : Int) + 1), numB ((r : Int) ^ p), numB (((r : Int) + 1) ^ p), zs, ordZ ((r : Int) ^ p) (A.natAbs : Int), ordZ (((r : Int) + 1) ^ p) (A.natAbs : Int),
    Lib.hid (powIs (f hA (by omega)) (f (hA.pow (by omega)) (mulb p (by omega))) rfl (by omega)), Lib.hid (powIs (f hA (by omega)) (f (hA.pow (by omega)) (mulb q (by omega))) rfl (by omega)), Lib.hid (powIs (f hA (by omega)) (f (hA.pow (by omega)) (mulb (p + q) (by omega))) rfl (by omega)),
    Lib.hid (mulIs (f (hA.pow (by omega)) (mulb p (by omega))) (f (hA.pow (by omega)) (mulb q (by omega))) (f (hA.pow (by omega)) (mulb (p + q) (by omega))) (Int.pow_add A p q).symm), Lib.hid (absN A),
    Lib.hid (powIs (f hB (by omega)) xb5 (by rw [Int.natCast_pow]) (by omega)), Lib.hid (rootIs xb5 hp.1 (by omega) (root_pow hp.1)), Lib.hid (rootIs (f hB (by omega)) hp.1 (by omega) hr.symm),
    Lib.hid (e1 ▸ addIs (f hrF (by omega)) (f o5 (by omega)) (f hsF (by omega)) rfl), Lib.hid (powIs (f hrF (by omega)) (f (hrF.pow (by omega)) (mulb p (by omega))) rfl (by omega)), Lib.hid (powIs (f hsF (by omega)) (f (hsF.pow (by omega)) (by omega)) rfl (by omega)),
    Lib.hid (cmpIs (f (hrF.pow (by omega)) (mulb p (by omega))) (f hB (by omega)) rfl), Lib.hid (cmpIs (f (hsF.pow (by omega)) (by omega)) (f hB (by omega)) rfl), ?_, ?_, Lib.hid hz1, Lib.hid hz2⟩
  · have h1 : (r : Int) ^ p ≤ (A.natAbs : Int) := by
      have := hR.1
      rw [← Int.natCast_pow]; omega
    unfold ordZ
    split
    · omega
    · split <;> omega
  · have h1 : (A.natAbs : Int) < ((r : Int) + 1) ^ p := by
      have h2 : ((r + 1 : Nat) : Int) ^ p = ((r : Int) + 1) ^ p := by rw [Int.natCast_add]; rfl
      have := hR.2
      rw [← h2, ← Int.natCast_pow]; omega
    unfold ordZ
    rw [if_neg (by omega), if_pos h1]
    omega
/-- an int's text is that of an int -/
theorem textInt {k : Int} (h : -9223372036854775808 ≤ k ∧ k ≤ 9223372036854775807) : (numB k).size ≤ 1000000 ∧ intR (numB k).data.toList = (k, 0) := by
  have hf : Fits 19 k := by
    have e : p10 19 = 10000000000000000000 := rfl
    unfold Fits; rw [e]; omega
  have h5 := hf.mono (show 19 ≤ 500 by omega)
  refine ⟨numB_size h5, ?_⟩
  rw [numB_list, intR, (text_valid h5.digs).1, (text_valid h5.digs).2, if_pos rfl, if_pos h]

set_option maxHeartbeats 12800000 in
set_option maxRecDepth 100000 in
theorem roots_any (s : ByteArray) (n m bs k : Int) (w : World) (hn : 0 ≤ n ∧ n ≤ 255) (hm : 0 ≤ m ∧ m ≤ 255) (hbs : 0 ≤ bs ∧ bs ≤ 65535) (hk : -9223372036854775808 ≤ k ∧ k ≤ 9223372036854775807) (hT : Tabs w) (hE : ErrV w) :
    Calls Tryd.prog 7 #[.string s, .int .u8 n, .int .u8 m, .int .u16 bs, .int .i64 k] w (OutV w (.bool true)) := by
  have HT := Lib.hid hT
  have HE := Lib.hid hE
  clear hT hE
  by_cases hl : 30 < s.size
  · have hl2 : (30 : Int) < (s.size : Int) := by omega
    go_enter Tryd.func7, Tryd.ntmps7
    go_wp2_with fail
    refine (awake_any _ HT.out).mono ?_
    rintro e w2 ⟨rfl, hb2⟩
    go_wp2
    go_ret
    exact ⟨rfl, hb2⟩
  · have hl2 : ¬ (30 : Int) < (s.size : Int) := by omega
    have V0 := fun w => aValid_any s w (by omega)
    cases hv : validB s.data.toList
    · rw [hv] at V0
      have V := Lib.hid V0
      clear V0 hv
      go_enter Tryd.func7, Tryd.ntmps7
      go_wp2_with fail
      refine (V.out _).mono ?_
      rintro e w1 ⟨rfl, hb1⟩
      go_wp2_with fail
      refine (awake_any _ (HT.out.later hb1)).mono ?_
      rintro e w2 ⟨rfl, hb2⟩
      go_wp2
      go_ret
      exact ⟨rfl, hb1.trans (hb2.mono hb1.size)⟩
    · rw [hv] at V0
      have V := Lib.hid V0
      have hnum := num_of hv
      have hfit : Fits 30 (numOf s.data.toList) := by
        have e := (valid_text hv).1
        apply len_text
        rw [← e]
        have : s.data.toList.length = s.size := Array.length_toList
        omega
      obtain ⟨A, hA⟩ : ∃ A, A = numOf s.data.toList := ⟨_, rfl⟩
      rw [← hA] at hnum hfit
      obtain ⟨p, hp⟩ : ∃ p : Nat, 1 + n % 8 = (p : Int) := ⟨(1 + n % 8).toNat, by omega⟩
      obtain ⟨q, hq⟩ : ∃ q : Nat, 1 + m % 8 = (q : Int) := ⟨(1 + m % 8).toNat, by omega⟩
      obtain ⟨tb, htb⟩ : ∃ tb : Nat, 2 + bs % 999 = (tb : Int) := ⟨(2 + bs % 999).toNat, by omega⟩
      obtain ⟨x, y, z, b, xb, r, sx, lo, hi, zs, i, j, P1, P2, P3, M1, AB, P4, R1, R2, S1, P5, P6, C1, C2, hi0, hj0, D1, N1⟩ := roots_facts (p := p) (q := q) (tb := tb) hfit (by omega) (by omega) (by omega)
      rw [← hnum] at P1 P2 P3 AB D1
      clear V0 hv hnum hfit hA
      have hn8 : 0 ≤ n % 8 ∧ n % 8 < 8 := by omega
      have hm8 : 0 ≤ m % 8 ∧ m % 8 < 8 := by omega
      have hb8 : 0 ≤ bs % 999 ∧ bs % 999 < 999 := by omega
      have P3b := Lib.hid (show ∀ w, Tabs w → Calls Tryd.prog 16 #[.string s, .int .i64 ((p : Int) + (q : Int))] w (OutT w (z.data.toList, 0)) from fun w h => by
        have := P3.out w h
        rwa [Int.natCast_add] at this)
      have TK := Lib.hid (fun w hT => aText_any k w hk.1 hk.2 hT)
      have IK := Lib.hid (show ∀ w, ErrV w → Calls Tryd.prog 32 #[.string (numB k)] w (OutN w (k, 0)) from fun w hE => by
        have := aInt_any (numB k) w (textInt hk).1 hE
        rwa [(textInt hk).2] at this)
      have hp8 : (p : Int) ≤ 8 := by omega
      have hq8 : (q : Int) ≤ 8 := by omega
      clear P3
      go_enter Tryd.func7, Tryd.ntmps7
      go_wp2_with fail
      refine (V.out _).mono ?_
      rintro e w1 ⟨rfl, hb1⟩
      have hz1 := hb1
      go_wp2_with fail
      refine (P1.out w1 (HT.out.later hz1)).mono ?_
      rintro e w2 ⟨rfl, hb2⟩
      rw [back]
      have hz2 := hz1.trans (hb2.mono hz1.size)
      clear hb2
      go_wp2_with fail
      refine (P2.out w2 (HT.out.later hz2)).mono ?_
      rintro e w3 ⟨rfl, hb3⟩
      rw [back]
      have hz3 := hz2.trans (hb3.mono hz2.size)
      clear hb3
      go_wp2_with fail
      refine (P3b.out w3 (HT.out.later hz3)).mono ?_
      rintro e w4 ⟨rfl, hb4⟩
      rw [back]
      have hz4 := hz3.trans (hb4.mono hz3.size)
      clear hb4
      go_wp2_with fail
      refine (M1.out w4 (HT.out.later hz4)).mono ?_
      rintro e w5 ⟨rfl, hb5⟩
      rw [back]
      have hz5 := hz4.trans (hb5.mono hz4.size)
      clear hb5
      go_wp2_with fail
      refine (AB.out w5).mono ?_
      rintro e w6 ⟨rfl, hb6⟩
      have hz6 := hz5.trans (hb6.mono hz5.size)
      clear hb6
      go_wp2_with fail
      refine (P4.out w6 (HT.out.later hz6)).mono ?_
      rintro e w7 ⟨rfl, hb7⟩
      rw [back]
      have hz7 := hz6.trans (hb7.mono hz6.size)
      clear hb7
      go_wp2_with fail
      refine (R1.out w7 (HT.out.later hz7)).mono ?_
      rintro e w8 ⟨rfl, hb8⟩
      rw [back]
      have hz8 := hz7.trans (hb8.mono hz7.size)
      clear hb8
      go_wp2_with fail
      refine (R2.out w8 (HT.out.later hz8)).mono ?_
      rintro e w9 ⟨rfl, hb9⟩
      rw [back]
      have hz9 := hz8.trans (hb9.mono hz8.size)
      clear hb9
      go_wp2_with fail
      refine (S1.out w9 (HT.out.later hz9)).mono ?_
      rintro e w10 ⟨rfl, hb10⟩
      rw [back]
      have hz10 := hz9.trans (hb10.mono hz9.size)
      clear hb10
      go_wp2_with fail
      refine (P5.out w10 (HT.out.later hz10)).mono ?_
      rintro e w11 ⟨rfl, hb11⟩
      rw [back]
      have hz11 := hz10.trans (hb11.mono hz10.size)
      clear hb11
      go_wp2_with fail
      refine (P6.out w11 (HT.out.later hz11)).mono ?_
      rintro e w12 ⟨rfl, hb12⟩
      rw [back]
      have hz12 := hz11.trans (hb12.mono hz11.size)
      clear hb12
      go_wp2_with fail
      refine (C1.out w12).mono ?_
      rintro e w13 ⟨rfl, hb13⟩
      have hz13 := hz12.trans (hb13.mono hz12.size)
      clear hb13
      go_wp2_with fail
      refine (C2.out w13).mono ?_
      rintro e w14 ⟨rfl, hb14⟩
      have hz14 := hz13.trans (hb14.mono hz13.size)
      clear hb14
      go_wp2_with fail
      refine (D1.out w14).mono ?_
      rintro e w15 ⟨ad, cd, rfl, hSd, hb15⟩
      have hz15 := hz14.trans (hb15.mono hz14.size)
      have HN := Lib.hid (N1.out ad cd w15 hSd (HT.out.later hz15))
      clear hSd hb15
      go_wp2_with fail
      refine HN.out.mono ?_
      rintro e w16 ⟨rfl, hb16⟩
      rw [back]
      have hz16 := hz15.trans (hb16.mono hz15.size)
      go_wp2_with fail
      refine (TK.out w16 (HT.out.later hz16)).mono ?_
      rintro e w17 ⟨rfl, hb17⟩
      have hz17 := hz16.trans (hb17.mono hz16.size)
      go_wp2_with fail
      refine (IK.out w17 (HE.out.later hz17)).mono ?_
      rintro e w18 ⟨rfl, hb18⟩
      have hz18 := hz17.trans (hb18.mono hz17.size)
      go_wp2_with fail
      refine (awake_any w18 (HT.out.later hz18)).mono ?_
      rintro e w19 ⟨rfl, hb19⟩
      go_wp2
      go_ret
      exact ⟨rfl, hz18.trans (hb19.mono hz18.size)⟩
end Go.Proofs.YtngnaofbndpadaaDoor

/- The law ArithRoots returns true for every input: the row and its card. -/
namespace Go.Proofs.YtngnaofbndpadaaDoor
open Go.ChangeShapes Go.WideShapes Go.ChangeAt Go.RowKit Go.Proofs.ArM
open Go.ChangeMaps (open_string shut_string)

set_option maxRecDepth 100000 in
theorem roots_contract (H : Type) (enc : TypeId × Value → H) (W : World) (base : Nat) (args : Array Value) (ds gs : List (DataW H)) (before : List MemPlace)
    (hval : ∀ (j : Nat) t v, Tryd.f7.params[j]? = some t → args[j]? = some v → Value.okWide Tryd.prog W .any base t v)
    (hW : DataW.Whole enc Tryd.prog Tryd.f7.params.toList Rows.arithRootsSpec.vars false W args.toList ds gs before) (hT : Tabs W) (hE : ErrV W) :
    Calls Tryd.prog 7 args W fun e W' => ∃ v, e = .returned v ∧ Rows.arithRootsSpec.post enc Tryd.prog Tryd.f7 false true false false W args v W' := by
  have hW' := hW
  obtain ⟨p, q, hA0, hV, rfl, hfz, hnd⟩ := hW
  have hA : DataW.TrodAll enc Tryd.prog W 0 (fun _ => true) true Tryd.f7.params.toList args.toList ds p := hA0
  rw [Tryd.params7] at hA hval
  obtain ⟨v0, vs0, d0, ds0, p0, q0, hargs, rfl, rfl, h0, r0⟩ := trodAll_cons hA
  obtain ⟨v1, vs1, d1, ds1, p1, q1, hargs1, rfl, rfl, h1, r1⟩ := trodAll_cons r0
  obtain ⟨v2, vs2, d2, ds2, p2, q2, hargs2, rfl, rfl, h2, r2⟩ := trodAll_cons r1
  obtain ⟨v3, vs3, d3, ds3, p3, q3, hargs3, rfl, rfl, h3, r3⟩ := trodAll_cons r2
  obtain ⟨v4, vs4, d4, ds4, p4, q4, hargs4, rfl, rfl, h4, r4⟩ := trodAll_cons r3
  obtain ⟨rfl, rfl, rfl⟩ := trodAll_nil r4
  obtain rfl : args = #[v0, v1, v2, v3, v4] := by cases args; simp_all
  obtain ⟨rfl, rfl⟩ := trodVars_none hV
  obtain ⟨s0, rfl, rfl, rfl, hs0⟩ := open_string Tryd.underlying9 (hval 0 9 v0 rfl rfl) h0
  obtain ⟨n1, rfl, rfl, rfl, hs1⟩ := open_int Tryd.underlying5 (hval 1 5 v1 rfl rfl) h1
  have hx1 : 0 ≤ n1 ∧ n1 ≤ 255 := by simpa [Lit.wf, IntKind.min, IntKind.max, IntKind.signed, IntKind.bits] using hs1
  obtain ⟨n2, rfl, rfl, rfl, hs2⟩ := open_int Tryd.underlying5 (hval 2 5 v2 rfl rfl) h2
  have hx2 : 0 ≤ n2 ∧ n2 ≤ 255 := by simpa [Lit.wf, IntKind.min, IntKind.max, IntKind.signed, IntKind.bits] using hs2
  obtain ⟨n3, rfl, rfl, rfl, hs3⟩ := open_int Tryd.underlying39 (hval 3 39 v3 rfl rfl) h3
  have hx3 : 0 ≤ n3 ∧ n3 ≤ 65535 := by simpa [Lit.wf, IntKind.min, IntKind.max, IntKind.signed, IntKind.bits] using hs3
  obtain ⟨n4, rfl, rfl, rfl, hs4⟩ := open_int Tryd.underlying3 (hval 4 3 v4 rfl rfl) h4
  have hx4 : -9223372036854775808 ≤ n4 ∧ n4 ≤ 9223372036854775807 := by simpa [Lit.wf, IntKind.min, IntKind.max, IntKind.signed, IntKind.bits] using hs4
  clear hA0
  simp only [List.append_nil] at hW'
  refine (roots_any s0 n1 n2 n3 n4 W hx1 hx2 hx3 hx4 hT hE).mono fun e W' ⟨he, hb⟩ => ?_
  subst he
  exact ⟨_, rfl, _, _, _, [], [], [], hW', (trodAll_cons_mk (shut_bool Tryd.underlying4 _) trodAll_mk0), (trodAll_cons_mk (shut_string Tryd.underlying9 hs0) (trodAll_cons_mk (shut_int Tryd.underlying5 hs1) (trodAll_cons_mk (shut_int Tryd.underlying5 hs2) (trodAll_cons_mk (shut_int Tryd.underlying39 hs3) (trodAll_cons_mk (shut_int Tryd.underlying3 hs4) trodAll_mk0))))), rfl, hb.frame _, fun h => by cases h⟩

set_option maxRecDepth 100000 in
theorem roots_lifted (os : Os) (started : os.Started) (H : Type) (enc : TypeId × Value → H) :
    ReturnsInHanded {} Tryd.checked os 7 .any (fun w args => (Rows.arithRootsSpec.pre enc Tryd.prog Tryd.f7 [] false w args ∧ laidMetH Tryd.prog laidL w) ∧ sizedMet enc Tryd.prog Tryd.f7 (OpenSpec.ofChange Rows.arithRootsSpec) false w args)
      (Rows.arithRootsSpec.post enc Tryd.prog Tryd.f7 false true false false) := by
  refine returnsInHanded_of_change_and (C := Tryd.checked) (X := fun w _ => laidMetH Tryd.prog laidL w) (fun _ _ _ hh h => h.of_heap hh) ownL started (by kernel_rfl) Tryd.func7
    (ChangeSpec.witness_shaped (enc := enc) (C := Tryd.checked) (os := os) (X := fun w _ => laidMetH Tryd.prog laidL w) false (World.doorLaid Tryd.prog 62 os) #[.string ⟨#[]⟩, .int .u8 0, .int .u8 0, .int .u16 0, .int .i64 0] 8 rfl (door_shaped os _) (by kernel_rfl) (by kernel_rfl) (by kernel_rfl) (door_met os _)) ?_
  intro W base args ds gs before hval hW _ _ hL _
  exact roots_contract H enc W base args ds gs before hval hW (tabs_of_laid hL) (errv_of_laid hL)

theorem roots_said : Rows.ArithRootsSaid :=
  OpenClaim.holds_of_wide 7 Tryd.f7 rfl rfl rfl rfl rfl rfl rfl ⟨rfl, rfl, rfl, rfl, rfl⟩ rfl rfl rfl rfl rfl (by kernel_rfl) Tryd.func7 (by kernel_rfl)
    (of_decide_eq_true (by kernel_rfl)) (by unfold Func.isWrapper; first | (rw [if_pos (by decide +kernel)]; kernel_rfl) | (rw [if_neg (by decide +kernel)]; exact ⟨rfl, rfl⟩))
    (fun os started H enc _ => roots_lifted os started H enc)

theorem arithRoots_proved : Rows.ArithRootsCardSaid :=
  Claim7.holds_tied_plain_at .later [] [.data, .data, .data, .sentinel, .sentinel] true Rows.arithRootsCard.stood.harness true
    roots_said (fun _ h => by cases h) (by kernel_rfl) (fun _ h => by cases h) arithRoots_row_tie rfl ⟨rfl, rfl⟩ (by kernel_rfl) rfl
    (fun f fn hf hfn => by
      obtain rfl : f = 7 := Option.some.inj ((show Tryd.prog.funcNamed "chiasmus/chiasmuslaw08.ArithRoots" = some 7 by kernel_rfl).symm.trans hf) |>.symm
      obtain rfl : fn = Tryd.f7 := (Option.some.inj (Tryd.func7.symm.trans hfn)).symm
      exact ⟨by kernel_rfl, fun j t ht => by
        rw [Tryd.params7] at ht
        have hm : t ∈ [9, 5, 5, 39, 3] := by simpa using Array.mem_of_getElem? ht
        have hall : ([9, 5, 5, 39, 3].all fun u => !Tryd.prog.wantsStandIn u) = true := by kernel_rfl
        exact (show Tryd.prog.wantsStandIn t = false by simpa using List.all_eq_true.1 hall t hm)⟩)
    (by kernel_rfl)
end Go.Proofs.YtngnaofbndpadaaDoor
