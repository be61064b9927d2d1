/- Roots. -/
import Derived.Test.YtngnaofbndpadaaDoorPc
import Derived.Test.YtngnaofbndpadaaDoorPf
import Derived.Test.YtngnaofbndpadaaDoorPg
/- Powers of ten, and the search for a root. -/
namespace Go.Proofs.YtngnaofbndpadaaDoor
open Go.RowKit Go.Proofs.ArM

theorem Lten (n : Nat) : List.replicate (n / 4) 0 ++ [((10 ^ (n % 4) : Nat) : Int)] = Ldigs (10 ^ n) := by
  have hp : 10 ^ (n % 4) ≤ 10 ^ 3 := Nat.pow_le_pow_right (by omega) (show n % 4 ≤ 3 by omega)
  have hp0 : 0 < 10 ^ (n % 4) := Nat.pow_pos (by omega)
  apply Lcanon_eq
  · refine ⟨(Ldig_replicate _).append (LDig.cons (by omega) LDig.nil), ?_⟩
    have h2 : ((10 ^ (n % 4) : Nat) : Int) ≠ 0 := by omega
    rw [List.getLast?_append]
    intro h
    exact h2 (by simpa using h)
  · rw [Lval_snoc, Lval_replicate, List.length_replicate, Lp10_four, p10_nat, Int.zero_add, ← Int.natCast_mul, ← Nat.pow_add, Nat.div_add_mod]

set_option maxHeartbeats 3200000 in
set_option maxRecDepth 100000 in
theorem pten_any (n : Nat) (w : World) (hn : n ≤ 100000) :
    Calls Tryd.prog 57 #[.int .i64 (n : Int)] w (OutK w (10 ^ n)) := by
  obtain ⟨i0, hi, hz0, hz1, hz2⟩ := info_parts Tryd.info3
  have HL := Lib.hid (Lten n)
  obtain ⟨S, hS⟩ : ∃ S, S = n / 4 := ⟨_, rfl⟩
  obtain ⟨r, hr⟩ : ∃ r, r = n % 4 := ⟨_, rfl⟩
  have hS4 : (n : Int) / 4 = (S : Int) := by omega
  have hr4 : (n : Int) % 4 = (r : Int) := by omega
  have hr3 : r ≤ 3 := by omega
  have hS1 : S ≤ 100000 := by omega
  rw [← hS, ← hr] at HL
  clear hS hr
  go_enter Tryd.func57, Tryd.ntmps57
  go_wp2_with (at_make; refine wpList_make_full _ rfl _ _ 51 rfl w.heap.size 3 i0 (.int .i64 0) 1 Tryd.underlying51 hi hz0 hz1 _ _ _ _ S rfl rfl rfl rfl (by rw [hz2]; omega) (by unfold maxLen; omega) (Nat.le_refl _) ?_; intro w1 hown1 hgrow1)
  have hos0 : (madeCells (Value.int .i64 0).cells (S * 1)).toList = (List.replicate S (0 : Int)).map (Value.int .i64) := by
    rw [Nat.mul_one, show (Value.int .i64 0).cells = #[Value.int .i64 0] from rfl, toList_madeCells_one]; simp
  rw [hos0] at hown1
  clear hos0
  have hbl1 : Below w.heap.size w w1 := (Below.refl _ _).grown hgrow1 (Nat.le_refl _) (fun j hj => by cases hj)
  clear hgrow1
  go_loopw [4, 10] (fun t i wr => ∃ (k p : Nat), i = .int .i64 (k : Int) ∧ k ≤ r ∧ t = .int .i64 (p : Int) ∧ Hid (p = 10 ^ k) ∧ w1 = wr) (fun _ i _ => r - (intOf i).toNat)
  case atStart => exact ⟨0, 1, rfl, Nat.zero_le _, rfl, Lib.hid rfl, rfl⟩
  case round =>
    obtain ⟨k, p, rfl, hk, rfl, hp, rfl⟩ := hrel
    have hp3 : p ≤ 1000 := by
      have := Nat.pow_le_pow_right (n := 10) (by omega) (show k ≤ 3 by omega)
      rw [hp.out]; omega
    by_cases hkr : k < r
    · go_wp2
      go_roundw
      case rel => exact ⟨k + 1, p * 10, by go_num, by omega, by go_num, Lib.hid (by rw [hp.out, Nat.pow_succ]), by first | rfl | trivial⟩
      case measure => simp [intOf]; omega
    · obtain rfl : k = r := by omega
      go_wp2_with (at_builtin; refine wpList_append_own _ rfl (.tmp 15) (.tmp 17) 51 rfl w.heap.size 3 i0 (.int .i64 0) 1 8 Tryd.underlying51 hi hz0 hz1 hz2 rfl (by decide) _ _ _ rfl (hown1.alloc _) ⟨w1.heap.size, 0, none⟩ 1 1 [.int .i64 _] rfl rfl (cell_one_new _ _ _) (by intro u hu; simp at hu; subst hu; rfl) (by unfold maxLen; omega) (by omega) (by have := hbl1.size; simp; omega) ?_; intro v' w2 hown' hgrow hnil; clear hnil; obtain ⟨g2, cap2, rfl, hg2⟩ := own_shape hown' (by omega))
      have hB := (hbl1.alloc (Nat.le_trans hbl1.size (Nat.le_refl _)) _).grown hgrow (by have := hbl1.size; simp; omega) (fun j hj => (hown1.lt j hj).1)
      have hS2 : Sl w2.heap.size w2 (some ⟨g2, 0, none⟩) cap2 (List.replicate S 0 ++ [(p : Int)]) := sl_of_row (by simpa using hown')
      have hl2 : S + 1 = (List.replicate S (0 : Int) ++ [(p : Int)]).length := by simp
      go_wp2
      go_ret
      exact ⟨_, _, List.replicate S 0 ++ [(p : Int)], by rw [← hl2]; rfl, hS2, Lib.hid (by rw [hp.out]; exact HL.out), hB, Lib.hid (new_at hg2)⟩

set_option maxHeartbeats 3200000 in
set_option maxRecDepth 100000 in
theorem proot1_any (p q : Nat) (a az : Option Addr) (c cs : Nat) (xs ss : List Int) (x k A : Nat) (w : World) (hp : w.cell? ⟨p, 0, none⟩ = some (.int .i64 (k : Int))) (hq : w.cell? ⟨q, 0, none⟩ = some (.slice az ss.length cs)) (hqw : q < w.heap.size)
    (hA : Sl w.heap.size w az cs ss) (hs : ss = Ldigs A) (hsl : ss.length ≤ 125) (hX : Sl w.heap.size w a c xs) (hx : xs = Ldigs x) (hxl : xs.length ≤ 125) (hk : k ≤ 1000) :
    Calls Tryd.prog 55 #[.slice a xs.length c, .pointer (some ⟨p, 0, none⟩), .pointer (some ⟨q, 0, none⟩)] w (OutV w (.bool (decide (x ^ k ≤ A)))) := by
  have PW := Lib.hid (ppow_any a c xs x k w hX hx (by omega) hxl)
  have HA := Lib.hid hA
  have HS := Lib.hid hs
  have HQ := Lib.hid hq
  clear hA hs hX hx hq
  go_enter Tryd.func55, Tryd.ntmps55
  go_wp2_with fail
  refine PW.out.mono ?_
  intro e w2 h2
  rcases h2 with ⟨a2, c2, zs, rfl, hS2, hzs, hzl, hb2⟩ | ⟨rfl, hlg, hb2⟩
  · have hq2 := (hb2.cell (p := ⟨q, 0, none⟩) hqw).trans HQ.out
    have hC := pcmp_any a2 az c2 cs zs ss w2 hS2 (HA.out.later hb2) (by rw [hzs.out]; exact Lcanon_digs _) (by rw [HS.out]; exact Lcanon_digs _) (by omega) (by omega)
    rw [show Lval zs = ((x ^ k : Nat) : Int) from by rw [hzs.out, Lval_digs], show Lval ss = (A : Int) from by rw [HS.out, Lval_digs]] at hC
    obtain ⟨v, hv⟩ : ∃ v, v = LordZ ((x ^ k : Nat) : Int) (A : Int) := ⟨_, rfl⟩
    rw [← hv] at hC
    have C := Lib.hid hC
    have HV := Lib.hid (show decide (v ≤ 0) = decide (x ^ k ≤ A) from by
      rw [hv, Bool.eq_iff_iff, decide_eq_true_eq, decide_eq_true_eq]
      rcases Nat.lt_trichotomy (x ^ k) A with h | h | h
      · rw [LordZ_lt (by omega)]; omega
      · rw [LordZ_eq (by omega)]; omega
      · rw [LordZ_gt (by omega)]; omega)
    clear hC hv hS2
    go_wp2_with fail
    refine C.out.mono ?_
    rintro e w3 ⟨rfl, hb3⟩
    go_wp2
    go_ret
    exact ⟨by rw [← HV.out]; rfl, hb2.trans (hb3.mono hb2.size)⟩
  · have HV := Lib.hid (show decide (x ^ k ≤ A) = false from decide_eq_false (fun h => by
      have h1 := Ldigs_mono h
      rw [← HS.out] at h1
      have := hlg.out
      omega))
    go_wp2
    go_ret
    exact ⟨by rw [HV.out]; rfl, hb2⟩

/-- a root -/
def OutRt (w : World) (A k B : Nat) (e : Ending) (w' : World) : Prop :=
  ∃ a c xs r, e = .returned (.slice a xs.length c) ∧ Sl w'.heap.size w' a c xs ∧ Hid (xs = Ldigs r) ∧ Hid (IsRoot A k r) ∧ Hid (r < B) ∧ Below w.heap.size w w'

set_option maxHeartbeats 6400000 in
set_option maxRecDepth 100000 in
theorem pgreatest_any (p q : Nat) (a : Option Addr) (c : Nat) (bs : List Int) (B k A : Nat) (w : World) (hS : Sl w.heap.size w a c bs) (hb : bs = Ldigs B) (hl : bs.length ≤ 126) (hB : A < B ^ k) (h0 : 0 ^ k ≤ A)
    (hF : ∀ (a : Option Addr) (c : Nat) (xs : List Int) (x : Nat) (w' : World), Below w.heap.size w w' → Sl w'.heap.size w' a c xs → xs = Ldigs x → x < B → Calls Tryd.prog 55 #[.slice a xs.length c, .pointer (some ⟨p, 0, none⟩), .pointer (some ⟨q, 0, none⟩)] w' (OutV w' (.bool (decide (x ^ k ≤ A))))) :
    Calls Tryd.prog 58 #[.slice a bs.length c, .func (.func 55) #[] #[.pointer (some ⟨p, 0, none⟩), .pointer (some ⟨q, 0, none⟩)]] w (OutRt w A k B) := by
  have HF := Lib.hid hF
  have HS := Lib.hid hS
  have HBS := Lib.hid hb
  have HB := Lib.hid hB
  have H0 := Lib.hid h0
  have hBp : 0 < B := Nat.pos_of_ne_zero (fun h => by subst h; omega)
  have HBL := Lib.hid (show (B : Int) < Lp10 126 from Int.lt_of_lt_of_le (Ldigs_lt B) (Lp10_mono (by rw [← hb]; exact hl)))
  have hlen : ∀ m : Nat, m ≤ 2 * B → (Ldigs m).length ≤ 127 := fun m hm => Ldigs_len (by
    have h1 := HBL.out
    have h2 : Lp10 127 = 10000 * Lp10 126 := rfl
    have h3 := Lp10_pos 126
    omega)
  have HLEN := Lib.hid hlen
  clear hF hS hb hB h0 hlen hl
  go_enter Tryd.func58, Tryd.ntmps58
  go_wp2_with fail
  go_loopg [0, 5] B (fun M hv lv wr => ∃ (L H : Nat) (ah al : Option Addr) (ch cl : Nat) (hs ls : List Int), M = H - L ∧ L < H ∧ H ≤ B ∧ hv = .slice ah hs.length ch ∧ lv = .slice al ls.length cl ∧ Hid (Sl wr.heap.size wr ah ch hs) ∧ Hid (Sl wr.heap.size wr al cl ls) ∧ Hid (hs = Ldigs H) ∧ Hid (ls = Ldigs L) ∧ Hid (L ^ k ≤ A) ∧ Hid (A < H ^ k) ∧ Below w.heap.size w wr)
  case atStart => exact ⟨0, B, a, none, c, 0, bs, [], by omega, hBp, Nat.le_refl _, rfl, rfl, HS, Lib.hid Sl.nil, HBS, Lib.hid Ldigs_zero.symm, H0, HB, Below.refl _ _⟩
  case round =>
    obtain ⟨L, H, ah, al, ch, cl, hs, ls, rfl, hLH, hHB, rfl, rfl, hSh, hSl, hhs, hls, hLA, hHA, hbl⟩ := hrel
    have PP := Lib.hid (pplus_any al ah cl ch ls hs L H wr hSl.out hSh.out hls.out hhs.out (by rw [hls.out]; have := HLEN.out L (by omega); omega) (by rw [hhs.out]; have := HLEN.out H (by omega); omega))
    go_wp2_with fail
    refine PP.out.mono ?_
    rintro e w2 ⟨a2, c2, ms, rfl, hS2, hms, hb2, _⟩
    have hbl2 := hbl.trans (hb2.mono hbl.size)
    have DS : Hid (Calls Tryd.prog 66 #[.slice a2 ms.length c2, .int .i64 2] w2 (OutDs w2 (L + H) 2)) := Lib.hid (pds_any a2 c2 ms (L + H) 2 w2 hS2 hms.out (by omega) (by omega) (by rw [hms.out]; have := HLEN.out (L + H) (by omega); omega))
    have HSL2 := Lib.hid (hSl.out.later hb2)
    have HSH2 := Lib.hid (hSh.out.later hb2)
    clear hS2 hb2 hbl
    go_wp2_with fail
    refine DS.out.mono ?_
    rintro e w3 ⟨a3, c3, qs, rfl, hS3, hqs, hb3⟩
    have hbl3 := hbl2.trans (hb3.mono hbl2.size)
    obtain ⟨M, hM⟩ : ∃ M, M = (L + H) / 2 := ⟨_, rfl⟩
    have hM1 : L ≤ M := by omega
    have hM2 : M < H := by omega
    rw [← hM] at hqs
    have HS3 := Lib.hid hS3
    have HSL3 := Lib.hid (HSL2.out.later hb3)
    have HSH3 := Lib.hid (HSH2.out.later hb3)
    have hC := pcmp_any a3 al c3 cl qs ls w3 hS3 HSL3.out (by rw [hqs.out]; exact Lcanon_digs _) (by rw [hls.out]; exact Lcanon_digs _) (by rw [hqs.out]; have := HLEN.out M (by omega); omega) (by rw [hls.out]; have := HLEN.out L (by omega); omega)
    rw [show Lval qs = (M : Int) from by rw [hqs.out, Lval_digs], show Lval ls = (L : Int) from by rw [hls.out, Lval_digs]] at hC
    clear hS3 hbl2 hb3
    by_cases hML : M = L
    · rw [LordZ_eq (by omega)] at hC
      have C := Lib.hid hC
      have HR := Lib.hid (show IsRoot A k L from ⟨hLA.out, by have := hHA.out; rwa [show L + 1 = H from by omega]⟩)
      clear hC hM
      go_wp2_with fail
      refine C.out.mono ?_
      rintro e w4 ⟨rfl, hb4⟩
      have hS4 := HSL3.out.later hb4
      go_wp2
      go_ret
      exact ⟨al, cl, ls, L, rfl, hS4, hls, HR, Lib.hid (by omega), hbl3.trans (hb4.mono hbl3.size)⟩
    · rw [LordZ_gt (by omega)] at hC
      have C := Lib.hid hC
      clear hC hM
      go_wp2_with fail
      refine C.out.mono ?_
      rintro e w4 ⟨rfl, hb4⟩
      have hbl4 := hbl3.trans (hb4.mono hbl3.size)
      have FT := HF.out a3 c3 qs M w4 hbl4 (HS3.out.later hb4) hqs.out (by omega)
      have HS4 := Lib.hid (HS3.out.later hb4)
      have HSL4 := Lib.hid (HSL3.out.later hb4)
      have HSH4 := Lib.hid (HSH3.out.later hb4)
      clear hb4 hbl3
      by_cases hfit : M ^ k ≤ A
      · rw [decide_eq_true hfit] at FT
        have T := Lib.hid FT
        have HFIT := Lib.hid hfit
        clear FT hfit
        go_wp2_with fail
        refine T.out.mono ?_
        rintro e w5 ⟨rfl, hb5⟩
        have hbl5 := hbl4.trans (hb5.mono hbl4.size)
        have HQ5 := Lib.hid (HS4.out.later hb5)
        have HH5 := Lib.hid (HSH4.out.later hb5)
        clear hb5 hbl4
        go_wp2
        go_roundg (H - M)
        case measure => omega
        case rel => exact ⟨M, H, ah, a3, ch, c3, hs, qs, rfl, hM2, hHB, rfl, rfl, HH5, HQ5, hhs, hqs, HFIT, hHA, hbl5⟩
      · rw [decide_eq_false hfit] at FT
        have T := Lib.hid FT
        have HFIT := Lib.hid (show A < M ^ k from by omega)
        clear FT hfit
        go_wp2_with fail
        refine T.out.mono ?_
        rintro e w5 ⟨rfl, hb5⟩
        have hbl5 := hbl4.trans (hb5.mono hbl4.size)
        have HQ5 := Lib.hid (HS4.out.later hb5)
        have HL5 := Lib.hid (HSL4.out.later hb5)
        clear hb5 hbl4
        go_wp2
        go_roundg (M - L)
        case measure => omega
        case rel => exact ⟨L, M, a3, al, c3, cl, qs, ls, rfl, by omega, by omega, rfl, rfl, HQ5, HL5, hqs, hls, hLA, HFIT, hbl5⟩
end Go.Proofs.YtngnaofbndpadaaDoor

/- The program's root. -/
namespace Go.Proofs.YtngnaofbndpadaaDoor
open Go.RowKit Go.Proofs.ArM

theorem ten_lt {E k : Nat} (h : E < 4 * k) : ((10 ^ E : Nat) : Int) < Lp10 k := by
  rw [Lp10_four, p10_nat]
  exact Int.ofNat_lt.2 (Nat.pow_lt_pow_right (by decide) h)
theorem below_p10 {x E k : Nat} (h : x < 10 ^ E) (hk : E ≤ k) : (x : Int) < p10 k := by
  rw [p10_nat]
  exact Int.ofNat_lt.2 (Nat.lt_of_lt_of_le h (Nat.pow_le_pow_right (by decide) hk))
theorem below_ten {x E k : Nat} (h : x < 10 ^ E) (hk : E ≤ 4 * k) : (x : Int) < Lp10 k := by
  rw [Lp10_four]; exact below_p10 h hk

theorem root_len {m : Int} {s : List UInt8} (hv : validB s = true) (hm : m = numOf s) : m.natAbs < 10 ^ s.length := by
  have e := (valid_text hv).1
  rw [← hm] at e
  have hl : (digs m.natAbs).length ≤ s.length := by
    rw [e, numT, textOf]
    split
    · rename_i h; rw [h]; simp
    · rw [List.length_append, List.length_map, List.length_reverse]; omega
  have h1 := digs_lt m.natAbs
  have h2 := p10_mono hl
  have h4 : (m.natAbs : Int) < ((10 ^ s.length : Nat) : Int) := by rw [← p10_nat]; omega
  exact Int.ofNat_lt.1 h4

theorem root_size {m : Int} {s : List UInt8} (hv : validB s = true) (hm : m = numOf s) (h0 : ¬ m < 0) (h5 : (digs m.natAbs).length ≤ 500) : s.length ≤ 500 := by
  have e := (valid_text hv).1
  rw [← hm, numT, textOf, decide_eq_false h0] at e
  rw [e]
  split
  · simp
  · simpa using h5

theorem root_div {a k : Nat} (ha : a ≤ 500) (hk : 0 < k) : (a + k - 1) / k ≤ 500 := by
  rw [Nat.div_le_iff_le_mul_add_pred hk]
  have : 500 * 1 ≤ k * 500 := by rw [Nat.mul_comm k]; exact Nat.mul_le_mul_left _ hk
  omega

theorem root_top {A l k : Nat} (hA : A < 10 ^ l) (hk : 0 < k) : A < (10 ^ ((l + k - 1) / k)) ^ k := by
  rw [← Nat.pow_mul]
  refine Nat.lt_of_lt_of_le hA (Nat.pow_le_pow_right (by omega) ?_)
  have := Nat.div_add_mod (l + k - 1) k
  have h2 := Nat.mod_lt (l + k - 1) hk
  rw [Nat.mul_comm]
  omega

theorem rd1b_ok (s : ByteArray) (s1 : Bool) (hs : s.size ≤ 1000000) (hv : validB s.data.toList = true) (h1 : s1 = decide (numOf s.data.toList < 0)) (w : World) (v : Value) (ty ty' : TypeId) :
    Calls Tryd.prog 45 #[.slice (some ⟨w.heap.size + 1, 0, none⟩) 1 1] ((w.alloc (.cells #[v] ty)).alloc (.cells #[.string s] ty')) (OutR1 ((w.alloc (.cells #[v] ty)).alloc (.cells #[.string s] ty')) (numOf s.data.toList) s1) := by
  have h := rd1_ok s s1 hs hv h1 (w.alloc (.cells #[v] ty)) ty'
  rwa [show (w.alloc (.cells #[v] ty)).heap.size = w.heap.size + 1 from by simp] at h
theorem rd1b_no (s : ByteArray) (hs : s.size ≤ 1000000) (hv : validB s.data.toList = false) (w : World) (v : Value) (ty ty' : TypeId) :
    Calls Tryd.prog 45 #[.slice (some ⟨w.heap.size + 1, 0, none⟩) 1 1] ((w.alloc (.cells #[v] ty)).alloc (.cells #[.string s] ty')) (OutRN ((w.alloc (.cells #[v] ty)).alloc (.cells #[.string s] ty'))) := by
  have h := rd1_no s hs hv (w.alloc (.cells #[v] ty)) ty'
  rwa [show (w.alloc (.cells #[v] ty)).heap.size = w.heap.size + 1 from by simp] at h

set_option maxHeartbeats 12800000 in
set_option maxRecDepth 100000 in
theorem aRoot_any (s : ByteArray) (n : Int) (w : World) (hs : s.size ≤ 1000000) (hn : -9223372036854775808 ≤ n) (hn' : n ≤ 9223372036854775807) (hT : Tabs w) :
    Calls Tryd.prog 18 #[.string s, .int .i64 n] w (OutT w (rootR s.data.toList n)) := by
  have hbB : Below w.heap.size w (w.alloc (.cells #[.int .i64 n] 3)) := (Below.refl _ _).alloc (Nat.le_refl _) _
  have hbA : Below w.heap.size w ((w.alloc (.cells #[.int .i64 n] 3)).alloc (.cells #[.string s] 9)) := hbB.alloc hbB.size _
  have hszA : w.heap.size < ((w.alloc (.cells #[.int .i64 n] 3)).alloc (.cells #[.string s] 9)).heap.size := by simp; omega
  have hcA : ((w.alloc (.cells #[.int .i64 n] 3)).alloc (.cells #[.string s] 9)).cell? ⟨w.heap.size, 0, none⟩ = some (.int .i64 n) := by
    have h1 : (w.alloc (.cells #[.int .i64 n] 3)).cell? ⟨w.heap.size, 0, none⟩ = some (.int .i64 n) := by rw [World.cell?_alloc_at _ _ _ _ (by simp)]; rfl
    have h2 := ((Below.refl (w.alloc (.cells #[.int .i64 n] 3)).heap.size (w.alloc (.cells #[.int .i64 n] 3))).alloc (Nat.le_refl _) (.cells #[.string s] 9)).cell (p := ⟨w.heap.size, 0, none⟩) (by simp)
    exact h2.trans h1
  have HBA := Lib.hid hbA
  have HSA := Lib.hid hszA
  have HCA := Lib.hid hcA
  have HT := Lib.hid hT
  clear hT hbB hbA hszA hcA
  cases hv : validB s.data.toList
  · have R := Lib.hid (rd1b_no s hs hv w (.int .i64 n) 3 9)
    have hr := Lib.hid (show rootR s.data.toList n = ([], 2) from by rw [rootR, hv]; rfl)
    clear hv
    go_enter Tryd.func18, Tryd.ntmps18
    go_wp2_with fail
    refine R.out.mono ?_
    rintro e w2 ⟨rfl, hb2⟩
    go_wp2
    go_ret2
    exact outT_of (by rw [hr.out]) (by rw [hr.out]) (HBA.out.trans (hb2.mono HBA.out.size))
  · obtain ⟨s1, hs1⟩ : ∃ s1, s1 = decide (numOf s.data.toList < 0) := ⟨_, rfl⟩
    have R := Lib.hid (rd1b_ok s s1 hs hv hs1 w (.int .i64 n) 3 9)
    have L1 := Lib.hid (len_125 (num_len hv))
    have V := Lib.hid hv
    have HL500 := Lib.hid (num_len hv)
    obtain ⟨m, hm⟩ : ∃ m, m = numOf s.data.toList := ⟨_, rfl⟩
    rw [← hm] at R L1 hs1 HL500
    have HM := Lib.hid hm
    clear hv hm
    by_cases hbad : n < 1 ∨ 1000 < n
    · have hr := Lib.hid (show rootR s.data.toList n = ([], 4) from by rw [rootR, V.out, if_pos rfl, if_pos hbad])
      clear hs1
      rcases hbad with h1 | h1
      · go_enter Tryd.func18, Tryd.ntmps18
        go_wp2_with fail
        refine R.out.mono ?_
        rintro e w2 ⟨g, cap, a, c, ds, rfl, k0, k1, hS1, hd1, hb2, hg, hgl, hc1, hc2⟩
        have hbl := HBA.out.trans (hb2.mono HBA.out.size)
        have hcn := (hb2.cell (p := ⟨w.heap.size, 0, none⟩) HSA.out).trans HCA.out
        clear hS1 hb2 hg hc2 hc1
        go_wp2
        go_ret2
        exact outT_of (by rw [hr.out]) (by rw [hr.out]) hbl
      · have h2 : ¬ n < 1 := by omega
        go_enter Tryd.func18, Tryd.ntmps18
        go_wp2_with fail
        refine R.out.mono ?_
        rintro e w2 ⟨g, cap, a, c, ds, rfl, k0, k1, hS1, hd1, hb2, hg, hgl, hc1, hc2⟩
        have hbl := HBA.out.trans (hb2.mono HBA.out.size)
        have hcn := (hb2.cell (p := ⟨w.heap.size, 0, none⟩) HSA.out).trans HCA.out
        clear hS1 hb2 hg hc2 hc1
        go_wp2
        go_ret2
        exact outT_of (by rw [hr.out]) (by rw [hr.out]) hbl
    · obtain ⟨k, rfl⟩ : ∃ k : Nat, n = (k : Int) := ⟨n.toNat, by omega⟩
      have hk1 : 1 ≤ (k : Int) := by omega
      have hk2 : (k : Int) ≤ 1000 := by omega
      by_cases hneg : m < 0
      · have hr := Lib.hid (show rootR s.data.toList k = ([], 101) from by rw [rootR, V.out, if_pos rfl, if_neg hbad, ← HM.out, if_pos hneg])
        rw [decide_eq_true hneg] at hs1
        subst hs1
        clear hbad
        go_enter Tryd.func18, Tryd.ntmps18
        go_wp2_with fail
        refine R.out.mono ?_
        rintro e w2 ⟨g, cap, a, c, ds, rfl, k0, k1, hS1, hd1, hb2, hg, hgl, hc1, hc2⟩
        have hbl := HBA.out.trans (hb2.mono HBA.out.size)
        have hcn := (hb2.cell (p := ⟨w.heap.size, 0, none⟩) HSA.out).trans HCA.out
        unfold maxLen at hc2
        clear hS1 hb2 hg
        go_wp2
        go_ret2
        exact outT_of (by rw [hr.out]) (by rw [hr.out]) hbl
      · have hr := Lib.hid (show rootR s.data.toList k = (numT (rootN m.natAbs k : Nat), 0) from by rw [rootR, V.out, if_pos rfl, if_neg hbad, ← HM.out, if_neg hneg, Int.toNat_natCast])
        rw [decide_eq_false hneg] at hs1
        subst hs1
        have HA10 := Lib.hid (root_len V.out HM.out)
        have hlen : s.data.toList.length = s.size := Array.length_toList
        rw [hlen] at HA10
        have HTOP := Lib.hid (root_top HA10.out (show 0 < k by omega))
        obtain ⟨E, hE⟩ : ∃ E, E = (s.size + k - 1) / k := ⟨_, rfl⟩
        have hE2 : ((s.size : Int) + (k : Int) - 1) / (k : Int) = (E : Int) := by
          rw [hE, Int.natCast_ediv]; congr 1; omega
        rw [← hE] at HTOP
        have hE5 : E ≤ 500 := by
          rw [hE]
          exact root_div (by have := root_size V.out HM.out hneg HL500.out; rwa [hlen] at this) (by omega)
        have TN := Lib.hid (fun w' => pten_any E w' (by omega))
        have hkz : (k : Int) ≠ 0 := by omega
        have HNEG := Lib.hid hneg
        clear hE hlen hneg hbad
        go_enter Tryd.func18, Tryd.ntmps18
        go_wp2_with fail
        refine R.out.mono ?_
        rintro e w2 ⟨g, cap, a, c, ds, rfl, k0, k1, hS1, hd1, hb2, hg, hgl, hc1, hc2⟩
        have hbl := HBA.out.trans (hb2.mono HBA.out.size)
        have hcn := (hb2.cell (p := ⟨w.heap.size, 0, none⟩) HSA.out).trans HCA.out
        have hmf : ∀ (fn : Fn) (first cap : Array Value) (w : World), (Instr.makeFunc fn first cap).run Tryd.prog w = .ok (.func fn first cap) w := fun _ _ _ _ => rfl
        unfold maxLen at hc2
        have HS1 := Lib.hid hS1
        have hsz2 := Nat.lt_of_lt_of_le HSA.out hb2.size
        clear hS1 hb2 hg
        go_wp2_with fail
        have hbM : Below w2.heap.size w2 (w2.alloc (.cells #[.slice a ds.length c] 51)) := (Below.refl _ _).alloc (Nat.le_refl _) _
        have hblM := hbl.trans (hbM.mono hbl.size)
        have hcM := (hbM.cell (p := ⟨w.heap.size, 0, none⟩) hsz2).trans hcn
        have hqM : (w2.alloc (.cells #[.slice a ds.length c] 51)).cell? ⟨w2.heap.size, 0, none⟩ = some (.slice a ds.length c) := by rw [World.cell?_alloc_at _ _ _ _ (by simp)]; rfl
        have HSM := Lib.hid (HS1.out.later hbM)
        have hszM : w2.heap.size < (w2.alloc (.cells #[.slice a ds.length c] 51)).heap.size := by simp
        have hszw : w.heap.size < (w2.alloc (.cells #[.slice a ds.length c] 51)).heap.size := by simp; omega
        have HMM := Lib.hid (And.intro hcM (And.intro hqM (And.intro hszM (And.intro hszw hblM))))
        clear hcM hqM hszM hszw hblM hbM hcn k0 k1 hbl hE2
        generalize hwM : w2.alloc (.cells #[.slice a ds.length c] 51) = wM at *
        clear hwM
        refine (TN.out _).mono ?_
        rintro e w3 ⟨a3, c3, bs, rfl, hS3, hbs, hb3, _⟩
        have hG : Calls Tryd.prog 58 #[.slice a3 bs.length c3, .func (.func 55) #[] #[.pointer (some ⟨w.heap.size, 0, none⟩), .pointer (some ⟨w2.heap.size, 0, none⟩)]] w3 (OutRt w3 m.natAbs k (10 ^ E)) := by
          refine pgreatest_any w.heap.size w2.heap.size a3 c3 bs (10 ^ E) k m.natAbs w3 hS3 hbs.out (by rw [hbs.out]; exact Ldigs_len (ten_lt (by omega))) HTOP.out (by rw [Nat.zero_pow (by omega)]; exact Nat.zero_le _) ?_
          intro ax cx xs x w' hb' hSx hxs hxB
          obtain ⟨m1, m2, m3, m4, m5⟩ := HMM.out
          have hbW := hb3.trans (hb'.mono hb3.size)
          exact proot1_any w.heap.size w2.heap.size ax a cx c xs ds x k m.natAbs w' ((hbW.cell (p := ⟨w.heap.size, 0, none⟩) m4).trans m1) ((hbW.cell (p := ⟨w2.heap.size, 0, none⟩) m3).trans m2) (Nat.lt_of_lt_of_le m3 hbW.size) (HSM.out.later hbW) hd1.out (by rw [hd1.out]; exact L1.out) hSx hxs
            (by rw [hxs]; exact Ldigs_len (below_ten hxB (by omega))) (by omega)
        have G := Lib.hid hG
        have hbl3 := HMM.out.2.2.2.2.trans (hb3.mono HMM.out.2.2.2.2.size)
        clear hG hS3 hbs hb3
        go_wp2_with fail
        refine G.out.mono ?_
        rintro e w4 ⟨a4, c4, rs, r, rfl, hS4, hrs, hrt, hrB, hb4⟩
        have hbl4 := hbl3.trans (hb4.mono hbl3.size)
        have SG := Lib.hid (psign_b false false a4 c4 rs r w4 hrs.out (by simp))
        have HS4 := Lib.hid hS4
        clear hS4 hbl3 hb4
        go_wp2_with fail
        refine SG.out.mono ?_
        rintro e w5 ⟨rfl, hb5⟩
        have hbl5 := hbl4.trans (hb5.mono hbl4.size)
        have TX0 := ptext_any a4 c4 rs (r : Int) w5 (HS4.out.later hb5) (by rw [hrs.out]; rfl) (HT.out.later hbl5)
        rw [show decide ((r : Int) < 0) = false from decide_eq_false (by omega)] at TX0
        have TX := Lib.hid TX0
        have HRR := Lib.hid (show resB (r : Int) = (numT (rootN m.natAbs k : Nat), 0) from by
          have hlen : (digs r).length ≤ 500 := digs_len (below_p10 hrB.out (by omega))
          rw [resB, if_neg (by simp; omega), rootN_eq hrt.out])
        clear TX0
        go_wp2_with fail
        refine TX.out.mono ?_
        rintro e w6 ⟨rfl, hb6⟩
        go_wp2
        go_ret2
        exact outT_of (by rw [hr.out, HRR.out]) (by rw [hr.out, HRR.out]) (hbl5.trans (hb6.mono hbl5.size))
end Go.Proofs.YtngnaofbndpadaaDoor
