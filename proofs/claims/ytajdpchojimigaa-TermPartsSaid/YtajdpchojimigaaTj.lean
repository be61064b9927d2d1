/- Parts of terms: kinds. -/
import Derived.Test.YtajdpchojimigaaNm
import Derived.Test.YtajdpchojimigaaPn
import Derived.Test.YtajdpchojimigaaQg
import Derived.Test.YtajdpchojimigaaQi
import Derived.Test.YtajdpchojimigaaPr
import Derived.Lib.AppendStr
import Derived.Test.YtajdpchojimigaaSn
import Derived.Test.YtajdpchojimigaaShelf
import Derived.Test.YtajdpchojimigaaQh
namespace Go.Proofs.Ytajdpchojimigaa
open Go.RowKit TmM

def isSymB (k : Int) : Bool := decide (1 ≤ k) && decide (k ≤ 3)

set_option maxHeartbeats 1600000 in
theorem pissym_al (k : Int) (t : ByteArray) (a : Option Addr) (l c : Nat) (w : World) :
    Calls Try.prog 27 #[.agg #[.int .i64 k, .string t, .slice a l c]] w (OutV w (.bool (isSymB k))) := by
  have hb : Below w.heap.size w (w.alloc (.cells #[.int .i64 k, .string t, .slice a l c] 35)) := (Below.refl _ _).alloc (Nat.le_refl _) _
  rcases (show k = 1 ∨ k = 2 ∨ k = 3 ∨ (k ≠ 1 ∧ k ≠ 2 ∧ k ≠ 3) by omega) with rfl | rfl | rfl | ⟨h1, h2, h3⟩
  · go_enter Try.func27, Try.ntmps27
    go_wp2
    go_ret
    exact ⟨rfl, hb⟩
  · go_enter Try.func27, Try.ntmps27
    go_wp2
    go_ret
    exact ⟨rfl, hb⟩
  · go_enter Try.func27, Try.ntmps27
    go_wp2
    go_ret
    exact ⟨rfl, hb⟩
  · have e1 : (k == 1) = false := by simpa using h1
    have e2 : (k == 2) = false := by simpa using h2
    have e3 : (k == 3) = false := by simpa using h3
    have hs : isSymB k = false := by simp only [isSymB, Bool.and_eq_false_iff, decide_eq_false_iff_not]; omega
    rw [hs]
    clear h1 h2 h3 hs
    go_enter Try.func27, Try.ntmps27
    go_wp2
    go_ret
    exact ⟨rfl, hb⟩

set_option maxHeartbeats 1600000 in
theorem rissym_any (k : Int) (t : ByteArray) (a : Option Addr) (l c : Nat) (w : World) :
    Calls Try.prog 28 #[.agg #[.int .i64 k, .string t, .slice a l c]] w (OutV w (.bool (isSymB k))) := by
  have hb : Below w.heap.size w (w.alloc (.cells #[.int .i64 k, .string t, .slice a l c] 35)) := (Below.refl _ _).alloc (Nat.le_refl _) _
  have hi : isSymB k = (decide (1 ≤ k) && decide (k ≤ 3)) := rfl
  rw [hi]
  clear hi
  by_cases h1 : 1 ≤ k
  · by_cases h2 : k ≤ 3
    · go_enter Try.func28, Try.ntmps28
      go_wp2
      go_ret
      exact ⟨by simp [h1, h2], hb⟩
    · go_enter Try.func28, Try.ntmps28
      go_wp2
      go_ret
      exact ⟨by simp [h2], hb⟩
  · go_enter Try.func28, Try.ntmps28
    go_wp2
    go_ret
    exact ⟨by rw [show (decide (1 ≤ k) && decide (k ≤ 3)) = false from by rw [decide_eq_false (by omega)]; rfl]; rfl, hb⟩

set_option maxHeartbeats 1600000 in
theorem risvar_any (k : Int) (t : ByteArray) (a : Option Addr) (l c : Nat) (w : World) :
    Calls Try.prog 30 #[.agg #[.int .i64 k, .string t, .slice a l c]] w (OutV w (.bool (isVarB k))) := by
  have hb : Below w.heap.size w (w.alloc (.cells #[.int .i64 k, .string t, .slice a l c] 35)) := (Below.refl _ _).alloc (Nat.le_refl _) _
  have hi : isVarB k = (decide (5 ≤ k) && decide (k ≤ 7)) := by
    rw [isVarB, Bool.eq_iff_iff]
    simp only [Bool.or_eq_true, Bool.and_eq_true, decide_eq_true_eq]
    omega
  rw [hi]
  clear hi
  by_cases h1 : 5 ≤ k
  · by_cases h2 : k ≤ 7
    · go_enter Try.func30, Try.ntmps30
      go_wp2
      go_ret
      exact ⟨by simp [h1, h2], hb⟩
    · go_enter Try.func30, Try.ntmps30
      go_wp2
      go_ret
      exact ⟨by simp [h2], hb⟩
  · go_enter Try.func30, Try.ntmps30
    go_wp2
    go_ret
    exact ⟨by rw [show (decide (5 ≤ k) && decide (k ≤ 7)) = false from by rw [decide_eq_false (by omega)]; rfl]; rfl, hb⟩
end Go.Proofs.Ytajdpchojimigaa

namespace Go.Proofs.Ytajdpchojimigaa
open Go.RowKit TmM

def chB (k : Int) (t : ByteArray) (c : Fo) : Bool := decide (k = 1) && decide (t.size = 1) && decide (c.len = 0)
def strB : Fo → Bool
  | .nil => true
  | .cons k t c r => chB k t c && strB r
def strL : Fo → List UInt8
  | .nil => []
  | .cons _ t _ r => t.data.toList ++ strL r
def strS (f : Fo) : ByteArray := if strB f then ⟨(strL f).toArray⟩ else ⟨#[]⟩
theorem strB_app (f g : Fo) : strB (f.app g) = (strB f && strB g) := by induction f with
  | nil => simp [strB]
  | cons k t c r _ ih => simp [Fo.app, strB, ih, Bool.and_assoc]
theorem strL_app (f g : Fo) : strL (f.app g) = strL f ++ strL g := by induction f with
  | nil => simp [strL]
  | cons k t c r _ ih => simp [Fo.app, strL, ih]
theorem strL_len : ∀ {f : Fo}, strB f = true → (strL f).length = f.len
  | .nil, _ => rfl
  | .cons k t c r, h => by
    simp only [strB, chB, Bool.and_eq_true, decide_eq_true_eq] at h
    have h1 : t.data.toList.length = 1 := by simpa using h.1.1.2
    simp only [strL, List.length_append, Fo.len_cons, strL_len h.2, h1]
    omega
theorem str_next {f : Fo} {n : Nat} {k t c g} (hd : f.drop n = .cons k t c g) (hb : strB (f.take n) = true) (hc : chB k t c = true) : strB (f.take (n + 1)) = true ∧ strL (f.take (n + 1)) = strL (f.take n) ++ t.data.toList := by
  rw [Fo.take_succ hd, strB_app, strL_app, hb]
  simp [strB, strL, hc]
theorem str_no {f : Fo} {n : Nat} {k t c g} (hd : f.drop n = .cons k t c g) (hc : chB k t c = false) : strB f = false := by
  rw [← Fo.take_app_drop n f, strB_app, hd, strB, hc]
  simp
theorem right_one (t : ByteArray) (c : Fo) : rightB 1 t c = (decide (t.size = 1) && decide (c.len = 0)) := by
  unfold rightB
  by_cases h : 0 < c.len
  · have h2 : ¬ c.len = 0 := by omega
    simp [h, h2]
  · have h2 : c.len = 0 := by omega
    simp [h2]

set_option maxHeartbeats 6400000 in
set_option maxRecDepth 100000 in
theorem rtstring_any (f : Fo) (a : Option Addr) (cap : Nat) (w : World) (hl : f.len ≤ 1000000) (hs : Sl w.heap.size w a cap f) :
    Calls Try.prog 34 #[.slice a f.len cap] w (fun e w' => e = .returned (.tuple #[.string (strS f), .bool (strB f)]) ∧ w' = w) := by
  obtain ⟨b, o, hab, hbw, HCX⟩ := base_of hs
  have HAB := Lib.hid hab
  have hcl := hs.cap.1
  clear hab hbw hs
  go_enter Try.func34, Try.ntmps34
  go_wp2_with fail
  go_loop [4, 5] (fun s i => ∃ (k : Nat) (u : ByteArray), s = .string u ∧ i = .int .i64 k ∧ k ≤ f.len ∧ u.size = k ∧ Hid (strB (f.take k) = true ∧ u.data.toList = strL (f.take k))) (fun _ i => f.len - (intOf i).toNat)
  case atStart => exact ⟨0, ⟨#[]⟩, rfl, rfl, Nat.zero_le _, rfl, Lib.hid (by rw [Fo.take_zero]; exact ⟨rfl, rfl⟩)⟩
  case round =>
    obtain ⟨k, u, rfl, rfl, hk, hus, hu⟩ := hrel
    have HUS := Lib.hid hus
    have hus2 : u.size ≤ 1000000 := by omega
    clear hus
    by_cases hkl : k < f.len
    · have hki : (k : Int) < (f.len : Int) := by omega
      obtain rfl := HAB.out (by omega)
      obtain ⟨kd, t, c, hd⟩ := Fo.drop_at hkl
      obtain ⟨x0, x1, ac, capc, x2, hsc⟩ := HCX.out k kd t c _ hd
      have hcc := hsc.cap
      have hcm : c.len ≤ 9223372036854775807 := by have h1 := hcc.1; have h2 := hcc.2; unfold maxLen at h2; omega
      clear hsc hcc
      by_cases hc : chB kd t c = true
      · have hn := Lib.hid (str_next hd hu.out.1 hc)
        have hc2 := hc
        simp only [chB, Bool.and_eq_true, decide_eq_true_eq] at hc2
        obtain ⟨⟨rfl, ht⟩, hc0⟩ := hc2
        have e1 : ((t.size : Int) != 1) = false := by simp [ht]
        have e2 : ¬ (0 : Int) < (c.len : Int) := by omega
        have HT := Lib.hid ht
        have ht2 : t.size ≤ 1 := by omega
        clear hc hd ht hc0
        go_wp2_with fail
        go_round
        case rel => exact ⟨k + 1, u ++ t, rfl, by go_num, by omega, by rw [ByteArray.size_append, HT.out, HUS.out], Lib.hid ⟨hn.out.1, by rw [hn.out.2, ← hu.out.2]; simp⟩⟩
        case measure => simp [intOf]; omega
      · have hc1 : chB kd t c = false := by simpa using hc
        have hF := Lib.hid (str_no hd hc1)
        have hS := Lib.hid (show strS f = ⟨#[]⟩ from by rw [strS, hF.out]; rfl)
        clear hd hc
        by_cases h1 : kd = 1
        · have e1 : (kd != 1) = false := by simp [h1]
          by_cases ht : t.size = 1
          · have hc0 : (0 : Int) < (c.len : Int) := by
              simp [chB, h1, ht] at hc1
              omega
            have e2 : ((t.size : Int) != 1) = false := by simp [ht]
            clear hc1 h1 ht
            go_wp2
            go_ret2
            exact ⟨by rw [hF.out, hS.out]; rfl, rfl⟩
          · have e2 : ((t.size : Int) != 1) = true := by simp; omega
            clear hc1 h1 ht
            go_wp2
            go_ret2
            exact ⟨by rw [hF.out, hS.out]; rfl, rfl⟩
        · have e1 : (kd != 1) = true := by simpa using h1
          clear hc1 h1
          go_wp2
          go_ret2
          exact ⟨by rw [hF.out, hS.out]; rfl, rfl⟩
    · obtain rfl : k = f.len := by omega
      have hki : ¬ ((f.len : Nat) : Int) < (f.len : Int) := by omega
      have hT := Lib.hid (show strB f = true ∧ strS f = u from by
        have h := hu.out
        rw [Fo.take_len] at h
        exact ⟨h.1, by rw [strS, if_pos h.1]; exact text_of_list h.2⟩)
      go_wp2
      go_ret2
      exact ⟨by rw [hT.out.1, hT.out.2]; rfl, rfl⟩

theorem own_str {w : World} {B : Nat} {v : Value} {l : List UInt8} (h : w.ownsRow B 5 1 v l.length (bytesV l)) (hn : v ≠ .slice none 0 0) : (convert 71 9 v).run Try.prog w = .ok (.string ⟨l.toArray⟩) w := by
  rcases h.2 with ⟨h0, _⟩ | ⟨g, cap, cur, rfl, _⟩
  · exact absurd h0 hn
  · exact own_bytes h

set_option maxHeartbeats 6400000 in
set_option maxRecDepth 100000 in
theorem ptstring_any (f : Fo) (a : Option Addr) (cap : Nat) (w : World) (hl : f.len ≤ 1000000) (hsm : Small f) (hs : Sl w.heap.size w a cap f) :
    Calls Try.prog 33 #[.slice a f.len cap] w (OutV w (.tuple #[.string (strS f), .bool (strB f)])) := by
  obtain ⟨i0, hi, hz0, hz1, hz2⟩ := info_parts Try.infoByte
  obtain ⟨b, o, hab, hbw, HCX⟩ := base_of hs
  have HAB := Lib.hid hab
  have HBW := Lib.hid hbw
  have hcl := hs.cap.1
  have HSM := Lib.hid hsm
  clear hab hbw hs hsm
  go_enter Try.func33, Try.ntmps33
  go_wp2_with (first
    | (at_make; refine wpList_make_own _ rfl _ _ 71 rfl w.heap.size 5 i0 (.int .u8 0) 1 Try.underlying71 hi hz0 hz1 _ _ _ f.len rfl rfl rfl (by rw [hz2]; omega) (by unfold maxLen; omega) (Nat.le_refl _) ?_; intro w1 hown1 hgrow1)
    | fail)
  have HO1 := Lib.hid hown1
  have HB1 := Lib.hid ((Below.refl w.heap.size w).grown hgrow1 (Nat.le_refl _) (fun j hj => by cases hj))
  clear hown1 hgrow1
  go_loopw [4, 12] (fun v i wr => ∃ k : Nat, i = .int .i64 k ∧ k ≤ f.len ∧ Hid (v ≠ .slice none 0 0) ∧ Hid (wr.ownsRow w.heap.size 5 1 v k (bytesV (strL (f.take k)))) ∧ Hid (strB (f.take k) = true) ∧ Hid (Below w.heap.size w wr)) (fun _ i _ => f.len - (intOf i).toNat)
  case atStart => exact ⟨0, rfl, Nat.zero_le _, Lib.hid (by simp), Lib.hid (by rw [Fo.take_zero]; exact HO1.out), Lib.hid (by rw [Fo.take_zero]; rfl), HB1⟩
  case round =>
    obtain ⟨k, rfl, hk, hnn, hrow, hst, hbl⟩ := hrel
    by_cases hkl : k < f.len
    · have hki : (k : Int) < (f.len : Int) := by omega
      obtain rfl := HAB.out (by omega)
      have hb := HBW.out (by omega)
      obtain ⟨kd, t, c, hd⟩ := Fo.drop_at hkl
      obtain ⟨x0, x1, ac, capc, x2, hsc⟩ := HCX.out k kd t c _ hd
      have y0 := (hbl.out.cell (p := ⟨b, o + k * 3, none⟩) hb).trans x0
      have y1 := (hbl.out.cell (p := ⟨b, o + k * 3 + 1, none⟩) hb).trans x1
      have y2 := (hbl.out.cell (p := ⟨b, o + k * 3 + 2, none⟩) hb).trans x2
      have hts := (HSM.out.at hd).1
      have hszr := hbl.out.size
      clear hsc x0 x1 x2
      by_cases h1 : kd = 1
      · subst h1
        have RT0 := fun w => pright_al 1 t c ac capc w hts
        rw [right_one] at RT0
        obtain ⟨r, hr⟩ : ∃ r, r = (decide (t.size = 1) && decide (c.len = 0)) := ⟨_, rfl⟩
        rw [← hr] at RT0
        have RT := Lib.hid RT0
        have hcr : chB 1 t c = r := by rw [chB, hr]; rfl
        cases r
        · have hF := Lib.hid (str_no hd hcr)
          have hS := Lib.hid (show strS f = ⟨#[]⟩ from by rw [strS, hF.out]; rfl)
          have hB2 := Lib.hid (((hbl.out.alloc hszr (.cells #[.int .i64 1, .string t, .slice ac c.len capc] 35)).alloc (by simp; omega) (.cells #[.int .i64 1, .string t, .slice ac c.len capc] 35)))
          clear hd hcr hr RT0
          go_wp2_with (first
            | (go_at_call 68; refine (RT.out _).mono ?_; rintro e w3 ⟨rfl, rfl⟩)
            | fail)
          go_ret2
          exact ⟨by rw [hF.out, hS.out]; rfl, hB2.out⟩
        · have hn := Lib.hid (str_next hd hst.out hcr)
          have ht : t.size = 1 := by simp at hr; exact hr.1
          have HT := Lib.hid ht
          have hcl2 : c.len = 0 := by simp at hr; exact hr.2
          have hln : (strL (f.take k)).length = k := by
            rw [strL_len hst.out]
            have e := congrArg Fo.len (Fo.take_app_drop k f)
            rw [Fo.len_app, Fo.len_drop] at e
            omega
          have hB2 := Lib.hid (((hbl.out.alloc hszr (.cells #[.int .i64 1, .string t, .slice ac c.len capc] 35)).alloc (by simp; omega) (.cells #[.int .i64 1, .string t, .slice ac c.len capc] 35)))
          have HO2 := Lib.hid ((hrow.out.alloc (.cells #[.int .i64 1, .string t, .slice ac c.len capc] 35)).alloc (.cells #[.int .i64 1, .string t, .slice ac c.len capc] 35))
          have c1 : ((wr.alloc (.cells #[.int .i64 1, .string t, .slice ac c.len capc] 35)).alloc (.cells #[.int .i64 1, .string t, .slice ac c.len capc] 35)).cell? ⟨wr.heap.size, 1, none⟩ = some (.string t) := by
            rw [World.cell?_of_block (heap_old _ _ wr.heap.size (by simp)), World.cell?_alloc_at _ _ _ _ rfl]; rfl
          have HLN := Lib.hid hln
          have HNS := Lib.hid (show (wr.alloc (.cells #[.int .i64 1, .string t, .slice ac c.len capc] 35)).heap.size = wr.heap.size + 1 from by simp)
          clear hd hcr hr RT0 ht hcl2 hln
          go_wp2_with (first
            | (go_at_call 68; refine (RT.out _).mono ?_; rintro e w3 ⟨rfl, rfl⟩)
            | (at_builtin; refine Lib.wpList_append_own_string _ rfl (.tmp 24) (.tmp 26) 71 9 rfl w.heap.size 5 i0 Try.underlying71 Try.underlying9 hi hz0 hz1 hz2 _ _ _ rfl HO2.out t rfl (by rw [HT.out]; unfold maxLen; omega) (by rw [HT.out]; omega) (by simp; omega) ?_; intro v5 w5 hown5 hgrow5 hnil5; have HO5 := Lib.hid hown5; have HG5 := Lib.hid hgrow5; have HN5 := Lib.hid hnil5; clear hown5 hgrow5 hnil5)
            | fail)
          go_roundw
          case rel =>
            refine ⟨k + 1, by go_num, by omega, Lib.hid (fun e => hnn.out (HN5.out.1 e).1), Lib.hid ?_, Lib.hid hn.out.1, Lib.hid (hB2.out.grown HG5.out (by simp; omega) (fun j hj => (hrow.out.lt j hj).1))⟩
            have h5 := HO5.out
            rw [HT.out] at h5
            rw [hn.out.2, show bytesV (strL (f.take k) ++ t.data.toList) = bytesV (strL (f.take k)) ++ Lib.strCells t from by simp [bytesV, Lib.strCells]]
            exact h5
          case measure => simp [intOf]; omega
      · have hc1 : chB kd t c = false := by simp [chB, h1]
        have hF := Lib.hid (str_no hd hc1)
        have hS := Lib.hid (show strS f = ⟨#[]⟩ from by rw [strS, hF.out]; rfl)
        have hB2 := Lib.hid (hbl.out.alloc hszr (.cells #[.int .i64 kd, .string t, .slice ac c.len capc] 35))
        have e1 : (kd != 1) = true := by simpa using h1
        clear hd hc1 h1
        go_wp2
        go_ret2
        exact ⟨by rw [hF.out, hS.out]; rfl, hB2.out⟩
    · obtain rfl : k = f.len := by omega
      have hki : ¬ ((f.len : Nat) : Int) < (f.len : Int) := by omega
      have hr := hrow.out
      have hs := hst.out
      rw [Fo.take_len] at hr hs
      have hln := strL_len hs
      rw [← hln] at hr
      have hcv := own_str hr hnn.out
      have hT := Lib.hid (show strB f = true ∧ strS f = ⟨(strL f).toArray⟩ from ⟨hs, by rw [strS, if_pos hs]⟩)
      clear hr hs hln
      go_wp2
      go_ret2
      exact ⟨by rw [hT.out.1, hT.out.2]; rfl, hbl.out⟩
end Go.Proofs.Ytajdpchojimigaa

namespace Go.Proofs.Ytajdpchojimigaa
open Go.RowKit TmM

theorem eqstr_any (l : List ByteArray) (a1 a2 : Option Addr) (c1 c2 : Nat) (w : World) (hl : l.length ≤ 1000000) (h1 : Ss w a1 c1 l) (h2 : Ss w a2 c2 l) :
    Calls Try.prog 37 #[.slice a1 l.length c1, .slice a2 l.length c2] w (fun e w' => e = .returned (.bool true) ∧ ∃ q, w' = w.drewN q) := by
  by_cases h0 : l.length = 0
  · rw [h0]
    refine (Try.slices_Equal_string_empty a1 a2 c1 0 c2 w (by omega)).mono ?_
    rintro e w' ⟨rfl, rfl⟩
    exact ⟨rfl, 0, rfl⟩
  · obtain ⟨b1, o1, ha1, _, hc1⟩ := h1.base
    obtain ⟨b2, o2, ha2, _, hc2⟩ := h2.base
    obtain rfl := ha1 (by omega)
    obtain rfl := ha2 (by omega)
    have hg : ∀ j, j < l.length → l[j]? = some (l.getD j ByteArray.empty) := fun j hj => by rw [List.getD_eq_getElem?_getD, List.getElem?_eq_getElem hj]; rfl
    refine (Try.slices_Equal_string b1 o1 l.length c1 b2 o2 l.length c2 l l w (Nat.le_refl _) (Nat.le_refl _) (by omega) (by omega) (fun j hj => hc1.out j _ (hg j hj)) (fun j hj => hc2.out j _ (hg j hj))).mono ?_
    rintro e w' ⟨rfl, q, rfl⟩
    exact ⟨by simp, q, rfl⟩
end Go.Proofs.Ytajdpchojimigaa

namespace Go.Proofs.Ytajdpchojimigaa
open Go.RowKit TmM

theorem built_empty {w : World} {n : Nat} (hn : n = w.heap.size) : Built w.heap.size (w.alloc (.cells #[] 35)) (.slice (some ⟨n, 0, none⟩) 0 0) .nil := by
  subst hn
  exact Built.lit (base := w.heap.size) (m := 0) (xs := []) (G := .nil) (S := fun _ => False) rfl rfl rfl (fun _ h => h.elim) (by decide) (Nat.le_refl _)

set_option maxHeartbeats 6400000 in
set_option maxRecDepth 100000 in
theorem rchars_any (s : ByteArray) (w : World) (hs : s.size ≤ 1000000) : Calls Try.prog 43 #[.string s] w (OutF w (foC s.data.toList)) := by
  have hbA : Below w.heap.size w (w.alloc (.cells #[] 35)) := (Below.refl _ _).alloc (Nat.le_refl _) _
  have HBA := Lib.hid hbA
  have HLL := Lib.hid (show s.data.toList.length = s.size from by simp)
  clear hbA
  go_enter Try.func43, Try.ntmps43
  go_wp2_with fail
  go_loopw [3, 4] (fun u i wr => ∃ (v : Value) (k : Nat), u = v ∧ i = .int .i64 k ∧ k ≤ s.size ∧ Hid (Built w.heap.size wr v (foC (s.data.toList.take k))) ∧ Below w.heap.size w wr) (fun _ i _ => s.size - (intOf i).toNat)
  case atStart => exact ⟨_, 0, rfl, rfl, Nat.zero_le _, Lib.hid (built_empty rfl), HBA.out⟩
  case round =>
    obtain ⟨v, k, rfl, rfl, hk, hB, hbl⟩ := hrel
    by_cases hlt : k < s.size
    · have hki : (k : Int) < (s.size : Int) := by omega
      have hsl := run_slice_str s k (k + 1) (by omega) (by omega)
      rw [Int.natCast_add, Int.natCast_one] at hsl
      have HT := Lib.hid (show s.data.toList.take (k + 1) = s.data.toList.take k ++ [s[k]] from by rw [List.take_add_one, List.getElem?_eq_getElem (by rw [HLL.out]; exact hlt)]; rfl)
      have HX1 := Lib.hid (ext_one s k hlt)
      have HPL := Lib.hid (show (foC (s.data.toList.take k)).len ≤ 1000001 from by rw [foC_len, List.length_take]; omega)
      have hbX : Below wr.heap.size wr wr := Below.refl _ _
      have HBX := Lib.hid (hB.out.later hbX)
      have hr : RepsS (fun b => w.heap.size ≤ b ∧ b < wr.heap.size ∧ u3.ownBlock ≠ some b) wr [.int .i64 1, .string (s.extract k (k + 1)), .slice none 0 0] (.cons 1 (s.extract k (k + 1)) .nil .nil) := RepsS.one SlS.nil
      go_wp2_with (first | (at_builtin; refine wpList_append_built rfl (.tmp 12) (.tmp 19) rfl (HBX.out.push _) rfl rfl rfl (Put.push hr (by simp)) (by have := HPL.out; simp only [Fo.len_cons, Fo.len_nil]; omega) ?_; intro v6 w6 hB6 hgrow6 hat6) | fail)
      have hbn := below_push hbl HBX.out hgrow6
      have HX6 := Lib.hid (show Built w.heap.size w6 v6 (foC (s.data.toList.take (k + 1))) from by rw [HT.out, foC_snoc, ← HX1.out]; exact hB6)
      go_roundw
      case rel => exact ⟨_, k + 1, rfl, by go_num, by omega, HX6, hbn⟩
      case measure => simp [intOf]; omega
    · obtain rfl : k = s.size := by omega
      have hki : ¬ ((s.size : Nat) : Int) < (s.size : Int) := by omega
      have HX := Lib.hid (show Built w.heap.size wr u3 (foC s.data.toList) from by have := hB.out; rwa [List.take_of_length_le (by rw [HLL.out]; exact Nat.le_refl _)] at this)
      go_wp2
      go_ret
      exact outF_of HX.out hbl

theorem ext2 {s : ByteArray} (h : 2 ≤ s.size) : (s.extract 0 2).toList = [s[0], s[1]] := by
  rw [ByteArray.toList_eq, ByteArray.data_extract]
  apply List.ext_getElem
  · have : s.data.size = s.size := rfl
    simp; omega
  · intro i h1 h2
    match i, h2 with
    | 0, _ => simp; rfl
    | 1, _ => simp; rfl
theorem beg_iff {s : ByteArray} (h : 2 ≤ s.size) {k : Int} {a : UInt8} (hk : (prefixF k).toList = [a, 46]) : begB s k = (decide (s[0] = a) && decide (s[1] = 46)) := by
  rw [begB, decide_eq_true h, ext2 h, hk, Bool.true_and]
  rw [Bool.eq_iff_iff]
  simp

set_option maxHeartbeats 6400000 in
set_option maxRecDepth 100000 in
theorem rvariable_any (s : ByteArray) (w : World) (hs : s.size ≤ 100000000) : Calls Try.prog 36 #[.string s] w (OutVar s w) := by
  have VB0 := fun w => var_any (s.extract 2 s.size) w (by simp; omega)
  obtain ⟨q, hq⟩ : ∃ q, q = varB (s.extract 2 s.size).data.toList := ⟨_, rfl⟩
  rw [← hq] at VB0
  have VB := Lib.hid VB0
  clear VB0
  by_cases h3 : 3 ≤ s.size
  · have h3i : ¬ (s.size : Int) < 3 := by omega
    have h2i : (2 : Int) ≤ (s.size : Int) := by omega
    have h0 : 0 < s.size := by omega
    have h1 : 1 < s.size := by omega
    have b5 := beg_iff (s := s) (by omega) (k := 5) (a := 115) (by rw [ByteArray.toList_eq]; rfl)
    have b6 := beg_iff (s := s) (by omega) (k := 6) (a := 116) (by rw [ByteArray.toList_eq]; rfl)
    have b7 := beg_iff (s := s) (by omega) (k := 7) (a := 101) (by rw [ByteArray.toList_eq]; rfl)
    by_cases hd : s[1] = 46
    · have e1 : ((s[1].toNat : Int) != 46) = false := by rw [hd]; rfl
      cases q
      · have HO := Lib.hid (show okV s = false from by rw [okV, ← hq, Bool.and_false])
        clear hq b5 b6 b7 hd
        go_enter Try.func36, Try.ntmps36
        go_wp2_with (first | (go_at_call 71; refine (VB.out _).mono ?_; rintro e w' ⟨rfl, rfl⟩) | fail)
        obtain ⟨_, z0, z1, z2⟩ := Box.new w 0 ⟨#[]⟩ none 0 0
        refine bodyPost_ret (v := .tuple #[.agg #[.int .i64 0, .string ⟨#[]⟩, .slice none 0 0], .bool false]) (by simp [results, Try.results36, go_sem, z0, z1, z2]) rfl ?_
        exact ⟨.inr ⟨HO.out, rfl⟩, (Below.refl _ _).alloc (Nat.le_refl _) _⟩
      · by_cases h5 : s[0] = 115
        · have HV := Lib.hid (show vkN s = 5 from by rw [vkN, b5, h5, hd]; rfl)
          have HO := Lib.hid (show okV s = true from by rw [okV, ← hq, HV.out]; rfl)
          have c5 : ((s[0].toNat : Int) == 115) = true := by rw [h5]; rfl
          clear hq b5 b6 b7 hd h5
          go_enter Try.func36, Try.ntmps36
          go_wp2_with (first | (go_at_call 71; refine (VB.out _).mono ?_; rintro e w' ⟨rfl, rfl⟩) | fail)
          obtain ⟨_, z0, z1, z2⟩ := Box.new w 5 (s.extract 2 s.size) none 0 0
          refine bodyPost_ret (v := .tuple #[.agg #[.int .i64 5, .string (s.extract 2 s.size), .slice none 0 0], .bool true]) (by simp [results, Try.results36, go_sem, z0, z1, z2]) rfl ?_
          exact ⟨.inl ⟨HO.out, by rw [HV.out]; rfl⟩, (Below.refl _ _).alloc (Nat.le_refl _) _⟩
        · by_cases h6 : s[0] = 116
          · have HV := Lib.hid (show vkN s = 6 from by rw [vkN, b5, b6, h6, hd]; rfl)
            have HO := Lib.hid (show okV s = true from by rw [okV, ← hq, HV.out]; rfl)
            have c5 : ((s[0].toNat : Int) == 115) = false := by rw [h6]; rfl
            have c6 : ((s[0].toNat : Int) == 116) = true := by rw [h6]; rfl
            clear hq b5 b6 b7 hd h5 h6
            go_enter Try.func36, Try.ntmps36
            go_wp2_with (first | (go_at_call 71; refine (VB.out _).mono ?_; rintro e w' ⟨rfl, rfl⟩) | fail)
            obtain ⟨_, z0, z1, z2⟩ := Box.new w 6 (s.extract 2 s.size) none 0 0
            refine bodyPost_ret (v := .tuple #[.agg #[.int .i64 6, .string (s.extract 2 s.size), .slice none 0 0], .bool true]) (by simp [results, Try.results36, go_sem, z0, z1, z2]) rfl ?_
            exact ⟨.inl ⟨HO.out, by rw [HV.out]; rfl⟩, (Below.refl _ _).alloc (Nat.le_refl _) _⟩
          · by_cases h7 : s[0] = 101
            · have HV := Lib.hid (show vkN s = 7 from by rw [vkN, b5, b6, b7, h7, hd]; rfl)
              have HO := Lib.hid (show okV s = true from by rw [okV, ← hq, HV.out]; rfl)
              have c5 : ((s[0].toNat : Int) == 115) = false := by rw [h7]; rfl
              have c6 : ((s[0].toNat : Int) == 116) = false := by rw [h7]; rfl
              have c7 : ((s[0].toNat : Int) == 101) = true := by rw [h7]; rfl
              clear hq b5 b6 b7 hd h5 h6 h7
              go_enter Try.func36, Try.ntmps36
              go_wp2_with (first | (go_at_call 71; refine (VB.out _).mono ?_; rintro e w' ⟨rfl, rfl⟩) | fail)
              obtain ⟨_, z0, z1, z2⟩ := Box.new w 7 (s.extract 2 s.size) none 0 0
              refine bodyPost_ret (v := .tuple #[.agg #[.int .i64 7, .string (s.extract 2 s.size), .slice none 0 0], .bool true]) (by simp [results, Try.results36, go_sem, z0, z1, z2]) rfl ?_
              exact ⟨.inl ⟨HO.out, by rw [HV.out]; rfl⟩, (Below.refl _ _).alloc (Nat.le_refl _) _⟩
            · have HV := Lib.hid (show vkN s = 0 from by rw [vkN, b5, b6, b7]; simp [h5, h6, h7])
              have HO := Lib.hid (show okV s = false from by rw [okV, HV.out]; rfl)
              have c5 : ((s[0].toNat : Int) == 115) = false := by rw [beq_eq_false_iff_ne]; intro e; exact h5 (UInt8.toNat_inj.1 (by have : (115 : UInt8).toNat = 115 := rfl; omega))
              have c6 : ((s[0].toNat : Int) == 116) = false := by rw [beq_eq_false_iff_ne]; intro e; exact h6 (UInt8.toNat_inj.1 (by have : (116 : UInt8).toNat = 116 := rfl; omega))
              have c7 : ((s[0].toNat : Int) == 101) = false := by rw [beq_eq_false_iff_ne]; intro e; exact h7 (UInt8.toNat_inj.1 (by have : (101 : UInt8).toNat = 101 := rfl; omega))
              clear hq b5 b6 b7 hd h5 h6 h7
              go_enter Try.func36, Try.ntmps36
              go_wp2_with (first | (go_at_call 71; refine (VB.out _).mono ?_; rintro e w' ⟨rfl, rfl⟩) | fail)
              obtain ⟨_, z0, z1, z2⟩ := Box.new w 0 ⟨#[]⟩ none 0 0
              refine bodyPost_ret (v := .tuple #[.agg #[.int .i64 0, .string ⟨#[]⟩, .slice none 0 0], .bool false]) (by simp [results, Try.results36, go_sem, z0, z1, z2]) rfl ?_
              exact ⟨.inr ⟨HO.out, rfl⟩, (Below.refl _ _).alloc (Nat.le_refl _) _⟩
    · have e1 : ((s[1].toNat : Int) != 46) = true := by rw [bne_iff_ne]; intro e; exact hd (UInt8.toNat_inj.1 (by have : (46 : UInt8).toNat = 46 := rfl; omega))
      have HV := Lib.hid (show vkN s = 0 from by rw [vkN, b5, b6, b7]; simp [hd])
      have HO := Lib.hid (show okV s = false from by rw [okV, HV.out]; rfl)
      clear hq b5 b6 b7 hd
      go_enter Try.func36, Try.ntmps36
      go_wp2_with (first | (go_at_call 71; refine (VB.out _).mono ?_; rintro e w' ⟨rfl, rfl⟩) | fail)
      obtain ⟨_, z0, z1, z2⟩ := Box.new w 0 ⟨#[]⟩ none 0 0
      refine bodyPost_ret (v := .tuple #[.agg #[.int .i64 0, .string ⟨#[]⟩, .slice none 0 0], .bool false]) (by simp [results, Try.results36, go_sem, z0, z1, z2]) rfl ?_
      exact ⟨.inr ⟨HO.out, rfl⟩, (Below.refl _ _).alloc (Nat.le_refl _) _⟩
  · have h3i : (s.size : Int) < 3 := by omega
    have HO := Lib.hid (show okV s = false from by
      have hz : (s.extract 2 s.size).data.toList = [] := by
        apply List.eq_nil_of_length_eq_zero
        have : s.data.size = s.size := rfl
        rw [ByteArray.data_extract]; simp; omega
      rw [okV, hz]; simp [varB])
    clear hq
    go_enter Try.func36, Try.ntmps36
    go_wp2_with (first | (go_at_call 71; refine (VB.out _).mono ?_; rintro e w' ⟨rfl, rfl⟩) | fail)
    obtain ⟨_, z0, z1, z2⟩ := Box.new w 0 ⟨#[]⟩ none 0 0
    refine bodyPost_ret (v := .tuple #[.agg #[.int .i64 0, .string ⟨#[]⟩, .slice none 0 0], .bool false]) (by simp [results, Try.results36, go_sem, z0, z1, z2]) rfl ?_
    exact ⟨.inr ⟨HO.out, rfl⟩, (Below.refl _ _).alloc (Nat.le_refl _) _⟩
end Go.Proofs.Ytajdpchojimigaa
