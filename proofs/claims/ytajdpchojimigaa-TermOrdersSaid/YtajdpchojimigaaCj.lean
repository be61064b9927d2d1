/- Equality of expressions: the program's. -/
import Derived.Test.YtajdpchojimigaaTc
import Derived.Test.YtajdpchojimigaaBa
import Derived.Test.YtajdpchojimigaaShelf
import Derived.Laws.IdiomStrings
namespace Go.Proofs.Ytajdpchojimigaa
open Go.RowKit TmM

theorem eqF_cons (k k' : Int) (t t' : ByteArray) (c c' r r' : Fo) : eqF (.cons k t c r) (.cons k' t' c' r') = ((decide (k = k') && decide (t = t') && eqF c c') && eqF r r') := by
  rw [Bool.eq_iff_iff, eqF_iff]
  simp only [Bool.and_eq_true, decide_eq_true_eq, eqF_iff, Fo.cons.injEq]
  exact ⟨fun ⟨a, b, c, d⟩ => ⟨⟨⟨a, b⟩, c⟩, d⟩, fun ⟨⟨⟨a, b⟩, c⟩, d⟩ => ⟨a, b, c, d⟩⟩
theorem eqF_len {f g : Fo} (h : f.len ≠ g.len) : eqF f g = false := by
  cases e : eqF f g with
  | false => rfl
  | true => exact absurd (congrArg Fo.len (eqF_iff.1 e)) h
theorem text_ne {t s : ByteArray} (h : t ≠ s) : (t.toList == s.toList) = false := by
  rw [beq_eq_false_iff_ne]
  exact fun e => h (bytes_eq e)

def EqOk (N : Nat) : Prop := ∀ (f g : Fo) (a a' : Option Addr) (cap cap' : Nat) (w : World), f.count ≤ N → Sl w.heap.size w a cap f → Sl w.heap.size w a' cap' g →
    Calls Try.prog 20 #[.slice a f.len cap, .slice a' g.len cap'] w (OutV w (.bool (eqF f g)))

/-- two boxes of terms, one behind the other. -/
theorem two_boxes (w : World) (k k' : Int) (t t' : ByteArray) (v v' : Value) :
    ((w.alloc (.cells #[.int .i64 k, .string t, v] 35)).alloc (.cells #[.int .i64 k', .string t', v'] 35)).cell? ⟨w.heap.size, 0, none⟩ = some (.int .i64 k) ∧
    ((w.alloc (.cells #[.int .i64 k, .string t, v] 35)).alloc (.cells #[.int .i64 k', .string t', v'] 35)).cell? ⟨w.heap.size, 1, none⟩ = some (.string t) ∧
    ((w.alloc (.cells #[.int .i64 k, .string t, v] 35)).alloc (.cells #[.int .i64 k', .string t', v'] 35)).cell? ⟨w.heap.size, 2, none⟩ = some v ∧
    ((w.alloc (.cells #[.int .i64 k, .string t, v] 35)).alloc (.cells #[.int .i64 k', .string t', v'] 35)).cell? ⟨w.heap.size + 1, 0, none⟩ = some (.int .i64 k') ∧
    ((w.alloc (.cells #[.int .i64 k, .string t, v] 35)).alloc (.cells #[.int .i64 k', .string t', v'] 35)).cell? ⟨w.heap.size + 1, 1, none⟩ = some (.string t') ∧
    ((w.alloc (.cells #[.int .i64 k, .string t, v] 35)).alloc (.cells #[.int .i64 k', .string t', v'] 35)).cell? ⟨w.heap.size + 1, 2, none⟩ = some v' := by
  have hs : (w.alloc (.cells #[.int .i64 k, .string t, v] 35)).heap.size = w.heap.size + 1 := by simp
  have h1 := fun j => World.cell?_of_block (a := ⟨w.heap.size, j, none⟩) (heap_alloc_old (w.alloc (.cells #[.int .i64 k, .string t, v] 35)) (.cells #[.int .i64 k', .string t', v'] 35) (by simp))
  refine ⟨(h1 0).trans (news_cell (w := w) [.int .i64 k, .string t, v] _ 0 rfl), (h1 1).trans (news_cell (w := w) [.int .i64 k, .string t, v] _ 1 rfl), (h1 2).trans (news_cell (w := w) [.int .i64 k, .string t, v] _ 2 rfl), ?_, ?_, ?_⟩
  · rw [← hs]; exact news_cell (w := (w.alloc (.cells #[.int .i64 k, .string t, v] 35))) [.int .i64 k', .string t', v'] _ 0 rfl
  · rw [← hs]; exact news_cell (w := (w.alloc (.cells #[.int .i64 k, .string t, v] 35))) [.int .i64 k', .string t', v'] _ 1 rfl
  · rw [← hs]; exact news_cell (w := (w.alloc (.cells #[.int .i64 k, .string t, v] 35))) [.int .i64 k', .string t', v'] _ 2 rfl

set_option maxHeartbeats 6400000 in
set_option maxRecDepth 100000 in
theorem eqterms_any (k k' : Int) (t t' : ByteArray) (c c' : Fo) (a a' : Option Addr) (cap cap' : Nat) (w : World) (hq : EqOk c.count) (hs : Sl w.heap.size w a cap c) (hs' : Sl w.heap.size w a' cap' c') :
    Calls Try.prog 62 #[.agg #[.int .i64 k, .string t, .slice a c.len cap], .agg #[.int .i64 k', .string t', .slice a' c'.len cap']] w (OutV w (.bool (decide (k = k') && decide (t = t') && eqF c c'))) := by
  have hb : Below w.heap.size w ((w.alloc (.cells #[.int .i64 k, .string t, .slice a c.len cap] 35)).alloc (.cells #[.int .i64 k', .string t', .slice a' c'.len cap'] 35)) := ((Below.refl _ _).alloc (Nat.le_refl _) _).alloc (by simp) _
  obtain ⟨x0, x1, x2, y0, y1, y2⟩ := two_boxes w k k' t t' (.slice a c.len cap) (.slice a' c'.len cap')
  have E := Lib.hid (hq c c' a a' cap cap' _ (Nat.le_refl _) (hs.below hb hb.size) (hs'.below hb hb.size))
  have HB := Lib.hid hb
  clear hq hs hs' hb
  by_cases hk : k = k'
  · subst hk
    by_cases ht : t = t'
    · subst ht
      obtain ⟨q, hq⟩ : ∃ q, q = eqF c c' := ⟨_, rfl⟩
      rw [show (decide (k = k) && decide (t = t) && eqF c c') = eqF c c' from by simp]
      rw [← hq] at E ⊢
      clear hq
      go_enter Try.func62, Try.ntmps62
      go_wp2_with (first
        | (go_at_call 20; refine E.out.mono ?_; rintro e w3 ⟨rfl, hb3⟩)
        | fail)
      go_ret
      exact ⟨rfl, HB.out.trans (hb3.mono HB.out.size)⟩
    · have et := text_ne ht
      rw [show (decide (k = k) && decide (t = t') && eqF c c') = false from by rw [decide_eq_false ht]; simp]
      clear ht
      go_enter Try.func62, Try.ntmps62
      go_wp2
      go_ret
      exact ⟨rfl, HB.out⟩
  · have ek : (k == k') = false := by simpa using hk
    rw [show (decide (k = k') && decide (t = t') && eqF c c') = false from by rw [decide_eq_false hk]; simp]
    clear hk
    go_enter Try.func62, Try.ntmps62
    go_wp2
    go_ret
    exact ⟨rfl, HB.out⟩

set_option maxHeartbeats 12800000 in
set_option maxRecDepth 100000 in
theorem eqfunc_any (f g : Fo) (a a' : Option Addr) (cap cap' : Nat) (w : World) (hq : ∀ M, M < f.count → EqOk M) (hs : Sl w.heap.size w a cap f) (hs' : Sl w.heap.size w a' cap' g) :
    Calls Try.prog 61 #[.slice a f.len cap, .slice a' g.len cap', .func (.func 62) #[] #[]] w (OutV w (.bool (eqF f g))) := by
  obtain ⟨b, o, hab, hbw, HCX⟩ := base_of hs
  obtain ⟨b', o', hab', hbw', HCX'⟩ := base_of hs'
  have HAB := Lib.hid hab
  have HBW := Lib.hid hbw
  have HAB' := Lib.hid hab'
  have HBW' := Lib.hid hbw'
  have HQ := Lib.hid hq
  have hcap := hs.cap
  have hcap' := hs'.cap
  have hcm : f.len ≤ 9223372036854775807 := by have h1 := hcap.1; have h2 := hcap.2; unfold maxLen at h2; omega
  have hcm' : g.len ≤ 9223372036854775807 := by have h1 := hcap'.1; have h2 := hcap'.2; unfold maxLen at h2; omega
  clear hab hbw hab' hbw' hq hs hs' hcap hcap'
  obtain ⟨n, hn⟩ : ∃ n, n = f.len := ⟨_, rfl⟩
  obtain ⟨n', hn'⟩ : ∃ n', n' = g.len := ⟨_, rfl⟩
  rw [← hn] at hcm ⊢
  rw [← hn'] at hcm' ⊢
  obtain ⟨R, hR⟩ : ∃ R, R = eqF f g := ⟨_, rfl⟩
  rw [← hR]
  have HN := Lib.hid hn
  have HN' := Lib.hid hn'
  have HR := Lib.hid hR
  clear hn hn' hR
  by_cases hne : n = n'
  · subst hne
    have e0 : ((n : Int) != (n : Int)) = false := by simp
    go_enter Try.func61, Try.ntmps61
    go_wp2_with fail
    go_loopw [17] (fun i wr => ∃ k : Nat, i = .int .i64 k ∧ k ≤ n ∧ Hid (Below w.heap.size w wr) ∧ Hid (R = eqF (f.drop k) (g.drop k))) (fun i _ => n - (intOf i).toNat)
    case atStart => exact ⟨0, rfl, Nat.zero_le _, Lib.hid (Below.refl _ _), Lib.hid (by rw [Fo.drop_zero, Fo.drop_zero]; exact HR.out)⟩
    case round =>
      obtain ⟨k, rfl, hk, hbl, hr⟩ := hrel
      by_cases hkl : k < n
      · have hki : (k : Int) < (n : Int) := by omega
        obtain rfl := HAB.out (by have := HN.out; omega)
        obtain rfl := HAB'.out (by have := HN'.out; omega)
        have hb := HBW.out (by have := HN.out; omega)
        have hb' := HBW'.out (by have := HN'.out; omega)
        obtain ⟨kd, t, c, hd⟩ := Fo.drop_at (n := k) (f := f) (by have := HN.out; omega)
        obtain ⟨kd', t', c', hd'⟩ := Fo.drop_at (n := k) (f := g) (by have := HN'.out; omega)
        obtain ⟨x0, x1, ac, capc, x2, hsc⟩ := HCX.out k kd t c _ hd
        obtain ⟨y0, y1, ac', capc', y2, hsc'⟩ := HCX'.out k kd' t' c' _ hd'
        have z0 := (hbl.out.cell (p := ⟨b, o + k * 3, none⟩) hb).trans x0
        have z1 := (hbl.out.cell (p := ⟨b, o + k * 3 + 1, none⟩) hb).trans x1
        have z2 := (hbl.out.cell (p := ⟨b, o + k * 3 + 2, none⟩) hb).trans x2
        have hblA := hbl.out.alloc hbl.out.size (.cells #[.int .i64 kd, .string t, .slice ac c.len capc] 35)
        have v0 := (hblA.cell (p := ⟨b', o' + k * 3, none⟩) hb').trans y0
        have v1 := (hblA.cell (p := ⟨b', o' + k * 3 + 1, none⟩) hb').trans y1
        have v2 := (hblA.cell (p := ⟨b', o' + k * 3 + 2, none⟩) hb').trans y2
        have hblB := hblA.alloc hblA.size (.cells #[.int .i64 kd', .string t', .slice ac' c'.len capc'] 35)
        obtain ⟨p0, p1, p2, q0, q1, q2⟩ := two_boxes wr kd kd' t t' (.slice ac c.len capc) (.slice ac' c'.len capc')
        have hst := Lib.hid (show R = ((decide (kd = kd') && decide (t = t') && eqF c c') && eqF (f.drop (k + 1)) (g.drop (k + 1))) from by rw [hr.out, hd, hd', eqF_cons])
        have E := Lib.hid (eqterms_any kd kd' t t' c c' ac ac' capc capc' ((wr.alloc (.cells #[.int .i64 kd, .string t, .slice ac c.len capc] 35)).alloc (.cells #[.int .i64 kd', .string t', .slice ac' c'.len capc'] 35)) (HQ.out c.count (Fo.count_kid hd)) (hsc.below hblB hblB.size) (hsc'.below hblB hblB.size))
        obtain ⟨q, hqq⟩ : ∃ q, q = (decide (kd = kd') && decide (t = t') && eqF c c') := ⟨_, rfl⟩
        rw [← hqq] at E hst
        have HBB := Lib.hid hblB
        clear hqq hd hd' x0 x1 x2 y0 y1 y2 hsc hsc' hblA hblB
        cases q
        · go_wp2_with (first
            | (go_at_call 62; refine E.out.mono ?_; rintro e w3 ⟨rfl, hb3⟩)
            | fail)
          go_ret
          exact ⟨by rw [hst.out]; rfl, HBB.out.trans (hb3.mono HBB.out.size)⟩
        · go_wp2_with (first
            | (go_at_call 62; refine E.out.mono ?_; rintro e w3 ⟨rfl, hb3⟩; have b3 := Lib.hid (HBB.out.trans (hb3.mono HBB.out.size)); clear hb3)
            | fail)
          go_roundw
          case rel => exact ⟨k + 1, by go_num, by omega, b3, Lib.hid (by rw [hst.out, Bool.true_and])⟩
          case measure => simp [intOf]; omega
      · obtain rfl : k = n := by omega
        have hki : ¬ ((k : Nat) : Int) < (k : Int) := by omega
        have hE := Lib.hid (show R = true from by
          have h := hr.out
          have h1 := Fo.drop_len f
          have h2 := Fo.drop_len g
          rw [← HN.out] at h1
          rw [← HN'.out] at h2
          rw [h, h1, h2]; rfl)
        go_wp2
        go_ret
        exact ⟨by rw [hE.out]; rfl, hbl.out⟩
  · have e0 : ((n : Int) != (n' : Int)) = true := by rw [bne_iff_ne]; omega
    have hE := Lib.hid (show R = false from by rw [HR.out]; exact eqF_len (by have h1 := HN.out; have h2 := HN'.out; omega))
    clear hne
    go_enter Try.func61, Try.ntmps61
    go_wp2
    go_ret
    exact ⟨by rw [hE.out]; rfl, Below.refl _ _⟩

theorem eq_all (N : Nat) : EqOk N := by
  induction N using Nat.strongRecOn with
  | _ N ih =>
    intro f g a a' cap cap' w hc hs hs'
    have S := Lib.hid (eqfunc_any f g a a' cap cap' w (fun M hM => ih M (by omega)) hs hs')
    clear hs hs'
    go_enter Try.func20, Try.ntmps20
    go_wp2_with (first
      | (go_at_call 61; refine S.out.mono ?_; rintro e w3 ⟨rfl, hb3⟩)
      | fail)
    go_ret
    exact ⟨rfl, hb3⟩
theorem pequal_any (f g : Fo) (a a' : Option Addr) (cap cap' : Nat) (w : World) (hs : Sl w.heap.size w a cap f) (hs' : Sl w.heap.size w a' cap' g) :
    Calls Try.prog 20 #[.slice a f.len cap, .slice a' g.len cap'] w (OutV w (.bool (eqF f g))) := eq_all f.count f g a a' cap cap' w (Nat.le_refl _) hs hs'
end Go.Proofs.Ytajdpchojimigaa

namespace Go.Proofs.Ytajdpchojimigaa
open Go.RowKit TmM

def sgL : List UInt8 → List UInt8 → Int
  | [], [] => 0
  | [], _ :: _ => -1
  | _ :: _, [] => 1
  | a :: x, b :: y => if a.toNat < b.toNat then -1 else if b.toNat < a.toNat then 1 else sgL x y
theorem sgL_sign : ∀ x y : List UInt8, sgL x y = if Op.bytesLess x y then -1 else if x == y then 0 else 1
  | [], [] => rfl
  | [], _ :: _ => by simp [sgL, Op.bytesLess]
  | _ :: _, [] => by simp [sgL, Op.bytesLess]
  | a :: x, b :: y => by
    rw [sgL, Op.bytesLess, sgL_sign x y]
    by_cases h1 : a.toNat < b.toNat
    · have h : a < b := UInt8.lt_iff_toNat_lt.2 h1
      simp [h1, h]
    · have h : ¬ a < b := fun e => h1 (UInt8.lt_iff_toNat_lt.1 e)
      by_cases h2 : b.toNat < a.toNat
      · have hne : a ≠ b := fun e => by rw [e] at h2; omega
        simp [h1, h2, h, hne]
      · have he : a = b := UInt8.toNat_inj.1 (by omega)
        subst he
        simp
theorem sign_list (s t : ByteArray) : signB s t = sgL s.data.toList t.data.toList := by
  rw [sgL_sign, signB, ByteArray.toList_eq, ByteArray.toList_eq]

theorem isnanb_any (x : Nat) (w : World) : Calls Try.prog 142 #[.int .u8 (x : Int)] w (fun e w' => e = .returned (.bool false) ∧ w' = w) := by
  go_enter Try.func142, Try.ntmps142
  go_wp2
  go_ret
  exact ⟨by simp, rfl⟩
def cmpN (x y : Nat) : Int := if x < y then -1 else if y < x then 1 else 0
theorem cmpb_any (x y : Nat) (w : World) : Calls Try.prog 120 #[.int .u8 (x : Int), .int .u8 (y : Int)] w (fun e w' => e = .returned (.int .i64 (cmpN x y)) ∧ w' = w) := by
  have I := Lib.hid (fun x w => isnanb_any x w)
  by_cases h1 : x < y
  · have h1i : (x : Int) < (y : Int) := by omega
    have hr := Lib.hid (show cmpN x y = -1 from if_pos h1)
    clear h1
    go_enter Try.func120, Try.ntmps120
    go_wp2_with (first | (go_at_call 142; refine (I.out _ _).mono ?_; rintro e w' ⟨rfl, rfl⟩) | fail)
    go_ret
    exact ⟨by rw [hr.out]; rfl, rfl⟩
  · have h1i : ¬ (x : Int) < (y : Int) := by omega
    by_cases h2 : y < x
    · have h2i : (y : Int) < (x : Int) := by omega
      have hr := Lib.hid (show cmpN x y = 1 from by rw [cmpN, if_neg h1, if_pos h2])
      clear h1 h2
      go_enter Try.func120, Try.ntmps120
      go_wp2_with (first | (go_at_call 142; refine (I.out _ _).mono ?_; rintro e w' ⟨rfl, rfl⟩) | fail)
      go_ret
      exact ⟨by rw [hr.out]; rfl, rfl⟩
    · have h2i : ¬ (y : Int) < (x : Int) := by omega
      have hr := Lib.hid (show cmpN x y = 0 from by rw [cmpN, if_neg h1, if_neg h2])
      clear h1 h2
      go_enter Try.func120, Try.ntmps120
      go_wp2_with (first | (go_at_call 142; refine (I.out _ _).mono ?_; rintro e w' ⟨rfl, rfl⟩) | fail)
      go_ret
      exact ⟨by rw [hr.out]; rfl, rfl⟩

theorem sgL_drop {s t : ByteArray} {k : Nat} (h1 : k < s.size) (h2 : k < t.size) : sgL (s.data.toList.drop k) (t.data.toList.drop k) = if cmpN s[k].toNat t[k].toNat ≠ 0 then cmpN s[k].toNat t[k].toNat else sgL (s.data.toList.drop (k + 1)) (t.data.toList.drop (k + 1)) := by
  have e1 : s.data.toList.drop k = s[k] :: s.data.toList.drop (k + 1) := List.drop_eq_getElem_cons (by simpa using h1)
  have e2 : t.data.toList.drop k = t[k] :: t.data.toList.drop (k + 1) := List.drop_eq_getElem_cons (by simpa using h2)
  rw [e1, e2, sgL, cmpN]
  by_cases h1 : s[k].toNat < t[k].toNat
  · simp [h1]
  · by_cases h2 : t[k].toNat < s[k].toNat
    · simp [h1, h2]
    · simp [h1, h2]

set_option maxHeartbeats 6400000 in
set_option maxRecDepth 100000 in
theorem cmpbytes_any (s t : ByteArray) (b b' cap cap' : Nat) (w : World) (hs : s.size ≤ 100000000) (_ : t.size ≤ 100000000) (h1 : ∀ j (hj : j < s.size), w.cell? ⟨b, j, none⟩ = some (.int .u8 (s[j].toNat : Int))) (h2 : ∀ j (hj : j < t.size), w.cell? ⟨b', j, none⟩ = some (.int .u8 (t[j].toNat : Int))) :
    Calls Try.prog 87 #[.slice (some ⟨b, 0, none⟩) s.size cap, .slice (some ⟨b', 0, none⟩) t.size cap'] w (fun e w' => e = .returned (.int .i64 (signB s t)) ∧ w' = w) := by
  obtain ⟨R, hR⟩ : ∃ R, R = signB s t := ⟨_, rfl⟩
  rw [← hR]
  rw [sign_list] at hR
  have HR := Lib.hid hR
  have H1 := Lib.hid h1
  have H2 := Lib.hid h2
  have C := Lib.hid (fun x y w => cmpb_any x y w)
  clear hR h1 h2
  go_enter Try.func87, Try.ntmps87
  go_wp2_with fail
  go_loop [11] (fun i => ∃ k : Nat, i = .int .i64 k ∧ k ≤ s.size ∧ k ≤ t.size ∧ Hid (R = sgL (s.data.toList.drop k) (t.data.toList.drop k))) (fun i => s.size - (intOf i).toNat)
  case atStart => exact ⟨0, rfl, Nat.zero_le _, Nat.zero_le _, HR⟩
  case round =>
    obtain ⟨k, rfl, hk1, hk2, hr⟩ := hrel
    by_cases hks : k < s.size
    · have hki : (k : Int) < (s.size : Int) := by omega
      by_cases hkt : k < t.size
      · have hkj : ¬ (t.size : Int) ≤ (k : Int) := by omega
        have c1 := H1.out k hks
        have c2 := H2.out k hkt
        have hst := Lib.hid (hr.out.trans (sgL_drop hks hkt))
        obtain ⟨q, hq⟩ : ∃ q, q = cmpN s[k].toNat t[k].toNat := ⟨_, rfl⟩
        have CC0 := C.out s[k].toNat t[k].toNat
        rw [← hq] at CC0 hst
        have CC := Lib.hid CC0
        clear hq CC0
        by_cases hz : q = 0
        · have hz2 : (q != 0) = false := by simpa using hz
          have hst2 := Lib.hid (show R = sgL (s.data.toList.drop (k + 1)) (t.data.toList.drop (k + 1)) from by rw [hst.out, if_neg (by simpa using hz)])
          clear hz
          go_wp2_with (first | (go_at_call 120; refine (CC.out _).mono ?_; rintro e w' ⟨rfl, rfl⟩) | fail)
          go_round
          case rel => exact ⟨k + 1, by go_num, by omega, by omega, hst2⟩
          case measure => simp [intOf]; omega
        · have hz2 : (q != 0) = true := by simpa using hz
          have hst2 := Lib.hid (show R = q from by rw [hst.out, if_pos hz])
          clear hz
          go_wp2_with (first | (go_at_call 120; refine (CC.out _).mono ?_; rintro e w' ⟨rfl, rfl⟩) | fail)
          go_ret
          exact ⟨by rw [hst2.out]; rfl, rfl⟩
      · obtain rfl : k = t.size := by omega
        have hkj : (t.size : Int) ≤ (t.size : Int) := by omega
        have c1 := H1.out t.size hks
        have hst2 := Lib.hid (show R = 1 from by
          rw [hr.out]
          have e1 : s.data.toList.drop t.size = s[t.size] :: s.data.toList.drop (t.size + 1) := List.drop_eq_getElem_cons (by simpa using hks)
          have e2 : t.data.toList.drop t.size = [] := List.drop_eq_nil_of_le (by simp)
          rw [e1, e2]; rfl)
        go_wp2
        go_ret
        exact ⟨by rw [hst2.out]; rfl, rfl⟩
    · obtain rfl : k = s.size := by omega
      have hki : ¬ ((s.size : Nat) : Int) < (s.size : Int) := by omega
      have e1 : s.data.toList.drop s.size = [] := List.drop_eq_nil_of_le (by simp)
      by_cases hl : s.size < t.size
      · have hli : (s.size : Int) < (t.size : Int) := by omega
        have hst2 := Lib.hid (show R = -1 from by
          rw [hr.out, e1]
          have e2 : t.data.toList.drop s.size = t[s.size] :: t.data.toList.drop (s.size + 1) := List.drop_eq_getElem_cons (by simpa using hl)
          rw [e2]; rfl)
        clear e1
        go_wp2
        go_ret
        exact ⟨by rw [hst2.out]; rfl, rfl⟩
      · have hli : ¬ (s.size : Int) < (t.size : Int) := by omega
        have hst2 := Lib.hid (show R = 0 from by
          rw [hr.out, e1, List.drop_eq_nil_of_le (by simp; omega)]; rfl)
        clear e1
        go_wp2
        go_ret
        exact ⟨by rw [hst2.out]; rfl, rfl⟩
end Go.Proofs.Ytajdpchojimigaa

namespace Go.Proofs.Ytajdpchojimigaa
open Go.RowKit TmM

theorem isnani_any (x : Int) (w : World) : Calls Try.prog 119 #[.int .i64 x] w (fun e w' => e = .returned (.bool false) ∧ w' = w) := by
  go_enter Try.func119, Try.ntmps119
  go_wp2
  go_ret
  exact ⟨by simp, rfl⟩
def cmpZ (x y : Int) : Int := if x < y then -1 else if y < x then 1 else 0
theorem cmpi_any (x y : Int) (w : World) : Calls Try.prog 86 #[.int .i64 x, .int .i64 y] w (fun e w' => e = .returned (.int .i64 (cmpZ x y)) ∧ w' = w) := by
  have I := Lib.hid (fun x w => isnani_any x w)
  by_cases h1 : x < y
  · have hr := Lib.hid (show cmpZ x y = -1 from if_pos h1)
    go_enter Try.func86, Try.ntmps86
    go_wp2_with (first | (go_at_call 119; refine (I.out _ _).mono ?_; rintro e w' ⟨rfl, rfl⟩) | fail)
    go_ret
    exact ⟨by rw [hr.out]; rfl, rfl⟩
  · by_cases h2 : y < x
    · have hr := Lib.hid (show cmpZ x y = 1 from by rw [cmpZ, if_neg h1, if_pos h2])
      go_enter Try.func86, Try.ntmps86
      go_wp2_with (first | (go_at_call 119; refine (I.out _ _).mono ?_; rintro e w' ⟨rfl, rfl⟩) | fail)
      go_ret
      exact ⟨by rw [hr.out]; rfl, rfl⟩
    · have hr := Lib.hid (show cmpZ x y = 0 from by rw [cmpZ, if_neg h1, if_neg h2])
      go_enter Try.func86, Try.ntmps86
      go_wp2_with (first | (go_at_call 119; refine (I.out _ _).mono ?_; rintro e w' ⟨rfl, rfl⟩) | fail)
      go_ret
      exact ⟨by rw [hr.out]; rfl, rfl⟩

/-- the order of two terms. -/
def cmpT (k k' : Int) (t t' : ByteArray) (c c' : Fo) : Int := if k ≠ k' then (if k < k' then -1 else 1) else if signB t t' ≠ 0 then signB t t' else cmpF c c'
theorem cmpF_T (k k' : Int) (t t' : ByteArray) (c c' r r' : Fo) : cmpF (.cons k t c r) (.cons k' t' c' r') = if cmpT k k' t t' c c' ≠ 0 then cmpT k k' t t' c c' else cmpF r r' := by
  by_cases hk : k = k'
  · by_cases h1 : signB t t' = 0
    · simp [cmpF, cmpT, hk, h1]
    · simp [cmpF, cmpT, hk, h1]
  · by_cases h : k < k'
    · simp [cmpF, cmpT, hk, h]
    · simp [cmpF, cmpT, hk, h]
def CmOk (N : Nat) : Prop := ∀ (f g : Fo) (a a' : Option Addr) (cap cap' : Nat) (w : World), f.count ≤ N → Small f → Small g → Sl w.heap.size w a cap f → Sl w.heap.size w a' cap' g →
    Calls Try.prog 22 #[.slice a f.len cap, .slice a' g.len cap'] w (OutV w (.int .i64 (cmpF f g)))

theorem conv2 (W : World) (s t : ByteArray) (c1 c2 : Nat) (f1 f2 : Nat × Nat) :
    (∀ j (hj : j < s.size), ((W.alloc (.cells (bytesRow s c1) 5 f1)).alloc (.cells (bytesRow t c2) 5 f2)).cell? ⟨W.heap.size, j, none⟩ = some (.int .u8 (s[j].toNat : Int))) ∧
    (∀ j (hj : j < t.size), ((W.alloc (.cells (bytesRow s c1) 5 f1)).alloc (.cells (bytesRow t c2) 5 f2)).cell? ⟨W.heap.size + 1, j, none⟩ = some (.int .u8 (t[j].toNat : Int))) := by
  have h1 : ((W.alloc (.cells (bytesRow s c1) 5 f1)).alloc (.cells (bytesRow t c2) 5 f2)).heap[W.heap.size]? = some (.cells (bytesRow s c1) 5 f1) := (heap_alloc_old _ _ (by simp)).trans (heap_alloc_new W _)
  have h2 : ((W.alloc (.cells (bytesRow s c1) 5 f1)).alloc (.cells (bytesRow t c2) 5 f2)).heap[W.heap.size + 1]? = some (.cells (bytesRow t c2) 5 f2) := by
    have h := heap_alloc_new (W.alloc (.cells (bytesRow s c1) 5 f1)) (.cells (bytesRow t c2) 5 f2)
    simpa using h
  refine ⟨fun j hj => ?_, fun j hj => ?_⟩
  · simp only [World.cell?, h1]; exact bytesRow_at s c1 j hj
  · simp only [World.cell?, h2]; exact bytesRow_at t c2 j hj

theorem conv2d (W : World) (s t : ByteArray) (c1 c2 : Nat) (f1 f2 : Nat × Nat) :
    (∀ j (hj : j < s.size), ((W.alloc (.cells (bytesRow s c1) 5 f1)).alloc (.cells (bytesRow t c2) 5 f2)).drew.drew.cell? ⟨W.heap.size, j, none⟩ = some (.int .u8 (s[j].toNat : Int))) ∧
    (∀ j (hj : j < t.size), ((W.alloc (.cells (bytesRow s c1) 5 f1)).alloc (.cells (bytesRow t c2) 5 f2)).drew.drew.cell? ⟨W.heap.size + 1, j, none⟩ = some (.int .u8 (t[j].toNat : Int))) := conv2 W s t c1 c2 f1 f2
theorem below2d (W : World) (o1 o2 : Obj) : Below W.heap.size W ((W.alloc o1).alloc o2).drew.drew := ((((Below.refl _ _).alloc (Nat.le_refl _) _).alloc (by simp) _).drew).drew

set_option maxHeartbeats 6400000 in
set_option maxRecDepth 100000 in
theorem cmpterms_any (k k' : Int) (t t' : ByteArray) (c c' : Fo) (a a' : Option Addr) (cap cap' : Nat) (w : World) (ht : t.size ≤ 1000000) (ht' : t'.size ≤ 1000000) (hc : Small c) (hc' : Small c') (hq : CmOk c.count) (hs : Sl w.heap.size w a cap c) (hs' : Sl w.heap.size w a' cap' c') :
    Calls Try.prog 64 #[.agg #[.int .i64 k, .string t, .slice a c.len cap], .agg #[.int .i64 k', .string t', .slice a' c'.len cap']] w (OutV w (.int .i64 (cmpT k k' t t' c c'))) := by
  obtain ⟨W, hW⟩ : ∃ W, W = (w.alloc (.cells #[.int .i64 k, .string t, .slice a c.len cap] 35)).alloc (.cells #[.int .i64 k', .string t', .slice a' c'.len cap'] 35) := ⟨_, rfl⟩
  have hb : Below w.heap.size w W := by rw [hW]; exact ((Below.refl _ _).alloc (Nat.le_refl _) _).alloc (by simp) _
  have hz : W.heap.size = w.heap.size + 1 + 1 := by rw [hW]; simp
  obtain ⟨x0, x1, x2, y0, y1, y2⟩ := two_boxes w k k' t t' (.slice a c.len cap) (.slice a' c'.len cap')
  rw [← hW] at x0 x1 x2 y0 y1 y2
  have HB := Lib.hid hb
  have CI0 := fun w => cmpi_any k k' w
  by_cases hk : k = k'
  · subst hk
    have hz0 : cmpZ k k = 0 := by simp [cmpZ]
    rw [hz0] at CI0
    have CI := Lib.hid CI0
    have HT := Lib.hid (show cmpT k k t t' c c' = if signB t t' ≠ 0 then signB t t' else cmpF c c' from by rw [cmpT, if_neg (by simp)])
    have CB0 := fun b b' cap cap' w h1 h2 => cmpbytes_any t t' b b' cap cap' w (by omega) (by omega) h1 h2
    obtain ⟨S, hS⟩ : ∃ S, S = signB t t' := ⟨_, rfl⟩
    rw [← hS] at HT CB0
    obtain ⟨R, hR⟩ : ∃ R, R = cmpT k k t t' c c' := ⟨_, rfl⟩
    rw [← hR] at HT ⊢
    have CB := Lib.hid CB0
    clear hS hR CB0
    have hc1 := fun (w : World) => run_bytes_of_string (P := Try.prog) w 9 71 5 t Try.underlying9 Try.underlying71 Try.underlying5
    have hc2 := fun (w : World) => run_bytes_of_string (P := Try.prog) w 9 71 5 t' Try.underlying9 Try.underlying71 Try.underlying5
    have HZ := Lib.hid hz
    have HQ := Lib.hid (fun w2 (h : Below w.heap.size w w2) => hq c c' a a' cap cap' w2 (Nat.le_refl _) hc hc' (hs.below h h.size) (hs'.below h h.size))
    clear hc hc' hq hs hs' hb hz hz0 CI0
    go_enter Try.func64, Try.ntmps64
    go_wp2_with fail
    rw [← hW]
    clear hW
    refine (CI.out _).mono ?_
    rintro e w3 ⟨rfl, rfl⟩
    have hl1 : w.heap.size + 1 < w3.heap.size := by have := HZ.out; omega
    have m1 : ∀ o, (w3.alloc o).drew.cell? ⟨w.heap.size + 1, 1, none⟩ = some (.string t') := fun o => (World.cell?_of_block (a := ⟨w.heap.size + 1, 1, none⟩) (heap_alloc_old w3 o hl1)).trans y1
    go_wp2_with fail
    refine (CB.out w3.heap.size (w3.heap.size + 1) _ _ _ (conv2d w3 t t' _ _ _ _).1 (conv2d w3 t t' _ _ _ _).2).mono ?_
    rintro e w5 ⟨rfl, hw5⟩
    have b5 : Below w3.heap.size w3 w5 := by rw [hw5]; exact below2d w3 _ _
    clear hw5 hc1 hc2 m1
    have HB5 := Lib.hid (HB.out.trans (b5.mono HB.out.size))
    by_cases hs0 : S = 0
    · have e0 : (S != 0) = false := by simpa using hs0
      have HR := Lib.hid (show R = cmpF c c' from by rw [HT.out, if_neg (by simpa using hs0)])
      have z2 := (b5.cell (p := ⟨w.heap.size, 2, none⟩) (show w.heap.size < w3.heap.size by omega)).trans x2
      have v2 := (b5.cell (p := ⟨w.heap.size + 1, 2, none⟩) (show w.heap.size + 1 < w3.heap.size by omega)).trans y2
      have E := Lib.hid (HQ.out w5 HB5.out)
      rw [← HR.out] at E
      clear hs0 b5 x0 x1 x2 y0 y1 y2
      go_wp2_with (first
        | (go_at_call 22; refine E.out.mono ?_; rintro e w6 ⟨rfl, hb6⟩)
        | fail)
      go_ret
      exact ⟨rfl, HB5.out.trans (hb6.mono HB5.out.size)⟩
    · have e0 : (S != 0) = true := by simpa using hs0
      have HR := Lib.hid (show R = S from by rw [HT.out, if_pos hs0])
      clear hs0 b5 x0 x1 x2 y0 y1 y2
      go_wp2
      go_ret
      exact ⟨by rw [HR.out]; rfl, HB5.out⟩
  · have hz1 : (cmpZ k k' != 0) = true := by
      rw [bne_iff_ne, cmpZ]
      by_cases h1 : k < k'
      · rw [if_pos h1]; decide
      · rw [if_neg h1, if_pos (by omega)]; decide
    have HT := Lib.hid (show cmpT k k' t t' c c' = cmpZ k k' from by
      rw [cmpT, if_pos hk, cmpZ]
      by_cases h1 : k < k'
      · rw [if_pos h1, if_pos h1]
      · rw [if_neg h1, if_neg h1, if_pos (by omega)])
    obtain ⟨S, hS⟩ : ∃ S, S = cmpZ k k' := ⟨_, rfl⟩
    rw [← hS] at CI0 HT hz1
    have CI := Lib.hid CI0
    clear hc hc' hq hs hs' hb hz CI0 hS hk
    go_enter Try.func64, Try.ntmps64
    go_wp2_with fail
    rw [← hW]
    clear hW
    refine (CI.out _).mono ?_
    rintro e w3 ⟨rfl, rfl⟩
    go_wp2
    go_ret
    exact ⟨by rw [HT.out]; rfl, HB.out⟩

set_option maxHeartbeats 12800000 in
set_option maxRecDepth 100000 in
theorem cmpfunc_any (f g : Fo) (a a' : Option Addr) (cap cap' : Nat) (w : World) (hq : ∀ M, M < f.count → CmOk M) (hf : Small f) (hg : Small g) (hs : Sl w.heap.size w a cap f) (hs' : Sl w.heap.size w a' cap' g) :
    Calls Try.prog 63 #[.slice a f.len cap, .slice a' g.len cap', .func (.func 64) #[] #[]] w (OutV w (.int .i64 (cmpF f g))) := by
  obtain ⟨b, o, hab, hbw, HCX⟩ := base_of hs
  obtain ⟨b', o', hab', hbw', HCX'⟩ := base_of hs'
  have HAB := Lib.hid hab
  have HBW := Lib.hid hbw
  have HAB' := Lib.hid hab'
  have HBW' := Lib.hid hbw'
  have HQ := Lib.hid hq
  have HF := Lib.hid hf
  have HG := Lib.hid hg
  have hcap := hs.cap
  have hcap' := hs'.cap
  have hcm : f.len ≤ 9223372036854775807 := by have h1 := hcap.1; have h2 := hcap.2; unfold maxLen at h2; omega
  have hcm' : g.len ≤ 9223372036854775807 := by have h1 := hcap'.1; have h2 := hcap'.2; unfold maxLen at h2; omega
  clear hab hbw hab' hbw' hq hs hs' hcap hcap' hf hg
  obtain ⟨n, hn⟩ : ∃ n, n = f.len := ⟨_, rfl⟩
  obtain ⟨n', hn'⟩ : ∃ n', n' = g.len := ⟨_, rfl⟩
  rw [← hn] at hcm ⊢
  rw [← hn'] at hcm' ⊢
  obtain ⟨R, hR⟩ : ∃ R, R = cmpF f g := ⟨_, rfl⟩
  rw [← hR]
  have HN := Lib.hid hn
  have HN' := Lib.hid hn'
  have HR := Lib.hid hR
  clear hn hn' hR
  go_enter Try.func63, Try.ntmps63
  go_wp2_with fail
  go_loopw [13] (fun i wr => ∃ k : Nat, i = .int .i64 k ∧ k ≤ n ∧ k ≤ n' ∧ Hid (Below w.heap.size w wr) ∧ Hid (R = cmpF (f.drop k) (g.drop k))) (fun i _ => n - (intOf i).toNat)
  case atStart => exact ⟨0, rfl, Nat.zero_le _, Nat.zero_le _, Lib.hid (Below.refl _ _), Lib.hid (by rw [Fo.drop_zero, Fo.drop_zero]; exact HR.out)⟩
  case round =>
    obtain ⟨k, rfl, hk, hk', hbl, hr⟩ := hrel
    by_cases hkl : k < n
    · have hki : (k : Int) < (n : Int) := by omega
      obtain rfl := HAB.out (by have := HN.out; omega)
      have hb := HBW.out (by have := HN.out; omega)
      obtain ⟨kd, t, c, hd⟩ := Fo.drop_at (n := k) (f := f) (by have := HN.out; omega)
      obtain ⟨x0, x1, ac, capc, x2, hsc⟩ := HCX.out k kd t c _ hd
      have z0 := (hbl.out.cell (p := ⟨b, o + k * 3, none⟩) hb).trans x0
      have z1 := (hbl.out.cell (p := ⟨b, o + k * 3 + 1, none⟩) hb).trans x1
      have z2 := (hbl.out.cell (p := ⟨b, o + k * 3 + 2, none⟩) hb).trans x2
      have hblA := hbl.out.alloc hbl.out.size (.cells #[.int .i64 kd, .string t, .slice ac c.len capc] 35)
      by_cases hkg : k < n'
      · have hkj : ¬ (n' : Int) ≤ (k : Int) := by omega
        obtain rfl := HAB'.out (by have := HN'.out; omega)
        have hb' := HBW'.out (by have := HN'.out; omega)
        obtain ⟨kd', t', c', hd'⟩ := Fo.drop_at (n := k) (f := g) (by have := HN'.out; omega)
        obtain ⟨y0, y1, ac', capc', y2, hsc'⟩ := HCX'.out k kd' t' c' _ hd'
        have v0 := (hblA.cell (p := ⟨b', o' + k * 3, none⟩) hb').trans y0
        have v1 := (hblA.cell (p := ⟨b', o' + k * 3 + 1, none⟩) hb').trans y1
        have v2 := (hblA.cell (p := ⟨b', o' + k * 3 + 2, none⟩) hb').trans y2
        have hblB := hblA.alloc hblA.size (.cells #[.int .i64 kd', .string t', .slice ac' c'.len capc'] 35)
        obtain ⟨p0, p1, p2, q0, q1, q2⟩ := two_boxes wr kd kd' t t' (.slice ac c.len capc) (.slice ac' c'.len capc')
        have hst := Lib.hid (show R = if cmpT kd kd' t t' c c' ≠ 0 then cmpT kd kd' t t' c c' else cmpF (f.drop (k + 1)) (g.drop (k + 1)) from by rw [hr.out, hd, hd', cmpF_T])
        obtain ⟨ht, hsm⟩ := HF.out.at hd
        obtain ⟨ht', hsm'⟩ := HG.out.at hd'
        have E := Lib.hid (cmpterms_any kd kd' t t' c c' ac ac' capc capc' ((wr.alloc (.cells #[.int .i64 kd, .string t, .slice ac c.len capc] 35)).alloc (.cells #[.int .i64 kd', .string t', .slice ac' c'.len capc'] 35)) ht ht' hsm hsm' (HQ.out c.count (Fo.count_kid hd)) (hsc.below hblB hblB.size) (hsc'.below hblB hblB.size))
        obtain ⟨q, hqq⟩ : ∃ q, q = cmpT kd kd' t t' c c' := ⟨_, rfl⟩
        rw [← hqq] at E hst
        have HBB := Lib.hid hblB
        clear hqq hd hd' x0 x1 x2 y0 y1 y2 hsc hsc' hblA hblB ht ht' hsm hsm'
        by_cases hz : q = 0
        · have e0 : (q != 0) = false := by simpa using hz
          have hst2 := Lib.hid (show R = cmpF (f.drop (k + 1)) (g.drop (k + 1)) from by rw [hst.out, if_neg (by simpa using hz)])
          clear hz
          go_wp2_with (first
            | (go_at_call 64; refine E.out.mono ?_; rintro e w3 ⟨rfl, hb3⟩; have b3 := Lib.hid (HBB.out.trans (hb3.mono HBB.out.size)); clear hb3)
            | fail)
          go_roundw
          case rel => exact ⟨k + 1, by go_num, by omega, by omega, b3, hst2⟩
          case measure => simp [intOf]; omega
        · have e0 : (q != 0) = true := by simpa using hz
          have hst2 := Lib.hid (show R = q from by rw [hst.out, if_pos hz])
          clear hz
          go_wp2_with (first
            | (go_at_call 64; refine E.out.mono ?_; rintro e w3 ⟨rfl, hb3⟩)
            | fail)
          go_ret
          exact ⟨by rw [hst2.out]; rfl, HBB.out.trans (hb3.mono HBB.out.size)⟩
      · obtain rfl : k = n' := by omega
        have hkj : ((k : Nat) : Int) ≤ (k : Int) := by omega
        have hst2 := Lib.hid (show R = 1 from by
          have h2 := Fo.drop_len g
          rw [← HN'.out] at h2
          rw [hr.out, hd, h2]; rfl)
        have HBA := Lib.hid hblA
        clear hd x0 x1 x2 hsc hblA
        go_wp2
        go_ret
        exact ⟨by rw [hst2.out]; rfl, HBA.out⟩
    · obtain rfl : k = n := by omega
      have hki : ¬ ((k : Nat) : Int) < (k : Int) := by omega
      have h1 := Lib.hid (show f.drop k = .nil from by have h := Fo.drop_len f; rwa [← HN.out] at h)
      by_cases hl : k < n'
      · have hli : (k : Int) < (n' : Int) := by omega
        have hst2 := Lib.hid (show R = -1 from by
          obtain ⟨kd', t', c', hd'⟩ := Fo.drop_at (n := k) (f := g) (by have := HN'.out; omega)
          rw [hr.out, h1.out, hd']; rfl)
        go_wp2
        go_ret
        exact ⟨by rw [hst2.out]; rfl, hbl.out⟩
      · have hli : ¬ (k : Int) < (n' : Int) := by omega
        have hst2 := Lib.hid (show R = 0 from by
          obtain rfl : k = n' := by omega
          have h2 := Fo.drop_len g
          rw [← HN'.out] at h2
          rw [hr.out, h1.out, h2]; rfl)
        go_wp2
        go_ret
        exact ⟨by rw [hst2.out]; rfl, hbl.out⟩

theorem cmp_all (N : Nat) : CmOk N := by
  induction N using Nat.strongRecOn with
  | _ N ih =>
    intro f g a a' cap cap' w hc hf hg hs hs'
    have S := Lib.hid (cmpfunc_any f g a a' cap cap' w (fun M hM => ih M (by omega)) hf hg hs hs')
    clear hs hs' hf hg
    go_enter Try.func22, Try.ntmps22
    go_wp2_with (first
      | (go_at_call 63; refine S.out.mono ?_; rintro e w3 ⟨rfl, hb3⟩)
      | fail)
    go_ret
    exact ⟨rfl, hb3⟩
theorem pcompare_any (f g : Fo) (a a' : Option Addr) (cap cap' : Nat) (w : World) (hf : Small f) (hg : Small g) (hs : Sl w.heap.size w a cap f) (hs' : Sl w.heap.size w a' cap' g) :
    Calls Try.prog 22 #[.slice a f.len cap, .slice a' g.len cap'] w (OutV w (.int .i64 (cmpF f g))) := cmp_all f.count f g a a' cap cap' w (Nat.le_refl _) hf hg hs hs'
end Go.Proofs.Ytajdpchojimigaa
