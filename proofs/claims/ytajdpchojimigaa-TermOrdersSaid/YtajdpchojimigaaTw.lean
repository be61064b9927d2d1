/- The text of an expression without words and escapes: the writers. -/
import Derived.Test.YtajdpchojimigaaBu
import Derived.Test.YtajdpchojimigaaPn
namespace Go.Proofs.Ytajdpchojimigaa
open Go.RowKit TmM

theorem Bld.keep {B b : Nat} {l : List UInt8} {w w' : World} (h : Bld B b l w) (hb : Below w.heap.size w w') : Bld B b l w' := by
  have key : ∀ p, Lib.BuilderAt 83 5 B b p (Lib.byteCells l) w → Lib.BuilderAt 83 5 B b p (Lib.byteCells l) w' := by
    rintro p ⟨h1, v, h2, h3, h4⟩
    refine ⟨h1, v, (hb.block b (Array.getElem?_eq_some_iff.1 h2).1).trans h2, ⟨h3.1, h3.2.imp id ?_⟩, h4⟩
    rintro ⟨g, cap, cur, hv, hg, hh, r⟩
    exact ⟨g, cap, cur, hv, hg, (hb.block g (Array.getElem?_eq_some_iff.1 hh).1).trans hh, r⟩
  exact h.imp (key _) (key _)
theorem Bld.lt {B b : Nat} {l : List UInt8} {w : World} (h : Bld B b l w) : B ≤ b ∧ b < w.heap.size := by
  rcases h with h | h <;> exact ⟨h.1, h.lt⟩

/-- what a writer leaves. -/
def OutT (B b : Nat) (l : List UInt8) (w : World) (e : Ending) (w' : World) : Prop := e = .returned (.tuple #[]) ∧ Bld B b l w' ∧ Below B w w'

def plainC (c : UInt8) : Bool := decide (c.toNat ≠ 10) && decide (c.toNat ≠ 9) && decide (c.toNat ≠ 92) && decide (c.toNat ≠ 39) && isN 16 c.toNat

set_option maxHeartbeats 3200000 in
theorem pchar_plain (B b : Nat) (l : List UInt8) (c : UInt8) (w : World) (h : Bld B b l w) (hlen : l.length ≤ 1000000) (hc : plainC c = true) :
    Calls Try.prog 100 #[.pointer (some ⟨b, 0, none⟩), .int .u8 (c.toNat : Int)] w (OutT B b (l ++ [c]) w) := by
  simp only [plainC, Bool.and_eq_true, decide_eq_true_eq] at hc
  obtain ⟨⟨⟨⟨h1, h2⟩, h3⟩, h4⟩, h5⟩ := hc
  have I0 := fun w => is_any c.toNat 16 w c.toNat_lt (by simp)
  rw [h5] at I0
  have I := Lib.hid I0
  have e1 : ((c.toNat : Int) == 10) = false := by rw [beq_eq_false_iff_ne]; omega
  have e2 : ((c.toNat : Int) == 9) = false := by rw [beq_eq_false_iff_ne]; omega
  have e3 : ((c.toNat : Int) == 92) = false := by rw [beq_eq_false_iff_ne]; omega
  have e4 : ((c.toNat : Int) == 39) = false := by rw [beq_eq_false_iff_ne]; omega
  have hbl := h.lt
  have PB := Lib.hid (pbyte_any B b l c w h hlen (by omega))
  clear I0 h1 h2 h3 h4 h5 h
  go_enter Try.func100, Try.ntmps100
  go_wp2_with (first
    | (go_at_call 98; refine PB.out.mono ?_; rintro r w2 ⟨rfl, hb2, hbw, _⟩)
    | (go_at_call 107; refine (I.out _).mono ?_; rintro r w9 ⟨rfl, rfl⟩)
    | fail)
  go_end0
  exact ⟨rfl, hb2, hbw⟩

theorem pbyte_n (B b : Nat) (l : List UInt8) (x : UInt8) (m : Int) (w : World) (hx : (x.toNat : Int) = m) (h : Bld B b l w) (hlen : l.length ≤ 1000000) (hB : B ≤ w.heap.size) :
    Calls Try.prog 98 #[.pointer (some ⟨b, 0, none⟩), .int .u8 m] w (fun e w' => e = .returned .nilIface ∧ Hid (Bld B b (l ++ [x]) w') ∧ Hid (Below B w w') ∧ Hid (KeptB b w w')) := by
  subst hx
  exact (pbyte_any B b l x w h hlen hB).mono (fun _ _ h => ⟨h.1, Lib.hid h.2.1, Lib.hid h.2.2.1, Lib.hid h.2.2.2⟩)
theorem pwrite_n (B b : Nat) (l : List UInt8) (s : ByteArray) (w : World) (h : Bld B b l w) (hlen : l.length ≤ 1000000) (hs : s.size ≤ 1000000) (hB : B ≤ w.heap.size) :
    Calls Try.prog 128 #[.pointer (some ⟨b, 0, none⟩), .string s] w (fun e w' => e = .returned (.tuple #[.int .i64 s.size, .nilIface]) ∧ Hid (Bld B b (l ++ s.data.toList) w') ∧ Hid (Below B w w') ∧ Hid (KeptB b w w')) :=
  (pwrite_any B b l s w h hlen hs hB).mono (fun _ _ h => ⟨h.1, Lib.hid h.2.1, Lib.hid h.2.2.1, Lib.hid h.2.2.2⟩)
/-- a term's box beside a builder. -/
def BoxT (g : Nat) (k : Int) (t : ByteArray) (v : Value) (w : World) : Prop := w.heap[g]? = some (.cells #[.int .i64 k, .string t, v] 35 (0, 0))
theorem BoxT.kept {g b : Nat} {k : Int} {t : ByteArray} {v : Value} {w w' : World} (h : BoxT g k t v w) (hk : KeptB b w w') (hg : g ≠ b) : BoxT g k t v w' := hk g _ h hg (fun c fz e => by simp at e)
theorem BoxT.c0 {g : Nat} {k : Int} {t : ByteArray} {v : Value} {w : World} (h : BoxT g k t v w) : w.cell? ⟨g, 0, none⟩ = some (.int .i64 k) := by simp [World.cell?, show w.heap[g]? = _ from h]
theorem BoxT.c1 {g : Nat} {k : Int} {t : ByteArray} {v : Value} {w : World} (h : BoxT g k t v w) : w.cell? ⟨g, 1, none⟩ = some (.string t) := by simp [World.cell?, show w.heap[g]? = _ from h]
theorem BoxT.c2 {g : Nat} {k : Int} {t : ByteArray} {v : Value} {w : World} (h : BoxT g k t v w) : w.cell? ⟨g, 2, none⟩ = some v := by simp [World.cell?, show w.heap[g]? = _ from h]

/-- the text of a term. -/
def itW (k : Int) (t : ByteArray) (some : Bool) (s : List UInt8) : List UInt8 :=
  if k = 3 then t.data.toList else if k = 4 then [40] ++ s ++ [41] else if k = 8 then ((⟨#[60]⟩ : ByteArray) ++ t).data.toList ++ (if some then [32] else []) ++ s ++ [62] else (nameF k t).data.toList
/-- the text of an expression; m: something stands before it; q: a quotation is open. -/
def itemsW : Bool → Bool → Fo → List UInt8
  | _, q, .nil => if q then [39] else []
  | m, q, .cons k t c r =>
    if k = 1 then (if q then [] else (if m then [32] else []) ++ [39]) ++ ([t.data.toList.headD 0] ++ itemsW true true r)
    else (if q then [39] else []) ++ ((if m || q then [32] else []) ++ (itW k t (decide (0 < c.len)) (itemsW false false c) ++ itemsW true false r))

/-- no words, no escapes. -/
def TOk : Fo → Prop
  | .nil => True
  | .cons k t c r => t.size ≤ 1000 ∧ k ≠ 2 ∧ (k = 1 → ∃ h : 0 < t.size, plainC t[0] = true) ∧ TOk c ∧ TOk r
theorem TOk.drop {n : Nat} : ∀ {f : Fo}, TOk f → TOk (f.drop n) := by
  induction n with
  | zero => intro f h; rwa [Fo.drop_zero]
  | succ n ih => intro f h; cases f with
    | nil => trivial
    | cons k t c r => exact ih (f := r) h.2.2.2.2

/-- the contract of writeItems for expressions with at most so many terms. -/
def ItemsOk (N : Nat) : Prop := ∀ (f : Fo) (a : Option Addr) (cap B b : Nat) (l : List UInt8) (w : World), f.count ≤ N → f.count ≤ 1000000 → TOk f → Sl B w a cap f → Bld B b l w → (l ++ itemsW false false f).length ≤ 1000000 →
  Calls Try.prog 77 #[.pointer (some ⟨b, 0, none⟩), .slice a f.len cap] w (OutT B b (l ++ itemsW false false f) w)

set_option maxHeartbeats 12800000 in
set_option maxRecDepth 100000 in
theorem pitemW_any (N : Nat) (hN : ItemsOk N) (k : Int) (t : ByteArray) (c : Fo) (a : Option Addr) (cap B b : Nat) (l : List UInt8) (w : World) (hc : c.count ≤ N) (hcM : c.count ≤ 1000000) (_ : k ≠ 1) (hk2 : k ≠ 2) (ht : t.size ≤ 1000) (hok : TOk c) (hs : Sl B w a cap c) (h : Bld B b l w)
    (hl : (l ++ itW k t (decide (0 < c.len)) (itemsW false false c)).length ≤ 1000000) :
    Calls Try.prog 99 #[.pointer (some ⟨b, 0, none⟩), .agg #[.int .i64 k, .string t, .slice a c.len cap]] w (OutT B b (l ++ itW k t (decide (0 < c.len)) (itemsW false false c)) w) := by
  obtain ⟨W, hW⟩ : ∃ W, W = w.alloc (.cells #[.int .i64 k, .string t, .slice a c.len cap] 35) := ⟨_, rfl⟩
  have hb : Below w.heap.size w W := by rw [hW]; exact (Below.refl _ _).alloc (Nat.le_refl _) _
  have hbt : Hid (BoxT w.heap.size k t (.slice a c.len cap) W) := Lib.hid (by rw [hW]; exact heap_alloc_new w _)
  have hbl := h.lt
  have hgb : w.heap.size ≠ b := by omega
  have hB := Lib.hid (h.keep hb)
  have hS := Lib.hid (hs.below (hb.mono (show B ≤ w.heap.size from by omega)) (Nat.le_refl _))
  have hbw : Hid (Below B w W) := Lib.hid (hb.mono (by omega))
  have hBW : B ≤ W.heap.size := by have := hb.size; omega
  have e2 : (k == 2) = false := by simpa using hk2
  have HC := Lib.hid hc
  have HCM := Lib.hid hcM
  have HOK := Lib.hid hok
  have x0 := hbt.out.c0
  have x1 := hbt.out.c1
  have x2 := hbt.out.c2
  have hcap := hs.cap
  have hcl := hcap.1
  have hcm : c.len ≤ 9223372036854775807 := by have := hcap.2; unfold maxLen at this; omega
  obtain ⟨L, hL⟩ : ∃ L, L = l ++ itW k t (decide (0 < c.len)) (itemsW false false c) := ⟨_, rfl⟩
  rw [← hL] at hl ⊢
  by_cases h3 : k = 3
  · have e3 : (k == 3) = true := by simpa using h3
    rw [itW, if_pos h3] at hL
    have hl1 : l.length ≤ 1000000 := by have := congrArg List.length hL; simp at this; omega
    have WS := Lib.hid (pwrite_n B b l t W hB.out hl1 (by omega) hBW)
    rw [← hL] at WS
    clear hL h3 h hs hcap hcl hcm hl1
    go_enter Try.func99, Try.ntmps99
    go_wp2_with fail
    rw [← hW]
    clear hW
    go_wp2_with (go_at_call 128; refine WS.out.mono ?_; rintro r w2 ⟨rfl, hb2, hbw2, _⟩)
    go_end0
    exact ⟨rfl, hb2.out, hbw.out.trans hbw2.out⟩
  have e3 : (k == 3) = false := by simpa using h3
  by_cases h4 : k = 4
  · have e4 : (k == 4) = true := by simpa using h4
    rw [itW, if_neg h3, if_pos h4] at hL
    have hlen := congrArg List.length hL
    simp only [List.length_append, List.length_cons, List.length_nil] at hlen
    have P1 := Lib.hid (pbyte_n B b l 40 40 W rfl hB.out (by omega) hBW)
    have P2 := Lib.hid (fun w h (hb : Below B W w) => hN c a cap B b (l ++ [40]) w HC.out HCM.out HOK.out (hS.out.below hb (Nat.le_refl _)) h (by simp; omega))
    have P3 := Lib.hid (fun w h hB => pbyte_n B b (l ++ [40] ++ itemsW false false c) 41 41 w rfl h (by simp; omega) hB)
    have HL := Lib.hid (show l ++ [40] ++ itemsW false false c ++ [41] = L from by rw [hL]; simp)
    rw [HL.out] at P3
    clear hL hlen h4 h3 h hs hl hcap hcl hcm
    go_enter Try.func99, Try.ntmps99
    go_wp2_with fail
    rw [← hW]
    clear hW
    go_wp2_with (first
      | (go_at_call 98; refine (P3.out _ HB3.out (by have h2 := hbw2.out.size; have h3 := HW3.out.size; omega)).mono ?_; rintro r w4 ⟨rfl, hb4, hbw4, _⟩)
      | (go_at_call 77; refine (P2.out _ hb2.out hbw2.out).mono ?_; rintro r w3 ⟨rfl, hb3, hbw3⟩; have HB3 := Lib.hid hb3; have HW3 := Lib.hid hbw3; clear hb3 hbw3)
      | (go_at_call 98; refine P1.out.mono ?_; rintro r w2 ⟨rfl, hb2, hbw2, hk2⟩; have ht2 := Lib.hid (hbt.out.kept hk2.out hgb); have y0 := ht2.out.c0; have y1 := ht2.out.c1; have y2 := ht2.out.c2)
      | fail)
    go_end0
    exact ⟨rfl, hb4.out, hbw.out.trans (hbw2.out.trans (HW3.out.trans hbw4.out))⟩
  have e4 : (k == 4) = false := by simpa using h4
  by_cases h8 : k = 8
  · have e8 : (k == 8) = true := by simpa using h8
    rw [itW, if_neg h3, if_neg h4, if_pos h8] at hL
    have hlen := congrArg List.length hL
    simp only [List.length_append, List.length_cons, List.length_nil] at hlen
    obtain ⟨s, hs'⟩ : ∃ s, s = (⟨#[60]⟩ : ByteArray) ++ t := ⟨_, rfl⟩
    have hss : s.size ≤ 1001 := by rw [hs', ByteArray.size_append]; have : (⟨#[60]⟩ : ByteArray).size = 1 := rfl; omega
    have hsl : s.data.toList.length = s.size := by simp
    rw [← hs'] at hL hlen
    have P1 := Lib.hid (pwrite_n B b l s W hB.out (by omega) (by omega) hBW)
    obtain ⟨D, hD⟩ : ∃ D, D = s.data.toList := ⟨_, rfl⟩
    rw [← hD] at P1 hL hlen hsl
    rw [hs'] at P1
    have HSS := Lib.hid hss
    clear hs' hD hss
    by_cases hk : 0 < c.len
    · have hki : (0 : Int) < (c.len : Int) := by omega
      simp only [hk, decide_true, if_true, List.length_cons, List.length_nil] at hL hlen
      have P4 := Lib.hid (fun w h hB => pbyte_n B b (l ++ D) 32 32 w rfl h (by simp only [List.length_append]; omega) hB)
      have P2 := Lib.hid (fun w h (hb : Below B W w) => hN c a cap B b (l ++ D ++ [32]) w HC.out HCM.out HOK.out (hS.out.below hb (Nat.le_refl _)) h (by simp only [List.length_append, List.length_cons, List.length_nil]; omega))
      have P3 := Lib.hid (fun w h hB => pbyte_n B b (l ++ D ++ [32] ++ itemsW false false c) 62 62 w rfl h (by simp only [List.length_append, List.length_cons, List.length_nil]; omega) hB)
      have HL := Lib.hid (show l ++ D ++ [32] ++ itemsW false false c ++ [62] = L from by rw [hL]; simp)
      rw [HL.out] at P3
      clear hL hlen h4 h3 h8 h hs hl hcap hcl hcm hsl hk
      go_enter Try.func99, Try.ntmps99
      go_wp2_with fail
      rw [← hW]
      clear hW
      go_wp2_with (first
        | (go_at_call 98; refine (P3.out _ HB4.out (by have h2 := hbw2.out.size; have h3 := hbw3.out.size; have h4 := HW4.out.size; omega)).mono ?_; rintro r w5 ⟨rfl, hb5, hbw5, _⟩)
        | (go_at_call 77; refine (P2.out _ hb3.out (hbw2.out.trans hbw3.out)).mono ?_; rintro r w4 ⟨rfl, hb4, hbw4⟩; have HB4 := Lib.hid hb4; have HW4 := Lib.hid hbw4; clear hb4 hbw4)
        | (go_at_call 98; refine (P4.out _ hb2.out (by have h2 := hbw2.out.size; omega)).mono ?_; rintro r w3 ⟨rfl, hb3, hbw3, hk3⟩; have ht3 := Lib.hid (ht2.out.kept hk3.out hgb); have z0 := ht3.out.c0; have z1 := ht3.out.c1; have z2 := ht3.out.c2)
        | (go_at_call 128; refine P1.out.mono ?_; rintro r w2 ⟨rfl, hb2, hbw2, hk2⟩; have ht2 := Lib.hid (hbt.out.kept hk2.out hgb); have y0 := ht2.out.c0; have y1 := ht2.out.c1; have y2 := ht2.out.c2)
        | fail)
      go_end0
      exact ⟨rfl, hb5.out, hbw.out.trans (hbw2.out.trans (hbw3.out.trans (HW4.out.trans hbw5.out)))⟩
    · have hki : ¬ (0 : Int) < (c.len : Int) := by omega
      simp only [hk, decide_false, Bool.false_eq_true, if_false, List.length_nil] at hL hlen
      have P2 := Lib.hid (fun w h (hb : Below B W w) => hN c a cap B b (l ++ D) w HC.out HCM.out HOK.out (hS.out.below hb (Nat.le_refl _)) h (by simp only [List.length_append]; omega))
      have P3 := Lib.hid (fun w h hB => pbyte_n B b (l ++ D ++ itemsW false false c) 62 62 w rfl h (by simp only [List.length_append]; omega) hB)
      have HL := Lib.hid (show l ++ D ++ itemsW false false c ++ [62] = L from by rw [hL]; simp)
      rw [HL.out] at P3
      clear hL hlen h4 h3 h8 h hs hl hcap hcl hcm hsl hk
      go_enter Try.func99, Try.ntmps99
      go_wp2_with fail
      rw [← hW]
      clear hW
      go_wp2_with (first
        | (go_at_call 98; refine (P3.out _ HB4.out (by have h2 := hbw2.out.size; have h4 := HW4.out.size; omega)).mono ?_; rintro r w5 ⟨rfl, hb5, hbw5, _⟩)
        | (go_at_call 77; refine (P2.out _ hb2.out hbw2.out).mono ?_; rintro r w4 ⟨rfl, hb4, hbw4⟩; have HB4 := Lib.hid hb4; have HW4 := Lib.hid hbw4; clear hb4 hbw4)
        | (go_at_call 128; refine P1.out.mono ?_; rintro r w2 ⟨rfl, hb2, hbw2, hk2⟩; have ht2 := Lib.hid (hbt.out.kept hk2.out hgb); have y0 := ht2.out.c0; have y1 := ht2.out.c1; have y2 := ht2.out.c2)
        | fail)
      go_end0
      exact ⟨rfl, hb5.out, hbw.out.trans (hbw2.out.trans (HW4.out.trans hbw5.out))⟩
  have e8 : (k == 8) = false := by simpa using h8
  rw [itW, if_neg h3, if_neg h4, if_neg h8] at hL
  have hns := nameF_size k t (by omega)
  have NA := Lib.hid (fun w => pname_al k t a c.len cap w (by omega))
  obtain ⟨s, hs'⟩ : ∃ s, s = nameF k t := ⟨_, rfl⟩
  rw [← hs'] at hL NA
  have hsl : s.data.toList.length = s.size := by simp
  have hlen := congrArg List.length hL
  simp only [List.length_append] at hlen
  have P1 := Lib.hid (fun w h hB => pwrite_n B b l s w h (by omega) (by omega) hB)
  rw [← hL] at P1
  clear hs' hL hlen h4 h3 h8 h hs hl hcap hcl hcm hsl hns
  go_enter Try.func99, Try.ntmps99
  go_wp2_with fail
  rw [← hW]
  clear hW
  go_wp2_with (first
    | (go_at_call 128; refine (P1.out _ HB2.out (by have h2 := HW2.out.size; omega)).mono ?_; rintro r w3 ⟨rfl, hb3, hbw3, _⟩)
    | (go_at_call 31; refine (NA.out _).mono ?_; rintro r w2 ⟨rfl, hb2⟩; have HB2 := Lib.hid (hB.out.keep hb2); have HW2 := Lib.hid hb2; clear hb2)
    | fail)
  go_end0
  exact ⟨rfl, hb3.out, hbw.out.trans ((HW2.out.mono hBW).trans hbw3.out)⟩
end Go.Proofs.Ytajdpchojimigaa
