/- The program's reading of what stands behind a star. -/
import Derived.Test.YtfajodndpoepcaaRb
namespace Go.Proofs.Ytfajodndpoepcaa
open Go.RowKit TmM

theorem isChar_no (k : Int) (t s : ByteArray) (h : ¬ (k = 1 ∧ t = s)) (a : Option Addr) (l c : Nat) (w : World) :
    Calls Try.prog 49 #[.agg #[.int .i64 k, .string t, .slice a l c], .string s] w (OutV w (.bool false)) := by
  have := isChar_any k t s a l c w
  rwa [decide_eq_false h] at this
theorem isChar_yes (s : ByteArray) (a : Option Addr) (l c : Nat) (w : World) :
    Calls Try.prog 49 #[.agg #[.int .i64 1, .string s, .slice a l c], .string s] w (OutV w (.bool true)) := by
  have := isChar_any 1 s s a l c w
  rwa [decide_eq_true (And.intro rfl rfl)] at this

/-- a box of three cells that may be written. -/
def Blk3 (w : World) (B : Nat) (v0 v1 v2 : Value) : Prop := w.heap[B]? = some (.cells #[v0, v1, v2] 35 (0, 0))
theorem Blk3.cells {w : World} {B : Nat} {v0 v1 v2 : Value} (h : Blk3 w B v0 v1 v2) : w.cell? ⟨B, 0, none⟩ = some v0 ∧ w.cell? ⟨B, 1, none⟩ = some v1 ∧ w.cell? ⟨B, 2, none⟩ = some v2 ∧
    w.frozen? ⟨B, 0, none⟩ = false ∧ w.frozen? ⟨B, 1, none⟩ = false ∧ w.frozen? ⟨B, 2, none⟩ = false := by
  unfold Blk3 at h
  simp [World.cell?, World.frozen?, h]
theorem Blk3.new (w : World) (v0 v1 v2 : Value) : Blk3 (w.alloc (.cells #[v0, v1, v2] 35)) w.heap.size v0 v1 v2 := World.alloc_heap_new w _
theorem Blk3.lt {w : World} {B : Nat} {v0 v1 v2 : Value} (h : Blk3 w B v0 v1 v2) : B < w.heap.size := (Array.getElem?_eq_some_iff.1 h).1
theorem Blk3.later {n : Nat} {w w' : World} {B : Nat} {v0 v1 v2 : Value} (h : Blk3 w B v0 v1 v2) (hb : Below n w w') (hn : B < n) : Blk3 w' B v0 v1 v2 := (hb.block B hn).trans h

theorem cl_some {w w' : World} {f l : Fo} {t : ByteArray} {a : Option Addr} {cap m : Nat} (h : callDn f = some (t, l)) (hm : m = l.len) (hs : SlS (fun b => w.heap.size ≤ b ∧ b < w'.heap.size) w' a cap l) (hb : Below w.heap.size w w') :
    OutCl w f (.returned (.agg #[.int .i64 8, .string t, .slice a m cap])) w' := .inl ⟨t, l, a, cap, by rw [hm], Lib.hid h, Lib.hid hs, Lib.hid hb⟩
theorem cl_none {w w' : World} {f : Fo} (h : callDn f = none) (hb : Below w.heap.size w w') : OutCl w f (.panicked wrongP) w' := .inr ⟨rfl, Lib.hid h, Lib.hid hb⟩

/-- the result of a call, behind its last stores. -/
theorem cl_end {w W4 w5 : World} {B g cap5 m : Nat} {f l c3 : Fo} {t : ByteArray} {a5 : Option Addr} {u0 u1 u2 u3 : Value} (hc : callDn f = (dn c3).map fun l => (t, l)) (hd : dn c3 = some l) (hm : m = l.len) (hs5 : SlS (fun b => W4.heap.size ≤ b ∧ b < w5.heap.size) w5 a5 cap5 l)
    (hb4 : Below w.heap.size w W4) (hb5 : Below W4.heap.size W4 w5) (hB : w.heap.size ≤ B) (hB4 : B < W4.heap.size) (hg : w.heap.size ≤ g) (hg4 : g < W4.heap.size) :
    OutCl w f (.returned (.agg #[.int .i64 8, .string t, .slice a5 m cap5])) ((((w5.setCell ⟨B, 2, none⟩ u0).setCell ⟨g, 0, none⟩ u1).setCell ⟨g, 1, none⟩ u2).setCell ⟨g, 2, none⟩ u3) := by
  have hz : ((((w5.setCell ⟨B, 2, none⟩ u0).setCell ⟨g, 0, none⟩ u1).setCell ⟨g, 1, none⟩ u2).setCell ⟨g, 2, none⟩ u3).heap.size = w5.heap.size := by simp [World.setCell]
  refine cl_some (by rw [hc, hd]; rfl) hm (hs5.mono (fun b hb => ⟨Nat.le_trans hb4.size hb.1, by rw [hz]; exact hb.2⟩) (fun b hb => ?_)) ?_
  · have h1 : b ≠ B := by have := hb.1; omega
    have h2 : b ≠ g := by have := hb.1; omega
    rw [Below.heap_setCell _ _ _ _ h2, Below.heap_setCell _ _ _ _ h2, Below.heap_setCell _ _ _ _ h2, Below.heap_setCell _ _ _ _ h1]
  · exact ((((hb4.trans (hb5.mono hb4.size)).setCell (p := ⟨B, 2, none⟩) hB _).setCell (p := ⟨g, 0, none⟩) hg _).setCell (p := ⟨g, 1, none⟩) hg _).setCell (p := ⟨g, 2, none⟩) hg _

set_option maxHeartbeats 6400000 in
theorem call_any (f : Fo) (a : Option Addr) (cap : Nat) (w : World) (hs : Sl w.heap.size w a cap f)
    (hex : ∀ k t c r, f = .cons k t c r → ∀ (a' : Option Addr) (cap' : Nat) (w' : World), Sl w'.heap.size w' a' cap' r → Calls Try.prog 33 #[.slice a' r.len cap'] w' (OutEx w' r)) :
    Calls Try.prog 67 #[.slice a f.len cap] w (OutCl w f) := by
  obtain ⟨m, hm⟩ : ∃ m, m = f.len := ⟨_, rfl⟩
  obtain ⟨W0, hW0⟩ : ∃ W0, W0 = w.alloc (.cells #[.int .i64 0, .string ⟨#[]⟩, .slice none 0 0] 35) := ⟨_, rfl⟩
  have hb0 : Below w.heap.size w W0 := by rw [hW0]; exact (Below.refl _ _).alloc (Nat.le_refl _) _
  obtain ⟨W1, hW1⟩ : ∃ W1, W1 = W0.alloc (.cells #[.slice a m cap] 22) := ⟨_, rfl⟩
  have hb1 : Below w.heap.size w W1 := by rw [hW1]; exact hb0.alloc hb0.size _
  have hR : Rd W0.heap.size w.heap.size W1 f := ⟨a, cap, by rw [hW1, hm]; exact Boxed.new _ _ _, hs.below hb1 (Nat.le_refl _)⟩
  have hg0 : w.heap.size ≤ W0.heap.size := hb0.size
  have HR := Lib.hid hR
  have HS := Lib.hid hs
  have HEX := Lib.hid hex
  have HM := Lib.hid hm
  have HW1 := Lib.hid hW1
  have k0 : Blk3 W0 w.heap.size (.int .i64 0) (.string ⟨#[]⟩) (.slice none 0 0) := by rw [hW0]; exact Blk3.new _ _ _ _
  have K1 := Lib.hid (show Blk3 W1 w.heap.size (.int .i64 0) (.string ⟨#[]⟩) (.slice none 0 0) from by rw [hW1]; exact k0.later ((Below.refl _ _).alloc (Nat.le_refl _) _) k0.lt)
  have hg1 : w.heap.size < W0.heap.size := k0.lt
  have hR1 := Lib.hid (show W0.heap.size < W1.heap.size from by rw [hW1]; simp)
  clear k0
  rw [← hm]
  clear hs hex hR hm hW1
  cases f with
  | nil =>
    go_enter Try.func67, Try.ntmps67
    go_wp2_with fail
    rw [← hW0]
    refine (reader_any _ _ _ W0).mono ?_
    rintro e w1 ⟨rfl, hw1⟩
    rw [← HW1.out] at hw1
    subst hw1
    clear hW0
    go_wp2_with fail
    refine (rnext_none _ _ w1 HR.out).mono ?_
    rintro e w2 ⟨rfl, ho⟩
    exact ⟨rfl, cl_none rfl (hb1.trans (ho.out.later hg0))⟩
  | cons k3 t3 c' c3 =>
    obtain ⟨b, o, hab, hbw, _⟩ := base_of HS.out
    obtain rfl := hab (by simp)
    have hcap := HS.out.cap
    unfold maxLen at hcap
    have hm1 : m = c3.len + 1 := HM.out
    have hmp : 0 < m := by omega
    have hcp : m ≤ cap := by have := hcap.1; rw [Fo.len_cons] at this; omega
    have hcm : cap ≤ 9223372036854775807 := by omega
    have hm1i : (1 : Int) ≤ (m : Int) := by omega
    have hmci : (m : Int) ≤ (cap : Int) := by omega
    have HM1 := Lib.hid hm1
    have HT := Lib.hid HS.out.tail
    clear hab hbw hm1 hcap
    go_enter Try.func67, Try.ntmps67
    go_wp2_with fail
    rw [← hW0]
    refine (reader_any _ _ _ W0).mono ?_
    rintro e w1 ⟨rfl, hw1⟩
    rw [← HW1.out] at hw1
    subst hw1
    clear hW0
    go_wp2_with fail
    refine (rnext_some _ _ w1 _ _ _ _ HR.out hg0).mono ?_
    rintro e w2 ⟨a2, cap2, rfl, hs2, hr2, ho2⟩
    have hb2 := hb1.trans (ho2.out.later hg0)
    by_cases h3 : k3 = 2
    · subst h3
      go_wp2_with fail
      refine (named_ok 8 t3 a2 c'.len cap2 w2).mono ?_
      rintro e w3 ⟨rfl, hb3⟩
      have hb03 := hb2.trans (hb3.mono hb2.size)
      obtain ⟨W4, hW4⟩ : ∃ W4, W4 = w3.alloc (.cells #[.int .i64 8, .string t3, .slice none 0 0] 35) := ⟨_, rfl⟩
      have k4 : Blk3 W4 w3.heap.size (.int .i64 8) (.string t3) (.slice none 0 0) := by rw [hW4]; exact Blk3.new _ _ _ _
      have hb34 : Below w3.heap.size w3 W4 := by rw [hW4]; exact (Below.refl _ _).alloc (Nat.le_refl _) _
      have hb4 := hb03.trans (hb34.mono hb03.size)
      have hk3 := (K1.out.later ho2.out.below hg1).later hb3 (by have := ho2.out.below.size; have := hg1; have := hR1.out; omega)
      have K4 := Lib.hid (hk3.later hb34 hk3.lt)
      have Q4 := Lib.hid k4
      by_cases hc1 : cap = 1
      · subst hc1
        have hme : m = 1 := by omega
        subst hme
        have hr3 : c3 = .nil := len0 (by have := HM1.out; omega)
        have S := Lib.hid (show Calls Try.prog 33 #[.slice (some ⟨b, o, none⟩) 0 0] W4 (OutEx W4 c3) from by
          have h := HEX.out 2 t3 c' c3 rfl (some ⟨b, o, none⟩) 0 W4 ⟨by rw [hr3]; exact Nat.le_refl _, Nat.zero_le _, by simp, .inl hr3⟩
          rwa [hr3] at h ⊢)
        clear hr3 hmp hcp hcm hm1i hmci
        have hk3l := Lib.hid hk3.lt
        clear hk3 k4 hb34
        go_wp2_with fail
        rw [← hW4]
        clear hW4
        refine S.out.mono ?_
        rintro e w5 (⟨l, a5, cap5, rfl, hd, hs5, hb5⟩ | ⟨rfl, hd, hb5⟩)
        · obtain ⟨x0, x1, x2, x3, x4, x5⟩ := (Q4.out.later hb5.out Q4.out.lt).cells
          obtain ⟨y0, y1, y2, y3, y4, y5⟩ := (K4.out.later hb5.out K4.out.lt).cells
          have hne1 : ¬ w.heap.size = w3.heap.size := by have := hk3l.out; omega
          have hne2 : ¬ w3.heap.size = w.heap.size := by have := hk3l.out; omega
          obtain ⟨m5, hm5⟩ : ∃ m5, m5 = l.len := ⟨_, rfl⟩
          rw [← hm5]
          have HM5 := Lib.hid hm5
          clear hm5
          go_wp2
          refine bodyPost_ret (v := .agg #[.int .i64 8, .string t3, .slice a5 m5 cap5]) (by simp [results, Try.results67, go_sem, y0, y1, y2]) rfl ?_
          exact cl_end (by rw [callDn, if_pos rfl]) hd.out HM5.out hs5.out hb4 hb5.out (by have := hk3l.out; omega) Q4.out.lt (Nat.le_refl _) K4.out.lt
        · exact ⟨rfl, cl_none (by rw [callDn, if_pos rfl, hd.out]; rfl) (hb4.trans (hb5.out.mono hb4.size))⟩
      · have hc2 : ¬ cap - 1 = 0 := by omega
        have hc0 : ¬ cap = 0 := by omega
        have S := Lib.hid (show Calls Try.prog 33 #[.slice (some ⟨b, o + 3, none⟩) (m - 1) (cap - 1)] W4 (OutEx W4 c3) from by
          rw [show m - 1 = c3.len from by have := HM1.out; omega]
          exact HEX.out 2 t3 c' c3 rfl _ _ W4 (HT.out.below hb4 hb4.size))
        have hk3l := Lib.hid hk3.lt
        clear hk3 k4 hb34
        go_wp2_with fail
        rw [← hW4]
        clear hW4
        refine S.out.mono ?_
        rintro e w5 (⟨l, a5, cap5, rfl, hd, hs5, hb5⟩ | ⟨rfl, hd, hb5⟩)
        · obtain ⟨x0, x1, x2, x3, x4, x5⟩ := (Q4.out.later hb5.out Q4.out.lt).cells
          obtain ⟨y0, y1, y2, y3, y4, y5⟩ := (K4.out.later hb5.out K4.out.lt).cells
          have hne1 : ¬ w.heap.size = w3.heap.size := by have := hk3l.out; omega
          have hne2 : ¬ w3.heap.size = w.heap.size := by have := hk3l.out; omega
          obtain ⟨m5, hm5⟩ : ∃ m5, m5 = l.len := ⟨_, rfl⟩
          rw [← hm5]
          have HM5 := Lib.hid hm5
          clear hm5
          go_wp2
          refine bodyPost_ret (v := .agg #[.int .i64 8, .string t3, .slice a5 m5 cap5]) (by simp [results, Try.results67, go_sem, y0, y1, y2]) rfl ?_
          exact cl_end (by rw [callDn, if_pos rfl]) hd.out HM5.out hs5.out hb4 hb5.out (by have := hk3l.out; omega) Q4.out.lt (Nat.le_refl _) K4.out.lt
        · exact ⟨rfl, cl_none (by rw [callDn, if_pos rfl, hd.out]; rfl) (hb4.trans (hb5.out.mono hb4.size))⟩
    · have HC := Lib.hid (show callDn (.cons k3 t3 c' c3) = none from by rw [callDn, if_neg h3])
      go_wp2_with fail
      refine (named_bad 8 k3 t3 a2 c'.len cap2 w2 h3).mono ?_
      rintro e w3 ⟨rfl, hb3⟩
      exact ⟨rfl, cl_none HC.out (hb2.trans (hb3.out.mono hb2.size))⟩
end Go.Proofs.Ytfajodndpoepcaa
