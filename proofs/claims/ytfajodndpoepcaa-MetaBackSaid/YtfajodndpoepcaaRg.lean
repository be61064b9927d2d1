/- The program's Dn. -/
import Derived.Test.YtfajodndpoepcaaRf
import Derived.Test.YtfajodndpoepcaaBk
import Derived.Test.YtfajodndpoepcaaPs
namespace Go.Proofs.Ytfajodndpoepcaa
open Go.RowKit TmM

/-- behind the reading: the list lies in its box. -/
def DoOk (gl : Nat) (u : World) (f : Fo) (u' : World) : Prop := ∃ l a cap, dn f = some l ∧ Boxed u' gl 22 (.slice a l.len cap) ∧ SlS (fun b => u.heap.size ≤ b ∧ b < u'.heap.size) u' a cap l ∧ Only gl u u'
def DoBad (gl : Nat) (u : World) (f : Fo) (u' : World) : Prop := dn f = none ∧ Only gl u u'

theorem dn1_any (g0 gl : Nat) (u : World) (f : Fo) (a : Option Addr) (cap : Nat) (v : Value) (h0 : Boxed u g0 22 (.slice a f.len cap)) (hl : Boxed u gl 22 v) (hs : Sl u.heap.size u a cap f) (hc : f.count ≤ 1000000) :
    Calls Try.prog 32 #[.pointer (some ⟨g0, 0, none⟩), .pointer (some ⟨gl, 0, none⟩)] u (OutDo (DoOk gl u f) (DoBad gl u f)) := by
  have hlt := hl.lt
  have c0 := h0.cell
  have S := Lib.hid (expression_any f a cap u hc hs)
  obtain ⟨m, hm⟩ : ∃ m, m = f.len := ⟨_, rfl⟩
  rw [← hm] at S c0
  have HL := Lib.hid hl
  clear hm h0 hl hs
  go_enter Try.func32, Try.ntmps32
  go_wp2_with fail
  refine S.out.mono ?_
  rintro e w5 (⟨l, a5, cap5, rfl, hd, hs5, hb5⟩ | ⟨rfl, hd, hb5⟩)
  · have hx := Lib.hid (show Boxed w5 gl 22 v from (hb5.out.block gl hlt).trans HL.out)
    have c1 := hx.out.cell
    have f1 := hx.out.frozen
    obtain ⟨ml, hml⟩ : ∃ m, m = l.len := ⟨_, rfl⟩
    rw [← hml]
    have HML := Lib.hid hml
    clear hml
    go_wp2
    go_end0
    refine .inl ⟨rfl, l, a5, cap5, hd.out, by rw [← HML.out]; exact hx.out.set _, hs5.out.mono (fun b hb => ⟨hb.1, by simp [World.setCell]; exact hb.2⟩) (fun b hb => Below.heap_setCell _ _ _ _ (by simp; have := hb.1; omega)), (Only.of_below hb5.out (Nat.le_of_lt hlt)).trans (Only.setCell _)⟩
  · exact ⟨rfl, .inr ⟨rfl, hd.out, Only.of_below hb5.out (Nat.le_of_lt hlt)⟩⟩

def OutDnX (w : World) (f : Fo) (e : Ending) (w' : World) : Prop :=
  ∃ a cap, e = .returned (.tuple #[.slice a (dnX f).1.len cap, .int .i64 (dnX f).2]) ∧ Hid (SlS (fun b => w.heap.size ≤ b ∧ b < w'.heap.size) w' a cap (dnX f).1) ∧ Below w.heap.size w w'
theorem outDnX_err {w w' : World} {f : Fo} {q : Int} (h : dnX f = (.nil, q)) (hb : Below w.heap.size w w') : OutDnX w f (.returned (.tuple #[.slice none 0 0, .int .i64 q])) w' :=
  ⟨none, 0, by rw [h]; rfl, Lib.hid (by rw [h]; exact SlS.nil), hb⟩
theorem outDnX_ok {w w' : World} {f g : Fo} {a : Option Addr} {cap m : Nat} (h : dnX f = (g, 0)) (hm : m = g.len) (hs : SlS (fun b => w.heap.size ≤ b ∧ b < w'.heap.size) w' a cap g) (hb : Below w.heap.size w w') : OutDnX w f (.returned (.tuple #[.slice a m cap, .int .i64 0])) w' :=
  ⟨a, cap, by rw [h, hm], Lib.hid (by rw [h]; exact hs), hb⟩

set_option maxHeartbeats 6400000 in
theorem pDn_any (f : Fo) (a : Option Addr) (cap : Nat) (w : World) (hc : f.count ≤ 1000000) (hsm : Small f) (hs : Sl w.heap.size w a cap f) :
    Calls Try.prog 14 #[.slice a f.len cap] w (OutDnX w f) := by
  have hmf : ∀ (fn : Fn) (first cap : Array Value) (w : World), (Instr.makeFunc fn first cap).run Try.prog w = .ok (.func fn first cap) w := fun _ _ _ _ => rfl
  obtain ⟨m, hm⟩ : ∃ m, m = f.len := ⟨_, rfl⟩
  obtain ⟨W0, hW0⟩ : ∃ W0, W0 = w.alloc (.cells #[.slice a m cap] 22) := ⟨_, rfl⟩
  have hb0 : Below w.heap.size w W0 := by rw [hW0]; exact (Below.refl _ _).alloc (Nat.le_refl _) _
  have hx0 : Boxed W0 w.heap.size 22 (.slice a f.len cap) := by rw [hW0, hm]; exact Boxed.new _ _ _
  have hx0' := hx0.cell
  rw [← hm] at hx0'
  have hz0 := hx0.lt
  have HX0 := Lib.hid hx0
  have S := Lib.hid (pvalue_any f a cap W0 hc hsm (hs.below hb0 hb0.size))
  have HS := Lib.hid hs
  have HSM := Lib.hid hsm
  have HM := Lib.hid hm
  obtain ⟨q, hq⟩ : ∃ q, q = wrongC 4 f := ⟨_, rfl⟩
  rw [← hq, ← hm] at S
  have HQ := Lib.hid hq
  rw [← hm]
  clear hx0 hs hsm hm hq
  go_enter Try.func14, Try.ntmps14
  go_wp2_with fail
  rw [← hW0]
  clear hW0
  refine S.out.mono ?_
  rintro e w1 ⟨rfl, hb1⟩
  have hb01 := hb0.trans (hb1.mono hb0.size)
  by_cases h0 : q = 0
  · subst h0
    obtain ⟨W2, hW2⟩ : ∃ W2, W2 = w1.alloc (.cells #[.slice none 0 0] 22) := ⟨_, rfl⟩
    have hb2 : Below w1.heap.size w1 W2 := by rw [hW2]; exact (Below.refl _ _).alloc (Nat.le_refl _) _
    have hb02 := hb01.trans (hb2.mono hb01.size)
    have hl2 : Boxed W2 w1.heap.size 22 (.slice none 0 0) := by rw [hW2]; exact Boxed.new _ _ _
    have hx2 : Boxed W2 w.heap.size 22 (.slice a f.len cap) := (hb2.block _ (by have := hb1.size; omega)).trans ((hb1.block _ hz0).trans HX0.out)
    have hW0 := Lib.hid HQ.out.symm
    have hbe : Below W2.heap.size W2 (W2.alloc (.cells #[.int .i64 0] 25)) := (Below.refl _ _).alloc (Nat.le_refl _) _
    have A := Lib.hid (attempt_any 32 #[.pointer (some ⟨w.heap.size, 0, none⟩), .pointer (some ⟨w1.heap.size, 0, none⟩)] W2 (DoOk w1.heap.size (W2.alloc (.cells #[.int .i64 0] 25)) f) (DoBad w1.heap.size (W2.alloc (.cells #[.int .i64 0] 25)) f)
      (fun w => by simp [callFunc, Try.func32]; rfl)
      (dn1_any w.heap.size w1.heap.size _ f a cap (.slice none 0 0) (hx2.alloc _) (hl2.alloc _) (HS.out.below (hb02.trans (hbe.mono hb02.size)) (by have := hb02.size; simp; omega)) hc)
      (fun u' h => by
        have ho : Only w1.heap.size (W2.alloc (.cells #[.int .i64 0] 25)) u' := by
          rcases h with ⟨_, _, _, _, _, _, h⟩ | ⟨_, h⟩ <;> exact h
        exact (ho.block W2.heap.size (by simp) (by have := hl2.lt; omega)).trans (Boxed.new _ _ _)))
    go_wp2_with fail
    rw [← hW2]
    refine A.out.mono ?_
    have hze : W2.heap.size < (W2.alloc (.cells #[.int .i64 0] 25)).heap.size := by simp
    obtain ⟨WE, hWE⟩ : ∃ WE, WE = W2.alloc (.cells #[.int .i64 0] 25) := ⟨_, rfl⟩
    rw [← hWE] at hbe hze ⊢
    have hl2z := hl2.lt
    have hz1 := hb01.size
    have hbE := hb02.trans (hbe.mono hb02.size)
    clear A S hW2 hl2 hx2 hx0' hWE
    rintro e w3 (⟨w4, ⟨l, a5, cap5, hd, hbx, hs5, ho⟩, rfl, hw⟩ | ⟨w4, ⟨hd, ho⟩, rfl, hw⟩)
    · have hb3 : Below w.heap.size w w3 := by rw [hw]; exact (hbE.trans (ho.later (by omega))).setCell (p := ⟨W2.heap.size, 0, none⟩) (by simp; omega) _
      have hk3 : ∀ b, b ≠ W2.heap.size → w3.heap[b]? = w4.heap[b]? := fun b hb => by rw [hw]; exact Below.heap_setCell _ _ _ _ hb
      have hz3 : w3.heap.size = w4.heap.size := by rw [hw]; simp [World.setCell]
      have hbx3 : Boxed w3 w1.heap.size 22 (.slice a5 l.len cap5) := (hk3 _ (by omega)).trans hbx
      have hs3 : SlS (fun b => WE.heap.size ≤ b ∧ b < w3.heap.size) w3 a5 cap5 l := hs5.mono (fun b hb => ⟨hb.1, by rw [hz3]; exact hb.2⟩) (fun b hb => hk3 b (by have := hb.1; omega))
      have hzE := hbE.size
      have HD := Lib.hid hd
      have hp := dn_parts hd
      have hcl : l.count ≤ 1000000 := by omega
      have R := Lib.hid (presult_any l a5 cap5 w3 hcl (hp.2 HSM.out) (hs3.sl (fun b hb => hb.2)))
      have HS3 := Lib.hid hs3
      have c3 := hbx3.cell
      obtain ⟨r, hr⟩ : ∃ r, r = wrongC 8 l := ⟨_, rfl⟩
      obtain ⟨ml, hml⟩ : ∃ m, m = l.len := ⟨_, rfl⟩
      rw [← hr, ← hml] at R
      rw [← hml] at c3
      have HR := Lib.hid hr
      have HML := Lib.hid hml
      clear hw hk3 hbx3 hs3 hbx hs5 ho hd hp hr hml hz3
      by_cases h1 : r = 0
      · subst h1
        have HX := Lib.hid (dnX_some hW0.out HD.out HR.out.symm)
        go_wp2_with fail
        refine R.out.mono ?_
        rintro e w5 ⟨rfl, hb5⟩
        have c5 : w5.cell? ⟨w1.heap.size, 0, none⟩ = some (.slice a5 ml cap5) := (hb5.cell (p := ⟨w1.heap.size, 0, none⟩) (by have := World.block_lt_of_cell? w3 _ c3; exact this)).trans c3
        go_wp2
        go_ret2
        exact outDnX_ok HX.out HML.out (HS3.out.mono (fun b hb => ⟨by have := hb.1; omega, Nat.lt_of_lt_of_le hb.2 hb5.size⟩) (fun b hb => hb5.block b hb.2)) (hb3.trans (hb5.mono hb3.size))
      · have e1 : (r == 0) = false := by simpa using h1
        have HX := Lib.hid (dnX_bad hW0.out HD.out (by rw [← HR.out]; exact h1))
        clear h1
        go_wp2_with fail
        refine R.out.mono ?_
        rintro e w5 ⟨rfl, hb5⟩
        go_wp2
        go_ret2
        exact outDnX_err HX.out (hb3.trans (hb5.mono hb3.size))
    · have hb3 : Below w.heap.size w w3 := by rw [hw]; exact ((hbE.trans (ho.later (by omega))).setCell (p := ⟨W2.heap.size, 0, none⟩) (by simp; omega) _).alloc (by have := hbE.size; have := ho.below.size; simp [World.setCell]; omega) _
      have HX := Lib.hid (dnX_none hW0.out hd)
      clear hw hd ho
      go_wp2
      go_ret2
      exact outDnX_err HX.out hb3
  · have e1 : (q == 0) = false := by simpa using h0
    have HE := Lib.hid (show dnX f = (.nil, q) from by rw [HQ.out]; exact dnX_err (by rw [← HQ.out]; exact h0))
    clear h0
    go_wp2
    go_ret2
    exact outDnX_err HE.out hb01
end Go.Proofs.Ytfajodndpoepcaa
