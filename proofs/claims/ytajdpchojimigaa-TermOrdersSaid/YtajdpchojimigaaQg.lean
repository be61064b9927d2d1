/- The variable with a name: the program. -/
import Derived.Test.YtajdpchojimigaaQf
namespace Go.Proofs.Ytajdpchojimigaa
open Go.RowKit TmM

theorem vkN_size {s : ByteArray} (h : vkN s ≠ 0) : 2 ≤ s.size := by
  refine Classical.byContradiction fun hn => h ?_
  simp [vkN, begB, hn]
def okV (s : ByteArray) : Bool := decide (vkN s ≠ 0) && varB (s.extract 2 s.size).data.toList
/-- what Variable returns. -/
def OutVar (s : ByteArray) (w : World) (e : Ending) (w' : World) : Prop :=
  (okV s = true ∧ e = .returned (.tuple #[.agg #[.int .i64 (vkN s), .string (s.extract 2 s.size), .slice none 0 0], .bool true]) ∨ okV s = false ∧ e = .returned (.tuple #[.agg #[.int .i64 0, .string ⟨#[]⟩, .slice none 0 0], .bool false])) ∧ Below w.heap.size w w'

theorem Box.store3 {w : World} {g l c l' c' : Nat} {k k' : Int} {t t' : ByteArray} {a a' : Option Addr} (h : Box w g k t a l c) :
    Box (((w.setCell ⟨g, 0, none⟩ (.int .i64 k')).setCell ⟨g, 1, none⟩ (.string t')).setCell ⟨g, 2, none⟩ (.slice a' l' c')) g k' t' a' l' c' := by
  obtain ⟨h0, h1, h2, h3⟩ := h
  have ne : ∀ i j : Nat, i ≠ j → (⟨g, i, none⟩ : Addr) ≠ ⟨g, j, none⟩ := fun i j hij e => hij (by cases e; rfl)
  have s1 := World.cell?_setCell_same w ⟨g, 0, none⟩ (v := .int .i64 k') (u := .int .i64 k) h1
  have s12 : (w.setCell ⟨g, 0, none⟩ (.int .i64 k')).cell? ⟨g, 1, none⟩ = some (.string t) := (World.cell?_setCell_other w _ _ _ (ne 0 1 (by omega))).trans h2
  have s2 := World.cell?_setCell_same (w.setCell ⟨g, 0, none⟩ (.int .i64 k')) ⟨g, 1, none⟩ (v := .string t') (u := .string t) s12
  have s13 : ((w.setCell ⟨g, 0, none⟩ (.int .i64 k')).setCell ⟨g, 1, none⟩ (.string t')).cell? ⟨g, 2, none⟩ = some (.slice a l c) :=
    (World.cell?_setCell_other _ _ _ _ (ne 1 2 (by omega))).trans ((World.cell?_setCell_other w _ _ _ (ne 0 2 (by omega))).trans h3)
  have s3 := World.cell?_setCell_same ((w.setCell ⟨g, 0, none⟩ (.int .i64 k')).setCell ⟨g, 1, none⟩ (.string t')) ⟨g, 2, none⟩ (v := .slice a' l' c') (u := .slice a l c) s13
  refine ⟨by simp [World.setCell]; exact h0, ?_, ?_, s3⟩
  · exact (World.cell?_setCell_other _ _ _ _ (ne 2 0 (by omega))).trans ((World.cell?_setCell_other _ _ _ _ (ne 1 0 (by omega))).trans s1)
  · exact (World.cell?_setCell_other _ _ _ _ (ne 2 1 (by omega))).trans s2
theorem below_store3 {n g : Nat} {w w1 : World} {a b c : Value} (h : Below n w w1) (hg : n ≤ g) : Below n w (((w1.setCell ⟨g, 0, none⟩ a).setCell ⟨g, 1, none⟩ b).setCell ⟨g, 2, none⟩ c) :=
  ((h.setCell (p := ⟨g, 0, none⟩) hg a).setCell (p := ⟨g, 1, none⟩) hg b).setCell (p := ⟨g, 2, none⟩) hg c

set_option maxHeartbeats 6400000 in
set_option maxRecDepth 100000 in
theorem pvariable_any (s : ByteArray) (w : World) (hs : s.size ≤ 100000000) : Calls Try.prog 35 #[.string s] w (OutVar s w) := by
  obtain ⟨X, hX⟩ : ∃ X, X = w.alloc (.cells #[.int .i64 0, .string ⟨#[]⟩, .slice none 0 0] 35) := ⟨_, rfl⟩
  have hbX : Below w.heap.size w X := by rw [hX]; exact (Below.refl _ _).alloc (Nat.le_refl _) _
  have hbox : Box X w.heap.size 0 ⟨#[]⟩ none 0 0 := by rw [hX]; exact Box.new _ _ _ _ _ _
  have hfz : ∀ j, X.frozen? ⟨w.heap.size, j, none⟩ = false := fun j => by rw [hX]; exact frozen_of_row _ _ _ _ _ (heap_alloc_new w _)
  have HBX := Lib.hid hbX
  have HBOX := Lib.hid hbox
  have HFZ := Lib.hid hfz
  clear hbox hfz hbX
  have VK := Lib.hid (vk_any s X hs)
  by_cases h0 : vkN s = 0
  · have HO := Lib.hid (show okV s = false from by rw [okV, h0]; rfl)
    rw [h0] at VK
    clear h0
    go_enter Try.func35, Try.ntmps35
    go_wp2_with fail
    rw [← hX]
    clear hX
    refine VK.out.mono ?_
    rintro e w2 ⟨rfl, hb2⟩
    have HBX2 := Lib.hid (HBOX.out.later hb2)
    obtain ⟨_, b0, b1, b2⟩ := HBX2.out
    have f0 := (hb2.frozen (p := ⟨w.heap.size, 0, none⟩) HBOX.out.1).trans (HFZ.out 0)
    have f1 := (hb2.frozen (p := ⟨w.heap.size, 1, none⟩) HBOX.out.1).trans (HFZ.out 1)
    have f2 := (hb2.frozen (p := ⟨w.heap.size, 2, none⟩) HBOX.out.1).trans (HFZ.out 2)
    have HB2 := Lib.hid (HBX.out.trans (hb2.mono HBX.out.size))
    clear hb2
    go_wp2_with fail
    obtain ⟨_, z0, z1, z2⟩ := HBX2.out.store3 (k' := 0) (t' := ⟨#[]⟩) (a' := none) (l' := 0) (c' := 0)
    refine bodyPost_ret (v := .tuple #[.agg #[.int .i64 0, .string ⟨#[]⟩, .slice none 0 0], .bool false]) (by simp [results, Try.results35, go_sem, z0, z1, z2]) rfl ?_
    exact ⟨.inr ⟨HO.out, rfl⟩, below_store3 HB2.out (Nat.le_refl _)⟩
  · have h2 := vkN_size h0
    have h2i : (2 : Int) ≤ (s.size : Int) := by omega
    have VB0 := fun w => pvar_any (s.extract 2 s.size) w (by simp; omega)
    obtain ⟨q, hq⟩ : ∃ q, q = varB (s.extract 2 s.size).data.toList := ⟨_, rfl⟩
    rw [← hq] at VB0
    have VB := Lib.hid VB0
    have HO := Lib.hid (show okV s = q from by rw [okV, decide_eq_true h0, hq]; rfl)
    obtain ⟨v, hv⟩ : ∃ v, v = vkN s := ⟨_, rfl⟩
    have HV := Lib.hid hv
    rw [← hv] at VK h0
    have e0 : ((v : Int) == 0) = false := by rw [beq_eq_false_iff_ne]; omega
    clear VB0 hq hv h0
    cases q
    · go_enter Try.func35, Try.ntmps35
      go_wp2_with fail
      rw [← hX]
      clear hX
      refine VK.out.mono ?_
      rintro e w2 ⟨rfl, hb2⟩
      have HBX2 := Lib.hid (HBOX.out.later hb2)
      obtain ⟨_, b0, b1, b2⟩ := HBX2.out
      have f0 := (hb2.frozen (p := ⟨w.heap.size, 0, none⟩) HBOX.out.1).trans (HFZ.out 0)
      have f1 := (hb2.frozen (p := ⟨w.heap.size, 1, none⟩) HBOX.out.1).trans (HFZ.out 1)
      have f2 := (hb2.frozen (p := ⟨w.heap.size, 2, none⟩) HBOX.out.1).trans (HFZ.out 2)
      have HB2 := Lib.hid (HBX.out.trans (hb2.mono HBX.out.size))
      clear hb2
      go_wp2_with (go_at_call 70; refine (VB.out _).mono ?_; rintro e w' ⟨rfl, rfl⟩)
      obtain ⟨_, z0, z1, z2⟩ := HBX2.out.store3 (k' := 0) (t' := ⟨#[]⟩) (a' := none) (l' := 0) (c' := 0)
      refine bodyPost_ret (v := .tuple #[.agg #[.int .i64 0, .string ⟨#[]⟩, .slice none 0 0], .bool false]) (by simp [results, Try.results35, go_sem, z0, z1, z2]) rfl ?_
      exact ⟨.inr ⟨HO.out, rfl⟩, below_store3 HB2.out (Nat.le_refl _)⟩
    · go_enter Try.func35, Try.ntmps35
      go_wp2_with fail
      rw [← hX]
      clear hX
      refine VK.out.mono ?_
      rintro e w2 ⟨rfl, hb2⟩
      have HBX2 := Lib.hid (HBOX.out.later hb2)
      obtain ⟨_, b0, b1, b2⟩ := HBX2.out
      have f0 := (hb2.frozen (p := ⟨w.heap.size, 0, none⟩) HBOX.out.1).trans (HFZ.out 0)
      have f1 := (hb2.frozen (p := ⟨w.heap.size, 1, none⟩) HBOX.out.1).trans (HFZ.out 1)
      have f2 := (hb2.frozen (p := ⟨w.heap.size, 2, none⟩) HBOX.out.1).trans (HFZ.out 2)
      have HB2 := Lib.hid (HBX.out.trans (hb2.mono HBX.out.size))
      clear hb2
      go_wp2_with (go_at_call 70; refine (VB.out _).mono ?_; rintro e w' ⟨rfl, rfl⟩)
      obtain ⟨_, z0, z1, z2⟩ := HBX2.out.store3 (k' := (v : Int)) (t' := s.extract 2 s.size) (a' := none) (l' := 0) (c' := 0)
      refine bodyPost_ret (v := .tuple #[.agg #[.int .i64 v, .string (s.extract 2 s.size), .slice none 0 0], .bool true]) (by simp [results, Try.results35, go_sem, z0, z1, z2]) rfl ?_
      exact ⟨.inl ⟨HO.out, by rw [HV.out]⟩, below_store3 HB2.out (Nat.le_refl _)⟩
end Go.Proofs.Ytajdpchojimigaa
