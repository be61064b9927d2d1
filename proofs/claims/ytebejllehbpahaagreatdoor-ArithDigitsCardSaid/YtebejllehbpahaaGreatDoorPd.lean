/- Sums of numbers with a sign, and numbers of texts. -/
import Derived.Test.YtebejllehbpahaaGreatDoorPc
import Derived.Deep.RegionHeld3
import Derived.Lib.AtoiErrMem
import Derived.Lib.AppendIntMem
import Derived.Lib.IndexBytes
/- The sum of two integers. -/
namespace Go.Proofs.YtebejllehbpahaaGreatDoor
open Go.RowKit Go.Proofs.ArM

/-- the boxes of two integers, and all that lay before -/
def PBox (N : Nat) (W w' : World) (p q r t : Value) : Prop :=
  w'.cell? ⟨N, 0, none⟩ = some p ∧ w'.cell? ⟨N, 1, none⟩ = some q ∧ w'.cell? ⟨N + 1, 0, none⟩ = some r ∧ w'.cell? ⟨N + 1, 1, none⟩ = some t ∧ Below (N + 3) W w'

theorem pbox_next {N : Nat} {W wx wy : World} {p q r t : Value} (h : PBox N W wx p q r t) (hW : N + 3 ≤ W.heap.size) (hb : Below wx.heap.size wx wy) : PBox N W wy p q r t := by
  obtain ⟨h1, h2, h3, h4, h5⟩ := h
  have hs := h5.size
  exact ⟨(hb.cell (p := ⟨N, 0, none⟩) (by simp; omega)).trans h1, (hb.cell (p := ⟨N, 1, none⟩) (by simp; omega)).trans h2, (hb.cell (p := ⟨N + 1, 0, none⟩) (by simp; omega)).trans h3,
    (hb.cell (p := ⟨N + 1, 1, none⟩) (by simp; omega)).trans h4, h5.trans (hb.mono (by omega))⟩

theorem pbox_new (w : World) (ty : TypeId) (p q r t : Value) :
    ∃ W, W = ((w.alloc (.cells #[p, q] ty)).alloc (.cells #[r, t] ty)).alloc (.cells #[.bool false, .slice none 0 0] ty) ∧
      w.heap.size + 3 = W.heap.size ∧ Below w.heap.size w W ∧ PBox w.heap.size W W p q r t ∧
      (W.cell? ⟨w.heap.size + 1 + 1, 0, none⟩ = some (.bool false) ∧ W.cell? ⟨w.heap.size + 1 + 1, 1, none⟩ = some (.slice none 0 0) ∧ W.frozen? ⟨w.heap.size + 1 + 1, 0, none⟩ = false ∧ W.frozen? ⟨w.heap.size + 1 + 1, 1, none⟩ = false) := by
  refine ⟨_, rfl, by simp, (((Below.refl _ _).alloc (Nat.le_refl _) _).alloc (by simp) _).alloc (by simp; omega) _, ⟨?_, ?_, ?_, ?_, Below.refl _ _⟩, ?_, ?_, ?_, ?_⟩
  · rw [World.cell?_alloc_past _ _ _ (by simp; omega), World.cell?_alloc_past _ _ _ (by simp), World.cell?_alloc_at _ _ _ _ rfl]; rfl
  · rw [World.cell?_alloc_past _ _ _ (by simp; omega), World.cell?_alloc_past _ _ _ (by simp), World.cell?_alloc_at _ _ _ _ rfl]; rfl
  · rw [World.cell?_alloc_past _ _ _ (by simp), World.cell?_alloc_at _ _ _ _ (by simp)]; rfl
  · rw [World.cell?_alloc_past _ _ _ (by simp), World.cell?_alloc_at _ _ _ _ (by simp)]; rfl
  · rw [World.cell?_alloc_at _ _ _ _ (by simp)]; rfl
  · rw [World.cell?_alloc_at _ _ _ _ (by simp)]; rfl
  · exact World.frozen?_alloc_at _ _ _ _ (by simp)
  · exact World.frozen?_alloc_at _ _ _ _ (by simp)

/-- an integer in new memory -/
def OutZf (w : World) (n : Int) (e : Ending) (w' : World) : Prop :=
  ∃ a c ds, e = .returned (.agg #[.bool (decide (n < 0)), .slice a ds.length c]) ∧ Sl w'.heap.size w' a c ds ∧ Hid (ds = Ldigs n.natAbs) ∧ Below w.heap.size w w' ∧ Hid (∀ p, a = some p → w.heap.size ≤ p.block)

theorem zf_end {w wz : World} {a : Option Addr} {c g : Nat} {ds : List Int} {n : Int} {s : Bool} {u v : Value} (hS : Sl wz.heap.size wz a c ds) (hg : ∀ p, a = some p → g < p.block) (hd : ds = Ldigs n.natAbs) (hs : s = decide (n < 0))
    (hb : Below w.heap.size w wz) (hgw : w.heap.size ≤ g) : OutZf w n (.returned (.agg #[.bool s, .slice a ds.length c])) ((wz.setCell ⟨g, 0, none⟩ u).setCell ⟨g, 1, none⟩ v) := by
  obtain ⟨a1, c1, d1, h1, h2, h3, h4⟩ := zi_end (u := u) (v := v) hS (fun p hp => Nat.ne_of_gt (hg p hp)) hd hs hb hgw
  refine ⟨a, c, ds, by rw [hs], ?_, Lib.hid hd, h4, Lib.hid (fun p hp => Nat.le_of_lt (Nat.lt_of_le_of_lt hgw (hg p hp)))⟩
  have h := (hS.set (j := 0) (u := u) (fun p hp => Nat.ne_of_gt (hg p hp))).set (j := 1) (u := v) (fun p hp => Nat.ne_of_gt (hg p hp))
  simpa using h

theorem psign_b (s s2 : Bool) (a : Option Addr) (c : Nat) (xs : List Int) (k : Nat) (w : World) (hx : xs = Ldigs k) (hn : s2 = decide ((if s then -(k : Int) else k) < 0)) :
    Calls Tryz.prog 51 #[.bool s, .slice a xs.length c] w (OutV w (.agg #[.bool s2, .slice a xs.length c])) :=
  (psigned_any s a c xs k w hx).mono fun e w' h => ⟨by rw [hn]; exact h.1, h.2⟩

set_option maxHeartbeats 12800000 in
set_option maxRecDepth 100000 in
theorem psum_gen (a a' : Option Addr) (c c' : Nat) (xs ys : List Int) (sa sb : Bool) (p q : Nat) (w : World) (ha : Sl w.heap.size w a c xs) (hb0 : Sl w.heap.size w a' c' ys)
    (hx : xs = Ldigs p) (hy : ys = Ldigs q) (hlx : xs.length ≤ 10000) (hly : ys.length ≤ 10000) (r : Int) (hr : r = (if sa then -(p : Int) else p) + (if sb then -(q : Int) else q)) :
    Calls Tryz.prog 37 #[.agg #[.bool sa, .slice a xs.length c], .agg #[.bool sb, .slice a' ys.length c']] w (OutZf w r) := by
  have HX := Lib.hid hx
  have HY := Lib.hid hy
  have hcx : LCanon xs := by rw [hx]; exact Lcanon_digs _
  have hcy : LCanon ys := by rw [hy]; exact Lcanon_digs _
  have HMX := Lib.hid (show Lval xs = (p : Int) from by rw [hx, Lval_digs])
  have HMY := Lib.hid (show Lval ys = (q : Int) from by rw [hy, Lval_digs])
  have HA := Lib.hid ha
  have HB0 := Lib.hid hb0
  clear hx hy ha hb0
  cases sa <;> cases sb
  all_goals
    simp only [Bool.false_eq_true, if_false, if_true] at hr
    have HR0 := Lib.hid hr
    clear hr
  · obtain ⟨W, hW, hN, hwW, hB0, hR0⟩ := pbox_new w 50 (.bool false) (.slice a xs.length c) (.bool false) (.slice a' ys.length c')
    have hsz := Lib.hid hN
    have HR := Lib.hid hR0
    have HB := Lib.hid hB0
    have HW := Lib.hid hW
    have hwW3 := Lib.hid hwW
    clear hR0 hN hB0 hW
    go_enter Tryz.func37, Tryz.ntmps37
    go_wp2_with fail
    rw [← HW.out]
    have HBW := HB
    have hwW := hwW3.out
    obtain ⟨hk1, hk2, hk3, hk4, hk5⟩ := HBW.out
    have hsz0 := hsz.out
    have HBd := Lib.hid (pbox_next HBW.out (by omega) ((Below.refl _ _).drew))
    have hIa : Sl W.drew.heap.size W.drew a c xs := HA.out.below hwW.drew hwW.size
    have hIb : Sl W.drew.heap.size W.drew a' c' ys := HB0.out.below hwW.drew hwW.size
    obtain ⟨s2, hs2⟩ : ∃ s2 : Bool, s2 = decide (r < 0) := ⟨_, rfl⟩
    have HS2 := Lib.hid hs2
    have HSG := Lib.hid (show s2 = decide ((if false then -((p + q : Nat) : Int) else ((p + q : Nat) : Int)) < 0) from by
      rw [hs2, HR0.out, Bool.eq_iff_iff]; simp; try omega)
    have HRN := Lib.hid (show r.natAbs = p + q from by rw [HR0.out]; omega)
    clear hs2
    go_region_held3 (fun w' => w'.cell? ⟨w.heap.size, 0, none⟩ = some (.bool false) ∧ w'.cell? ⟨w.heap.size, 1, none⟩ = some (.slice a xs.length c) ∧ w'.cell? ⟨w.heap.size + 1, 0, none⟩ = some (.bool false) ∧ w'.cell? ⟨w.heap.size + 1, 1, none⟩ = some (.slice a' ys.length c'))
      (first | exact ⟨hk1, hk2, hk3, hk4⟩ | exact ⟨hB4.1, hB4.2.1, hB4.2.2.1, hB4.2.2.2.1⟩ | exact ⟨hB3.1, hB3.2.1, hB3.2.2.1, hB3.2.2.2.1⟩ | (refine ⟨?_, ?_, ?_, ?_⟩ <;> (rw [World.cell?_setCell_other _ _ _ _ (by intro e; have e1 := congrArg Addr.block e; simp at e1; try omega), World.cell?_setCell_other _ _ _ _ (by intro e; have e1 := congrArg Addr.block e; simp at e1; try omega)]; first | exact hB4.1 | exact hB4.2.1 | exact hB4.2.2.1 | exact hB4.2.2.2.1)) | go_keep)
      (first | (go_at_call 51; refine (psign_b false s2 a3 c3 zs _ wy hzs.out HSG.out).mono ?_; rintro e wz ⟨rfl, hb4⟩; have hB4 := pbox_next hB3 (by have := hsz.out; omega) hb4; have hr0 := (hB4.2.2.2.2.cell (p := ⟨w.heap.size + 1 + 1, 0, none⟩) (by simp)).trans HR.out.1; have hr1 := (hB4.2.2.2.2.cell (p := ⟨w.heap.size + 1 + 1, 1, none⟩) (by simp)).trans HR.out.2.1; have hf0 := (hB4.2.2.2.2.frozen (p := ⟨w.heap.size + 1 + 1, 0, none⟩) (by simp)).trans HR.out.2.2.1; have hf1 := (hB4.2.2.2.2.frozen (p := ⟨w.heap.size + 1 + 1, 1, none⟩) (by simp)).trans HR.out.2.2.2) | (go_at_call 66; refine (pplus_any a a' c c' xs ys p q W.drew hIa hIb HX.out HY.out (by omega) (by omega)).mono ?_; rintro e wy ⟨a3, c3, zs, rfl, hS3, hzs, hb3, hn3⟩; have hB3 := pbox_next HBd.out (by have := hsz.out; omega) hb3))
    go_wp2
    have hsz1 := hsz.out
    have hs3 := hB3.2.2.2.2.size
    have hW0 := hwW3.out.size
    have r0 := (hB4.2.2.2.2.cell (p := ⟨w.heap.size + 1 + 1, 0, none⟩) (by simp)).trans HR.out.1
    have r1 := (hB4.2.2.2.2.cell (p := ⟨w.heap.size + 1 + 1, 1, none⟩) (by simp)).trans HR.out.2.1
    have q0 := fun u => World.cell?_setCell_same wz ⟨w.heap.size + 1 + 1, 0, none⟩ u r0
    have q1 := fun u v => World.cell?_setCell_same (wz.setCell ⟨w.heap.size + 1 + 1, 0, none⟩ u) ⟨w.heap.size + 1 + 1, 1, none⟩ v ((World.cell?_setCell_other _ _ _ _ (by simp)).trans r1)
    refine bodyPost_ret (v := .agg #[.bool s2, .slice a3 zs.length c3]) (by simp [results, Tryz.results37, go_sem, q0, q1]) rfl ?_
    exact zf_end (hS3.later hb4) (fun p hp => by have := hn3.out p hp; have h5 := HBW.out.2.2.2.2.size; have hdz : W.drew.heap.size = W.heap.size := rfl; omega) (by rw [hzs.out, HRN.out]) HS2.out (hwW3.out.trans (hB4.2.2.2.2.mono (by omega))) (by omega)
  · obtain ⟨W, hW, hN, hwW, hB0, hR0⟩ := pbox_new w 50 (.bool false) (.slice a xs.length c) (.bool true) (.slice a' ys.length c')
    have hsz := Lib.hid hN
    have HR := Lib.hid hR0
    have HB := Lib.hid hB0
    have HW := Lib.hid hW
    have hwW3 := Lib.hid hwW
    clear hR0 hN hB0 hW
    go_enter Tryz.func37, Tryz.ntmps37
    go_wp2_with fail
    rw [← HW.out]
    have hwW := hwW3.out
    have hIb1 := HB0.out.below hwW hwW.size
    have hIa1 := HA.out.below hwW hwW.size
    obtain ⟨v, hvl, hvg, hC⟩ := pcmp_lt a a' c c' xs ys p q W hIa1 hIb1 HX.out HY.out (by omega) (by omega)
    have C := Lib.hid hC
    clear hC hIa1 hIb1
    refine C.out.mono ?_
    rintro e w5 ⟨rfl, hb5⟩
    have hww5 := hwW.trans (hb5.mono hwW.size)
    have HBw5 := Lib.hid (pbox_next HB.out (by have := hsz.out; omega) hb5)
    clear hb5
    by_cases hlt : p < q
    · have hv0 := hvl hlt
      have HLT := Lib.hid (Nat.le_of_lt hlt)
      have hpq := hlt
      clear hvl hvg hlt
      go_wp2_with fail
      obtain ⟨hk1, hk2, hk3, hk4, hk5⟩ := HBw5.out
      have hsz0 := hsz.out
      have HBd := Lib.hid (pbox_next HBw5.out (by omega) ((Below.refl _ _).drew))
      have hIa : Sl w5.drew.heap.size w5.drew a c xs := HA.out.below hww5.drew hww5.size
      have hIb : Sl w5.drew.heap.size w5.drew a' c' ys := HB0.out.below hww5.drew hww5.size
      obtain ⟨s2, hs2⟩ : ∃ s2 : Bool, s2 = decide (r < 0) := ⟨_, rfl⟩
      have HS2 := Lib.hid hs2
      have HSG := Lib.hid (show s2 = decide ((if true then -((q - p : Nat) : Int) else ((q - p : Nat) : Int)) < 0) from by
        rw [hs2, HR0.out, Bool.eq_iff_iff]; simp; try omega)
      have HRN := Lib.hid (show r.natAbs = q - p from by rw [HR0.out]; omega)
      clear hs2
      go_region_held3 (fun w' => w'.cell? ⟨w.heap.size, 0, none⟩ = some (.bool false) ∧ w'.cell? ⟨w.heap.size, 1, none⟩ = some (.slice a xs.length c) ∧ w'.cell? ⟨w.heap.size + 1, 0, none⟩ = some (.bool true) ∧ w'.cell? ⟨w.heap.size + 1, 1, none⟩ = some (.slice a' ys.length c'))
        (first | exact ⟨hk1, hk2, hk3, hk4⟩ | exact ⟨hB4.1, hB4.2.1, hB4.2.2.1, hB4.2.2.2.1⟩ | exact ⟨hB3.1, hB3.2.1, hB3.2.2.1, hB3.2.2.2.1⟩ | (refine ⟨?_, ?_, ?_, ?_⟩ <;> (rw [World.cell?_setCell_other _ _ _ _ (by intro e; have e1 := congrArg Addr.block e; simp at e1; try omega), World.cell?_setCell_other _ _ _ _ (by intro e; have e1 := congrArg Addr.block e; simp at e1; try omega)]; first | exact hB4.1 | exact hB4.2.1 | exact hB4.2.2.1 | exact hB4.2.2.2.1)) | go_keep)
        (first | (go_at_call 51; refine (psign_b true s2 a3 c3 zs _ wy hzs.out HSG.out).mono ?_; rintro e wz ⟨rfl, hb4⟩; have hB4 := pbox_next hB3 (by have := hsz.out; omega) hb4; have hr0 := (hB4.2.2.2.2.cell (p := ⟨w.heap.size + 1 + 1, 0, none⟩) (by simp)).trans HR.out.1; have hr1 := (hB4.2.2.2.2.cell (p := ⟨w.heap.size + 1 + 1, 1, none⟩) (by simp)).trans HR.out.2.1; have hf0 := (hB4.2.2.2.2.frozen (p := ⟨w.heap.size + 1 + 1, 0, none⟩) (by simp)).trans HR.out.2.2.1; have hf1 := (hB4.2.2.2.2.frozen (p := ⟨w.heap.size + 1 + 1, 1, none⟩) (by simp)).trans HR.out.2.2.2) | (go_at_call 67; refine (pless_any a' a c' c ys xs q p w5.drew hIb hIa HY.out HX.out HLT.out (by omega)).mono ?_; rintro e wy ⟨a3, c3, zs, rfl, hS3, hzs, hb3, hn3⟩; have hB3 := pbox_next HBd.out (by have := hsz.out; omega) hb3))
      go_wp2
      have hsz1 := hsz.out
      have hs3 := hB3.2.2.2.2.size
      have hW0 := hwW3.out.size
      have r0 := (hB4.2.2.2.2.cell (p := ⟨w.heap.size + 1 + 1, 0, none⟩) (by simp)).trans HR.out.1
      have r1 := (hB4.2.2.2.2.cell (p := ⟨w.heap.size + 1 + 1, 1, none⟩) (by simp)).trans HR.out.2.1
      have q0 := fun u => World.cell?_setCell_same wz ⟨w.heap.size + 1 + 1, 0, none⟩ u r0
      have q1 := fun u v => World.cell?_setCell_same (wz.setCell ⟨w.heap.size + 1 + 1, 0, none⟩ u) ⟨w.heap.size + 1 + 1, 1, none⟩ v ((World.cell?_setCell_other _ _ _ _ (by simp)).trans r1)
      refine bodyPost_ret (v := .agg #[.bool s2, .slice a3 zs.length c3]) (by simp [results, Tryz.results37, go_sem, q0, q1]) rfl ?_
      exact zf_end (hS3.later hb4) (fun p hp => by have := hn3.out p hp; have h5 := HBw5.out.2.2.2.2.size; have hdz : w5.drew.heap.size = w5.heap.size := rfl; omega) (by rw [hzs.out, HRN.out]) HS2.out (hwW3.out.trans (hB4.2.2.2.2.mono (by omega))) (by omega)
    · have hv0 := hvg (by omega)
      have HLT := Lib.hid (show q ≤ p by omega)
      have hpq : q ≤ p := by omega
      clear hvl hvg hlt
      go_wp2_with fail
      obtain ⟨hk1, hk2, hk3, hk4, hk5⟩ := HBw5.out
      have hsz0 := hsz.out
      have HBd := Lib.hid (pbox_next HBw5.out (by omega) ((Below.refl _ _).drew))
      have hIa : Sl w5.drew.heap.size w5.drew a c xs := HA.out.below hww5.drew hww5.size
      have hIb : Sl w5.drew.heap.size w5.drew a' c' ys := HB0.out.below hww5.drew hww5.size
      obtain ⟨s2, hs2⟩ : ∃ s2 : Bool, s2 = decide (r < 0) := ⟨_, rfl⟩
      have HS2 := Lib.hid hs2
      have HSG := Lib.hid (show s2 = decide ((if false then -((p - q : Nat) : Int) else ((p - q : Nat) : Int)) < 0) from by
        rw [hs2, HR0.out, Bool.eq_iff_iff]; simp; try omega)
      have HRN := Lib.hid (show r.natAbs = p - q from by rw [HR0.out]; omega)
      clear hs2
      go_region_held3 (fun w' => w'.cell? ⟨w.heap.size, 0, none⟩ = some (.bool false) ∧ w'.cell? ⟨w.heap.size, 1, none⟩ = some (.slice a xs.length c) ∧ w'.cell? ⟨w.heap.size + 1, 0, none⟩ = some (.bool true) ∧ w'.cell? ⟨w.heap.size + 1, 1, none⟩ = some (.slice a' ys.length c'))
        (first | exact ⟨hk1, hk2, hk3, hk4⟩ | exact ⟨hB4.1, hB4.2.1, hB4.2.2.1, hB4.2.2.2.1⟩ | exact ⟨hB3.1, hB3.2.1, hB3.2.2.1, hB3.2.2.2.1⟩ | (refine ⟨?_, ?_, ?_, ?_⟩ <;> (rw [World.cell?_setCell_other _ _ _ _ (by intro e; have e1 := congrArg Addr.block e; simp at e1; try omega), World.cell?_setCell_other _ _ _ _ (by intro e; have e1 := congrArg Addr.block e; simp at e1; try omega)]; first | exact hB4.1 | exact hB4.2.1 | exact hB4.2.2.1 | exact hB4.2.2.2.1)) | go_keep)
        (first | (go_at_call 51; refine (psign_b false s2 a3 c3 zs _ wy hzs.out HSG.out).mono ?_; rintro e wz ⟨rfl, hb4⟩; have hB4 := pbox_next hB3 (by have := hsz.out; omega) hb4; have hr0 := (hB4.2.2.2.2.cell (p := ⟨w.heap.size + 1 + 1, 0, none⟩) (by simp)).trans HR.out.1; have hr1 := (hB4.2.2.2.2.cell (p := ⟨w.heap.size + 1 + 1, 1, none⟩) (by simp)).trans HR.out.2.1; have hf0 := (hB4.2.2.2.2.frozen (p := ⟨w.heap.size + 1 + 1, 0, none⟩) (by simp)).trans HR.out.2.2.1; have hf1 := (hB4.2.2.2.2.frozen (p := ⟨w.heap.size + 1 + 1, 1, none⟩) (by simp)).trans HR.out.2.2.2) | (go_at_call 67; refine (pless_any a a' c c' xs ys p q w5.drew hIa hIb HX.out HY.out HLT.out (by omega)).mono ?_; rintro e wy ⟨a3, c3, zs, rfl, hS3, hzs, hb3, hn3⟩; have hB3 := pbox_next HBd.out (by have := hsz.out; omega) hb3))
      go_wp2
      have hsz1 := hsz.out
      have hs3 := hB3.2.2.2.2.size
      have hW0 := hwW3.out.size
      have r0 := (hB4.2.2.2.2.cell (p := ⟨w.heap.size + 1 + 1, 0, none⟩) (by simp)).trans HR.out.1
      have r1 := (hB4.2.2.2.2.cell (p := ⟨w.heap.size + 1 + 1, 1, none⟩) (by simp)).trans HR.out.2.1
      have q0 := fun u => World.cell?_setCell_same wz ⟨w.heap.size + 1 + 1, 0, none⟩ u r0
      have q1 := fun u v => World.cell?_setCell_same (wz.setCell ⟨w.heap.size + 1 + 1, 0, none⟩ u) ⟨w.heap.size + 1 + 1, 1, none⟩ v ((World.cell?_setCell_other _ _ _ _ (by simp)).trans r1)
      refine bodyPost_ret (v := .agg #[.bool s2, .slice a3 zs.length c3]) (by simp [results, Tryz.results37, go_sem, q0, q1]) rfl ?_
      exact zf_end (hS3.later hb4) (fun p hp => by have := hn3.out p hp; have h5 := HBw5.out.2.2.2.2.size; have hdz : w5.drew.heap.size = w5.heap.size := rfl; omega) (by rw [hzs.out, HRN.out]) HS2.out (hwW3.out.trans (hB4.2.2.2.2.mono (by omega))) (by omega)
  · obtain ⟨W, hW, hN, hwW, hB0, hR0⟩ := pbox_new w 50 (.bool true) (.slice a xs.length c) (.bool false) (.slice a' ys.length c')
    have hsz := Lib.hid hN
    have HR := Lib.hid hR0
    have HB := Lib.hid hB0
    have HW := Lib.hid hW
    have hwW3 := Lib.hid hwW
    clear hR0 hN hB0 hW
    go_enter Tryz.func37, Tryz.ntmps37
    go_wp2_with fail
    rw [← HW.out]
    have hwW := hwW3.out
    have hIb1 := HB0.out.below hwW hwW.size
    have hIa1 := HA.out.below hwW hwW.size
    obtain ⟨v, hvl, hvg, hC⟩ := pcmp_lt a a' c c' xs ys p q W hIa1 hIb1 HX.out HY.out (by omega) (by omega)
    have C := Lib.hid hC
    clear hC hIa1 hIb1
    refine C.out.mono ?_
    rintro e w5 ⟨rfl, hb5⟩
    have hww5 := hwW.trans (hb5.mono hwW.size)
    have HBw5 := Lib.hid (pbox_next HB.out (by have := hsz.out; omega) hb5)
    clear hb5
    by_cases hlt : p < q
    · have hv0 := hvl hlt
      have HLT := Lib.hid (Nat.le_of_lt hlt)
      have hpq := hlt
      clear hvl hvg hlt
      go_wp2_with fail
      obtain ⟨hk1, hk2, hk3, hk4, hk5⟩ := HBw5.out
      have hsz0 := hsz.out
      have HBd := Lib.hid (pbox_next HBw5.out (by omega) ((Below.refl _ _).drew))
      have hIa : Sl w5.drew.heap.size w5.drew a c xs := HA.out.below hww5.drew hww5.size
      have hIb : Sl w5.drew.heap.size w5.drew a' c' ys := HB0.out.below hww5.drew hww5.size
      obtain ⟨s2, hs2⟩ : ∃ s2 : Bool, s2 = decide (r < 0) := ⟨_, rfl⟩
      have HS2 := Lib.hid hs2
      have HSG := Lib.hid (show s2 = decide ((if false then -((q - p : Nat) : Int) else ((q - p : Nat) : Int)) < 0) from by
        rw [hs2, HR0.out, Bool.eq_iff_iff]; simp; try omega)
      have HRN := Lib.hid (show r.natAbs = q - p from by rw [HR0.out]; omega)
      clear hs2
      go_region_held3 (fun w' => w'.cell? ⟨w.heap.size, 0, none⟩ = some (.bool true) ∧ w'.cell? ⟨w.heap.size, 1, none⟩ = some (.slice a xs.length c) ∧ w'.cell? ⟨w.heap.size + 1, 0, none⟩ = some (.bool false) ∧ w'.cell? ⟨w.heap.size + 1, 1, none⟩ = some (.slice a' ys.length c'))
        (first | exact ⟨hk1, hk2, hk3, hk4⟩ | exact ⟨hB4.1, hB4.2.1, hB4.2.2.1, hB4.2.2.2.1⟩ | exact ⟨hB3.1, hB3.2.1, hB3.2.2.1, hB3.2.2.2.1⟩ | (refine ⟨?_, ?_, ?_, ?_⟩ <;> (rw [World.cell?_setCell_other _ _ _ _ (by intro e; have e1 := congrArg Addr.block e; simp at e1; try omega), World.cell?_setCell_other _ _ _ _ (by intro e; have e1 := congrArg Addr.block e; simp at e1; try omega)]; first | exact hB4.1 | exact hB4.2.1 | exact hB4.2.2.1 | exact hB4.2.2.2.1)) | go_keep)
        (first | (go_at_call 51; refine (psign_b false s2 a3 c3 zs _ wy hzs.out HSG.out).mono ?_; rintro e wz ⟨rfl, hb4⟩; have hB4 := pbox_next hB3 (by have := hsz.out; omega) hb4; have hr0 := (hB4.2.2.2.2.cell (p := ⟨w.heap.size + 1 + 1, 0, none⟩) (by simp)).trans HR.out.1; have hr1 := (hB4.2.2.2.2.cell (p := ⟨w.heap.size + 1 + 1, 1, none⟩) (by simp)).trans HR.out.2.1; have hf0 := (hB4.2.2.2.2.frozen (p := ⟨w.heap.size + 1 + 1, 0, none⟩) (by simp)).trans HR.out.2.2.1; have hf1 := (hB4.2.2.2.2.frozen (p := ⟨w.heap.size + 1 + 1, 1, none⟩) (by simp)).trans HR.out.2.2.2) | (go_at_call 67; refine (pless_any a' a c' c ys xs q p w5.drew hIb hIa HY.out HX.out HLT.out (by omega)).mono ?_; rintro e wy ⟨a3, c3, zs, rfl, hS3, hzs, hb3, hn3⟩; have hB3 := pbox_next HBd.out (by have := hsz.out; omega) hb3))
      go_wp2
      have hsz1 := hsz.out
      have hs3 := hB3.2.2.2.2.size
      have hW0 := hwW3.out.size
      have r0 := (hB4.2.2.2.2.cell (p := ⟨w.heap.size + 1 + 1, 0, none⟩) (by simp)).trans HR.out.1
      have r1 := (hB4.2.2.2.2.cell (p := ⟨w.heap.size + 1 + 1, 1, none⟩) (by simp)).trans HR.out.2.1
      have q0 := fun u => World.cell?_setCell_same wz ⟨w.heap.size + 1 + 1, 0, none⟩ u r0
      have q1 := fun u v => World.cell?_setCell_same (wz.setCell ⟨w.heap.size + 1 + 1, 0, none⟩ u) ⟨w.heap.size + 1 + 1, 1, none⟩ v ((World.cell?_setCell_other _ _ _ _ (by simp)).trans r1)
      refine bodyPost_ret (v := .agg #[.bool s2, .slice a3 zs.length c3]) (by simp [results, Tryz.results37, go_sem, q0, q1]) rfl ?_
      exact zf_end (hS3.later hb4) (fun p hp => by have := hn3.out p hp; have h5 := HBw5.out.2.2.2.2.size; have hdz : w5.drew.heap.size = w5.heap.size := rfl; omega) (by rw [hzs.out, HRN.out]) HS2.out (hwW3.out.trans (hB4.2.2.2.2.mono (by omega))) (by omega)
    · have hv0 := hvg (by omega)
      have HLT := Lib.hid (show q ≤ p by omega)
      have hpq : q ≤ p := by omega
      clear hvl hvg hlt
      go_wp2_with fail
      obtain ⟨hk1, hk2, hk3, hk4, hk5⟩ := HBw5.out
      have hsz0 := hsz.out
      have HBd := Lib.hid (pbox_next HBw5.out (by omega) ((Below.refl _ _).drew))
      have hIa : Sl w5.drew.heap.size w5.drew a c xs := HA.out.below hww5.drew hww5.size
      have hIb : Sl w5.drew.heap.size w5.drew a' c' ys := HB0.out.below hww5.drew hww5.size
      obtain ⟨s2, hs2⟩ : ∃ s2 : Bool, s2 = decide (r < 0) := ⟨_, rfl⟩
      have HS2 := Lib.hid hs2
      have HSG := Lib.hid (show s2 = decide ((if true then -((p - q : Nat) : Int) else ((p - q : Nat) : Int)) < 0) from by
        rw [hs2, HR0.out, Bool.eq_iff_iff]; simp; try omega)
      have HRN := Lib.hid (show r.natAbs = p - q from by rw [HR0.out]; omega)
      clear hs2
      go_region_held3 (fun w' => w'.cell? ⟨w.heap.size, 0, none⟩ = some (.bool true) ∧ w'.cell? ⟨w.heap.size, 1, none⟩ = some (.slice a xs.length c) ∧ w'.cell? ⟨w.heap.size + 1, 0, none⟩ = some (.bool false) ∧ w'.cell? ⟨w.heap.size + 1, 1, none⟩ = some (.slice a' ys.length c'))
        (first | exact ⟨hk1, hk2, hk3, hk4⟩ | exact ⟨hB4.1, hB4.2.1, hB4.2.2.1, hB4.2.2.2.1⟩ | exact ⟨hB3.1, hB3.2.1, hB3.2.2.1, hB3.2.2.2.1⟩ | (refine ⟨?_, ?_, ?_, ?_⟩ <;> (rw [World.cell?_setCell_other _ _ _ _ (by intro e; have e1 := congrArg Addr.block e; simp at e1; try omega), World.cell?_setCell_other _ _ _ _ (by intro e; have e1 := congrArg Addr.block e; simp at e1; try omega)]; first | exact hB4.1 | exact hB4.2.1 | exact hB4.2.2.1 | exact hB4.2.2.2.1)) | go_keep)
        (first | (go_at_call 51; refine (psign_b true s2 a3 c3 zs _ wy hzs.out HSG.out).mono ?_; rintro e wz ⟨rfl, hb4⟩; have hB4 := pbox_next hB3 (by have := hsz.out; omega) hb4; have hr0 := (hB4.2.2.2.2.cell (p := ⟨w.heap.size + 1 + 1, 0, none⟩) (by simp)).trans HR.out.1; have hr1 := (hB4.2.2.2.2.cell (p := ⟨w.heap.size + 1 + 1, 1, none⟩) (by simp)).trans HR.out.2.1; have hf0 := (hB4.2.2.2.2.frozen (p := ⟨w.heap.size + 1 + 1, 0, none⟩) (by simp)).trans HR.out.2.2.1; have hf1 := (hB4.2.2.2.2.frozen (p := ⟨w.heap.size + 1 + 1, 1, none⟩) (by simp)).trans HR.out.2.2.2) | (go_at_call 67; refine (pless_any a a' c c' xs ys p q w5.drew hIa hIb HX.out HY.out HLT.out (by omega)).mono ?_; rintro e wy ⟨a3, c3, zs, rfl, hS3, hzs, hb3, hn3⟩; have hB3 := pbox_next HBd.out (by have := hsz.out; omega) hb3))
      go_wp2
      have hsz1 := hsz.out
      have hs3 := hB3.2.2.2.2.size
      have hW0 := hwW3.out.size
      have r0 := (hB4.2.2.2.2.cell (p := ⟨w.heap.size + 1 + 1, 0, none⟩) (by simp)).trans HR.out.1
      have r1 := (hB4.2.2.2.2.cell (p := ⟨w.heap.size + 1 + 1, 1, none⟩) (by simp)).trans HR.out.2.1
      have q0 := fun u => World.cell?_setCell_same wz ⟨w.heap.size + 1 + 1, 0, none⟩ u r0
      have q1 := fun u v => World.cell?_setCell_same (wz.setCell ⟨w.heap.size + 1 + 1, 0, none⟩ u) ⟨w.heap.size + 1 + 1, 1, none⟩ v ((World.cell?_setCell_other _ _ _ _ (by simp)).trans r1)
      refine bodyPost_ret (v := .agg #[.bool s2, .slice a3 zs.length c3]) (by simp [results, Tryz.results37, go_sem, q0, q1]) rfl ?_
      exact zf_end (hS3.later hb4) (fun p hp => by have := hn3.out p hp; have h5 := HBw5.out.2.2.2.2.size; have hdz : w5.drew.heap.size = w5.heap.size := rfl; omega) (by rw [hzs.out, HRN.out]) HS2.out (hwW3.out.trans (hB4.2.2.2.2.mono (by omega))) (by omega)
  · obtain ⟨W, hW, hN, hwW, hB0, hR0⟩ := pbox_new w 50 (.bool true) (.slice a xs.length c) (.bool true) (.slice a' ys.length c')
    have hsz := Lib.hid hN
    have HR := Lib.hid hR0
    have HB := Lib.hid hB0
    have HW := Lib.hid hW
    have hwW3 := Lib.hid hwW
    clear hR0 hN hB0 hW
    go_enter Tryz.func37, Tryz.ntmps37
    go_wp2_with fail
    rw [← HW.out]
    have HBW := HB
    have hwW := hwW3.out
    obtain ⟨hk1, hk2, hk3, hk4, hk5⟩ := HBW.out
    have hsz0 := hsz.out
    have HBd := Lib.hid (pbox_next HBW.out (by omega) ((Below.refl _ _).drew))
    have hIa : Sl W.drew.heap.size W.drew a c xs := HA.out.below hwW.drew hwW.size
    have hIb : Sl W.drew.heap.size W.drew a' c' ys := HB0.out.below hwW.drew hwW.size
    obtain ⟨s2, hs2⟩ : ∃ s2 : Bool, s2 = decide (r < 0) := ⟨_, rfl⟩
    have HS2 := Lib.hid hs2
    have HSG := Lib.hid (show s2 = decide ((if true then -((p + q : Nat) : Int) else ((p + q : Nat) : Int)) < 0) from by
      rw [hs2, HR0.out, Bool.eq_iff_iff]; simp; try omega)
    have HRN := Lib.hid (show r.natAbs = p + q from by rw [HR0.out]; omega)
    clear hs2
    go_region_held3 (fun w' => w'.cell? ⟨w.heap.size, 0, none⟩ = some (.bool true) ∧ w'.cell? ⟨w.heap.size, 1, none⟩ = some (.slice a xs.length c) ∧ w'.cell? ⟨w.heap.size + 1, 0, none⟩ = some (.bool true) ∧ w'.cell? ⟨w.heap.size + 1, 1, none⟩ = some (.slice a' ys.length c'))
      (first | exact ⟨hk1, hk2, hk3, hk4⟩ | exact ⟨hB4.1, hB4.2.1, hB4.2.2.1, hB4.2.2.2.1⟩ | exact ⟨hB3.1, hB3.2.1, hB3.2.2.1, hB3.2.2.2.1⟩ | (refine ⟨?_, ?_, ?_, ?_⟩ <;> (rw [World.cell?_setCell_other _ _ _ _ (by intro e; have e1 := congrArg Addr.block e; simp at e1; try omega), World.cell?_setCell_other _ _ _ _ (by intro e; have e1 := congrArg Addr.block e; simp at e1; try omega)]; first | exact hB4.1 | exact hB4.2.1 | exact hB4.2.2.1 | exact hB4.2.2.2.1)) | go_keep)
      (first | (go_at_call 51; refine (psign_b true s2 a3 c3 zs _ wy hzs.out HSG.out).mono ?_; rintro e wz ⟨rfl, hb4⟩; have hB4 := pbox_next hB3 (by have := hsz.out; omega) hb4; have hr0 := (hB4.2.2.2.2.cell (p := ⟨w.heap.size + 1 + 1, 0, none⟩) (by simp)).trans HR.out.1; have hr1 := (hB4.2.2.2.2.cell (p := ⟨w.heap.size + 1 + 1, 1, none⟩) (by simp)).trans HR.out.2.1; have hf0 := (hB4.2.2.2.2.frozen (p := ⟨w.heap.size + 1 + 1, 0, none⟩) (by simp)).trans HR.out.2.2.1; have hf1 := (hB4.2.2.2.2.frozen (p := ⟨w.heap.size + 1 + 1, 1, none⟩) (by simp)).trans HR.out.2.2.2) | (go_at_call 66; refine (pplus_any a a' c c' xs ys p q W.drew hIa hIb HX.out HY.out (by omega) (by omega)).mono ?_; rintro e wy ⟨a3, c3, zs, rfl, hS3, hzs, hb3, hn3⟩; have hB3 := pbox_next HBd.out (by have := hsz.out; omega) hb3))
    go_wp2
    have hsz1 := hsz.out
    have hs3 := hB3.2.2.2.2.size
    have hW0 := hwW3.out.size
    have r0 := (hB4.2.2.2.2.cell (p := ⟨w.heap.size + 1 + 1, 0, none⟩) (by simp)).trans HR.out.1
    have r1 := (hB4.2.2.2.2.cell (p := ⟨w.heap.size + 1 + 1, 1, none⟩) (by simp)).trans HR.out.2.1
    have q0 := fun u => World.cell?_setCell_same wz ⟨w.heap.size + 1 + 1, 0, none⟩ u r0
    have q1 := fun u v => World.cell?_setCell_same (wz.setCell ⟨w.heap.size + 1 + 1, 0, none⟩ u) ⟨w.heap.size + 1 + 1, 1, none⟩ v ((World.cell?_setCell_other _ _ _ _ (by simp)).trans r1)
    refine bodyPost_ret (v := .agg #[.bool s2, .slice a3 zs.length c3]) (by simp [results, Tryz.results37, go_sem, q0, q1]) rfl ?_
    exact zf_end (hS3.later hb4) (fun p hp => by have := hn3.out p hp; have h5 := HBW.out.2.2.2.2.size; have hdz : W.drew.heap.size = W.heap.size := rfl; omega) (by rw [hzs.out, HRN.out]) HS2.out (hwW3.out.trans (hB4.2.2.2.2.mono (by omega))) (by omega)

theorem psum_any (a a' : Option Addr) (c c' : Nat) (xs ys : List Int) (m n : Int) (w : World) (ha : Sl w.heap.size w a c xs) (hb0 : Sl w.heap.size w a' c' ys)
    (hx : xs = Ldigs m.natAbs) (hy : ys = Ldigs n.natAbs) (hlx : xs.length ≤ 10000) (hly : ys.length ≤ 10000) :
    Calls Tryz.prog 37 #[.agg #[.bool (decide (m < 0)), .slice a xs.length c], .agg #[.bool (decide (n < 0)), .slice a' ys.length c']] w (OutZf w (m + n)) :=
  psum_gen a a' c c' xs ys _ _ _ _ w ha hb0 hx hy hlx hly (m + n) (by
    by_cases h1 : m < 0 <;> by_cases h2 : n < 0 <;> simp [h1, h2] <;> omega)
end Go.Proofs.YtebejllehbpahaaGreatDoor

/- A list of limbs out of a text of digits. -/
namespace Go.Proofs.YtebejllehbpahaaGreatDoor
open Go.RowKit Go.Proofs.ArM

theorem atoi_b (s : ByteArray) (n : Int) (w : World) (hl : s.size ≤ 18) (h : Lib.atoi s.data.toList = some n) :
    Calls Tryz.prog 55 #[.string s] w (fun e w' => e = .returned (.tuple #[.int .i64 n, .nilIface]) ∧ Below w.heap.size w w') :=
  (Tryz.strconv_Atoi s n hl h w).mono fun _ _ ⟨h1, t, h2⟩ => ⟨h1, by rw [h2]; exact Lib.bytesWorld_below w _ t⟩

set_option maxHeartbeats 6400000 in
set_option maxRecDepth 100000 in
theorem pof_any (s : ByteArray) (w : World) (hs : s.size ≤ 100000) (hd : ∀ b ∈ s.data.toList, digB b = true) :
    Calls Tryz.prog 62 #[.string s] w (OutK w (val (digsOf s.data.toList)).toNat) := by
  obtain ⟨i0, hi, hz0, hz1, hz2⟩ := info_parts Tryz.info3
  obtain ⟨t, ht⟩ : ∃ t, t = s.data.toList := ⟨_, rfl⟩
  have hlt : t.length = s.size := by rw [ht]; simp
  have HT := Lib.hid ht
  have HLT := Lib.hid hlt
  have HD := Lib.hid hd
  clear ht hlt hd
  go_enter Tryz.func62, Tryz.ntmps62
  go_wp2_with fail
  go_loopw [3, 4] (fun v i wr => ∃ (k : Nat) (zs : List Int), i = .int .i64 ((s.size : Int) - 4 * (k : Int)) ∧ Hid (zs.length = k) ∧ 4 * k < s.size + 4 ∧ wr.ownsRow w.heap.size 3 1 v zs.length (zs.map (Value.int .i64)) ∧ LDig zs ∧ Hid (Lval zs = val (digsOf (t.drop (s.size - 4 * k)))) ∧ Below w.heap.size w wr)
    (fun _ i _ => (intOf i + 4).toNat)
  case atStart => exact ⟨0, [], by go_num, Lib.hid rfl, by omega, ⟨rfl, .inl ⟨rfl, rfl⟩⟩, LDig.nil, Lib.hid (by rw [List.drop_of_length_le (by have := HLT.out; omega)]; rfl), Below.refl _ _⟩
  case round =>
    obtain ⟨k, zs, rfl, hzl, hk, hown, hdz, hv, hbl⟩ := hrel
    by_cases hkL : 4 * k < s.size
    · obtain ⟨e, he⟩ : ∃ e, e = s.size - 4 * k := ⟨_, rfl⟩
      obtain ⟨e', he'⟩ : ∃ e', e' = e - 4 := ⟨_, rfl⟩
      have hek : (s.size : Int) - 4 * (k : Int) = (e : Int) := by omega
      rw [hek]
      rw [← he] at hv
      have he0 : 0 < e := by omega
      have hes : e ≤ s.size := by omega
      have hee : e' ≤ e := by omega
      have hmax : max (0 : Int) ((e : Int) - 4) = (e' : Int) := by omega
      have HEK := Lib.hid hek
      have HE := Lib.hid he
      have HE' := Lib.hid he'
      clear hek he he'
      have hext : (s.extract e' e).data.toList = (t.drop e').take (e - e') := by
        rw [HT.out, Lib.extract_data]
      have hch : ∀ b ∈ (t.drop e').take (e - e'), digB b = true := fun b hb => HD.out b (by rw [← HT.out]; exact List.mem_of_mem_drop (List.mem_of_mem_take hb))
      have hne : (t.drop e').take (e - e') ≠ [] := by
        intro h0
        have := congrArg List.length h0
        rw [List.length_take, List.length_drop, HLT.out, List.length_nil] at this
        have h1 := HE'.out
        omega
      obtain ⟨d, hd⟩ : ∃ d, d = val (digsOf ((t.drop e').take (e - e'))) := ⟨_, rfl⟩
      have hat : Lib.atoi (s.extract e' e).data.toList = some d := by rw [hext, atoi_digs hch hne, hd]
      have hsz : (s.extract e' e).size ≤ 18 := by rw [ByteArray.size_extract]; have := HE'.out; omega
      have A := Lib.hid (atoi_b (s.extract e' e) d wr hsz hat)
      have R := Lib.hid (limb_step (t := t) (e := e) (e' := e') (d := d) (fun b hb => HD.out b (by rw [← HT.out]; exact hb)) (by rw [HLT.out]; exact hes) HE'.out he0 hdz (by rw [hzl.out, HLT.out]; have := HE.out; omega) hv.out hd)
      clear hext hch hne hd hat hsz
      go_wp2_with fail
      refine A.out.mono ?_
      rintro e1 w2 ⟨rfl, hb2⟩
      have hown2 := own_below hown hb2 (fun j hj => (hown.lt j hj).2)
      have hbl2 := hbl.trans (hb2.mono hbl.size)
      clear hown hbl hb2 hmax
      go_wp2_with (at_builtin; refine wpList_append_own _ rfl (.tmp 23) (.tmp 25) 48 rfl w.heap.size 3 i0 (.int .i64 0) 1 8 Tryz.underlying48 hi hz0 hz1 hz2 rfl (by decide) _ _ _ rfl (hown2.alloc _) ⟨w2.heap.size, 0, none⟩ 1 1 [.int .i64 _] rfl rfl (cell_one_new _ _ _) (by intro u hu; simp at hu; subst hu; rfl) (by have := hzl.out; unfold maxLen; omega) (by have := hzl.out; omega) (by have := hbl2.size; simp; omega) ?_; intro v' w3 hown' hgrow hnil; clear hnil)
      have hB := (hbl2.alloc (Nat.le_trans hbl2.size (Nat.le_refl _)) _).grown hgrow (by have := hbl2.size; simp; omega) (fun j hj => (hown2.lt j hj).1)
      have hfin := HE.out
      have hfin' := HE'.out
      go_roundw
      case rel => exact ⟨k + 1, zs ++ [d], by congr 1; omega, Lib.hid (by simp [hzl.out]), by omega, by simpa using hown', R.out.1, Lib.hid (by rw [R.out.2]; congr 3; omega), hB⟩
      case measure => simp [intOf]; omega
    · have HV := Lib.hid (show Lval zs = val (digsOf t) from by rw [hv.out, show s.size - 4 * k = 0 from by omega, List.drop_zero])
      have hpos := val_nonneg (dig_digsOf (fun b hb => HD.out b hb) : Dig (digsOf s.data.toList))
      have HP := Lib.hid hpos
      have hneg : ¬ (0 < (s.size : Int) - 4 * (k : Int)) := by omega
      clear hpos
      obtain ⟨a2, c2, rfl, hS2, hn2⟩ := own_sl hown
      have T := Lib.hid (ptrim_any _ _ _ wr hS2 hdz (by have := hzl.out; omega))
      have HS2 := Lib.hid hS2
      have HN2 := Lib.hid hn2
      clear hown hS2 hn2
      go_wp2_with fail
      refine T.out.mono ?_
      rintro e w2 ⟨k2, rfl, hk2, ht2, rfl⟩
      go_wp2
      go_ret
      exact outK_of HS2.out hk2 ht2.out (by rw [HV.out, HT.out, Int.toNat_of_nonneg HP.out]) rfl hbl HN2.out
end Go.Proofs.YtebejllehbpahaaGreatDoor
