/- The functions of the arithmetic. -/
import Derived.Test.YtebejllehbpahaaGreatDoorPf
import Derived.Test.YtebejllehbpahaaGreatDoorPe
/- The text of an integer, and the functions of two integers. -/
namespace Go.Proofs.YtebejllehbpahaaGreatDoor
open Go.RowKit Go.Proofs.ArM

theorem len_125 {k : Nat} (h : (digs k).length ≤ 500) : (Ldigs k).length ≤ 125 := by
  apply Nat.le_of_not_lt
  intro hl
  have := (large_iff k).1 hl
  omega

theorem ten0 : Tryz.prog.underlying 9 = some .string := Tryz.underlying9

set_option maxHeartbeats 3200000 in
set_option maxRecDepth 100000 in
theorem ptext_any (a : Option Addr) (c : Nat) (xs : List Int) (n : Int) (w : World) (h : Sl w.heap.size w a c xs) (hx : xs = Ldigs n.natAbs) (ht : Tabs w) :
    Calls Tryz.prog 42 #[.agg #[.bool (decide (n < 0)), .slice a xs.length c]] w (OutT w (resB n)) := by
  obtain ⟨s, hs⟩ : ∃ s, s = decide (n < 0) := ⟨_, rfl⟩
  have hbW : Below w.heap.size w (w.alloc (.cells #[.bool s, .slice a xs.length c] 50)) := (Below.refl _ _).alloc (Nat.le_refl _) _
  by_cases hlg : 125 < xs.length
  · have T := Lib.hid (tl_val a xs.length c true (decide_eq_true hlg))
    have HR := Lib.hid (show resB n = ([], 7) from by rw [resB, if_pos ((large_iff _).1 (by rw [← hx]; exact hlg))])
    rw [← hs]
    clear hlg hx hs h ht
    go_enter Tryz.func42, Tryz.ntmps42
    go_wp2_with fail
    refine (T.out _).mono ?_
    rintro e w2 ⟨rfl, rfl⟩
    go_wp2
    go_ret2
    exact outT_of (by rw [HR.out]) (by rw [HR.out]) hbW
  · have T := Lib.hid (tl_val a xs.length c false (decide_eq_false hlg))
    have HR := Lib.hid (show resB n = (numT n, 0) from by rw [resB, if_neg (fun h => hlg (by rw [hx]; exact (large_iff _).2 h))])
    have D0 := pdigits_any a c xs n (w.alloc (.cells #[.bool s, .slice a xs.length c] 50)) (h.later hbW) hx (ht.later hbW) (by omega)
    rw [← hs] at D0 ⊢
    have D := Lib.hid D0
    clear hlg hx hs h ht D0
    go_enter Tryz.func42, Tryz.ntmps42
    go_wp2_with fail
    refine (T.out _).mono ?_
    rintro e w2 ⟨rfl, rfl⟩
    go_wp2_with fail
    refine D.out.mono ?_
    rintro e w3 ⟨rfl, hb3⟩
    go_wp2
    go_ret2
    exact outT_of (by rw [HR.out]) (by rw [HR.out]) (hbW.trans (hb3.mono hbW.size))

/-- what a function of two integers does -/
def OpOk (fid : Nat) (op : Int → Int → Int) : Prop :=
  ∀ (a a' : Option Addr) (c c' : Nat) (xs ys : List Int) (m n : Int) (w : World), Sl w.heap.size w a c xs → Sl w.heap.size w a' c' ys → xs = Ldigs m.natAbs → ys = Ldigs n.natAbs → xs.length ≤ 125 → ys.length ≤ 125 →
    Calls Tryz.prog fid #[.agg #[.bool (decide (m < 0)), .slice a xs.length c], .agg #[.bool (decide (n < 0)), .slice a' ys.length c']] w (OutZf w (op m n))

set_option maxHeartbeats 6400000 in
set_option maxRecDepth 100000 in
theorem padd_op : OpOk 36 (fun m n => m + n) := by
  intro a a' c c' xs ys m n w h h' hx hy hlx hly
  obtain ⟨s, hs⟩ : ∃ s, s = decide (m < 0) := ⟨_, rfl⟩
  obtain ⟨t, ht⟩ : ∃ t, t = decide (n < 0) := ⟨_, rfl⟩
  obtain ⟨W, hW, hN, hwW, hB0, hR0⟩ := pbox_new w 50 (.bool s) (.slice a xs.length c) (.bool t) (.slice a' ys.length c')
  have P0 := psum_any a a' c c' xs ys m n W (h.below hwW hwW.size) (h'.below hwW hwW.size) hx hy (by omega) (by omega)
  rw [← hs, ← ht] at P0 ⊢
  have P := Lib.hid P0
  have HW := Lib.hid hW
  have HR := Lib.hid hR0
  have HN := Lib.hid hN
  clear P0 hs ht hx hy h h' hW hR0 hB0 hN
  go_enter Tryz.func36, Tryz.ntmps36
  go_wp2_with fail
  rw [← HW.out]
  refine P.out.mono ?_
  rintro e w2 ⟨a3, c3, ds, rfl, hS3, hds, hb2, hn2⟩
  have hsz := HN.out
  have y0 := (hb2.cell (p := ⟨w.heap.size + 1 + 1, 0, none⟩) (by simp; omega)).trans HR.out.1
  have y1 := (hb2.cell (p := ⟨w.heap.size + 1 + 1, 1, none⟩) (by simp; omega)).trans HR.out.2.1
  have y2 := (hb2.frozen (p := ⟨w.heap.size + 1 + 1, 0, none⟩) (by simp; omega)).trans HR.out.2.2.1
  have y3 := (hb2.frozen (p := ⟨w.heap.size + 1 + 1, 1, none⟩) (by simp; omega)).trans HR.out.2.2.2
  obtain ⟨s3, hs3⟩ : ∃ s3, s3 = decide (m + n < 0) := ⟨_, rfl⟩
  rw [← hs3]
  have HS3 := Lib.hid hs3
  clear hs3
  have q0 := fun u => (res_q y0 y1 u u).1
  have q1 := fun u v => (res_q y0 y1 u v).2
  have hbz := hwW.trans (hb2.mono hwW.size)
  go_wp2
  refine bodyPost_ret (v := .agg #[.bool s3, .slice a3 ds.length c3]) (by simp [results, Tryz.results36, go_sem, q0, q1]) rfl ?_
  exact zf_end hS3 (fun p hp => by have := hn2.out p hp; omega) hds.out HS3.out hbz (by omega)

end Go.Proofs.YtebejllehbpahaaGreatDoor

/- The difference and the product of two integers. -/
namespace Go.Proofs.YtebejllehbpahaaGreatDoor
open Go.RowKit Go.Proofs.ArM

theorem zf_b {w w' : World} {n : Int} {e : Ending} {s : Bool} (hs : s = decide (n < 0)) (h : OutZf w n e w') :
    ∃ a c ds, e = .returned (.agg #[.bool s, .slice a ds.length c]) ∧ Sl w'.heap.size w' a c ds ∧ Hid (ds = Ldigs n.natAbs) ∧ Below w.heap.size w w' ∧ Hid (∀ p, a = some p → w.heap.size ≤ p.block) := by
  subst hs; exact h
theorem zi_b {w w' : World} {n : Int} {e : Ending} {s : Bool} (hs : s = decide (n < 0)) (h : OutZi w n e w') :
    ∃ a c ds, e = .returned (.agg #[.bool s, .slice a ds.length c]) ∧ Sl w'.heap.size w' a c ds ∧ Hid (ds = Ldigs n.natAbs) ∧ Below w.heap.size w w' := by
  subst hs; exact h

theorem pneg_b (a : Option Addr) (c : Nat) (xs : List Int) (n : Int) (t : Bool) (w : World) (h : Sl w.heap.size w a c xs) (hx : xs = Ldigs n.natAbs) (ht : t = decide (n < 0)) :
    Calls Tryz.prog 40 #[.agg #[.bool t, .slice a xs.length c]] w (OutZi w (-n)) := by
  subst ht; exact pneg_any a c xs n w h hx

set_option maxHeartbeats 12800000 in
set_option maxRecDepth 100000 in
theorem psub_op : OpOk 39 (fun m n => m - n) := by
  intro a a' c c' xs ys m n w h h' hx hy hlx hly
  obtain ⟨s, hs⟩ : ∃ s, s = decide (m < 0) := ⟨_, rfl⟩
  obtain ⟨t, ht⟩ : ∃ t, t = decide (n < 0) := ⟨_, rfl⟩
  obtain ⟨W, hW, hN, hwW, hB0, hR0⟩ := pbox_new w 50 (.bool s) (.slice a xs.length c) (.bool t) (.slice a' ys.length c')
  have hIa : Sl W.drew.heap.size W.drew a c xs := h.below hwW.drew hwW.size
  have hIb : Sl W.drew.heap.size W.drew a' c' ys := h'.below hwW.drew hwW.size
  rw [← hs, ← ht]
  have HA := Lib.hid hIa
  have HBb := Lib.hid hIb
  have HSS := Lib.hid hs
  have HTT := Lib.hid ht
  have HX := Lib.hid hx
  have HY := Lib.hid hy
  have HW := Lib.hid hW
  have HR := Lib.hid hR0
  have hsz := Lib.hid hN
  have HB := Lib.hid hB0
  have HBd := Lib.hid (pbox_next HB.out (by omega) ((Below.refl _ _).drew))
  obtain ⟨s3, hs3⟩ : ∃ s3 : Bool, s3 = decide (m - n < 0) := ⟨_, rfl⟩
  have HS3 := Lib.hid hs3
  obtain ⟨hk1, hk2, hk3, hk4, hk5⟩ := hB0
  obtain ⟨t2, ht2⟩ : ∃ t2 : Bool, t2 = decide (-n < 0) := ⟨_, rfl⟩
  have HT2 := Lib.hid ht2
  have HSUM := Lib.hid (show m - n = (if s then -((m.natAbs : Nat) : Int) else ((m.natAbs : Nat) : Int)) + (if t2 then -(((-n).natAbs : Nat) : Int) else (((-n).natAbs : Nat) : Int)) from by
    rw [hs, ht2]
    by_cases h1 : m < 0 <;> by_cases h2 : -n < 0 <;> simp [h1] <;> omega)
  clear ht2
  clear hs ht hx hy h h' hW hR0 hN hs3 hIa hIb hk5
  go_enter Tryz.func39, Tryz.ntmps39
  go_wp2_with fail
  rw [← HW.out]
  go_region_held3 (fun w' => w'.cell? ⟨w.heap.size, 0, none⟩ = some (.bool s) ∧ w'.cell? ⟨w.heap.size, 1, none⟩ = some (.slice a xs.length c) ∧ w'.cell? ⟨w.heap.size + 1, 0, none⟩ = some (.bool t) ∧ w'.cell? ⟨w.heap.size + 1, 1, none⟩ = some (.slice a' ys.length c'))
    (first | exact ⟨hk1, hk2, hk3, hk4⟩ | exact ⟨hB4.1, hB4.2.1, hB4.2.2.1, hB4.2.2.2.1⟩ | exact ⟨hB3.1, hB3.2.1, hB3.2.2.1, hB3.2.2.2.1⟩ | (refine ⟨?_, ?_, ?_, ?_⟩ <;> (rw [World.cell?_setCell_other _ _ _ _ (by intro e; have e1 := congrArg Addr.block e; simp at e1; try omega), World.cell?_setCell_other _ _ _ _ (by intro e; have e1 := congrArg Addr.block e; simp at e1; try omega)]; first | exact hB4.1 | exact hB4.2.1 | exact hB4.2.2.1 | exact hB4.2.2.2.1)) | go_keep)
    (first | (go_at_call 37; refine (psum_gen a a3 c c3 xs zs s t2 _ _ wy (HA.out.later hb3) hS3 HX.out hzs.out (by omega) (by rw [hzs.out, Int.natAbs_neg, ← HY.out]; omega) (m - n) HSUM.out).mono ?_; intro e wz h1; obtain ⟨a4, c4, ds, rfl, hS4, hds, hb4, hn4⟩ := zf_b (s := s3) HS3.out h1; clear h1; have hB4 := pbox_next hB3 (by have := hsz.out; omega) hb4; have hr0 := (hB4.2.2.2.2.cell (p := ⟨w.heap.size + 1 + 1, 0, none⟩) (by simp)).trans HR.out.1; have hr1 := (hB4.2.2.2.2.cell (p := ⟨w.heap.size + 1 + 1, 1, none⟩) (by simp)).trans HR.out.2.1; have hf0 := (hB4.2.2.2.2.frozen (p := ⟨w.heap.size + 1 + 1, 0, none⟩) (by simp)).trans HR.out.2.2.1; have hf1 := (hB4.2.2.2.2.frozen (p := ⟨w.heap.size + 1 + 1, 1, none⟩) (by simp)).trans HR.out.2.2.2) | (go_at_call 40; refine (pneg_b a' c' ys n t W.drew HBb.out HY.out HTT.out).mono ?_; intro e wy h1; obtain ⟨a3, c3, zs, rfl, hS3, hzs, hb3⟩ := zi_b (s := t2) HT2.out h1; clear h1; have hB3 := pbox_next HBd.out (by have := hsz.out; omega) hb3))
  go_wp2
  have hsz1 := hsz.out
  have hs3 := hB3.2.2.2.2.size
  have hW0 := hwW.size
  have r0 := (hB4.2.2.2.2.cell (p := ⟨w.heap.size + 1 + 1, 0, none⟩) (by simp)).trans HR.out.1
  have r1 := (hB4.2.2.2.2.cell (p := ⟨w.heap.size + 1 + 1, 1, none⟩) (by simp)).trans HR.out.2.1
  have q0 := fun u => World.cell?_setCell_same wz ⟨w.heap.size + 1 + 1, 0, none⟩ u r0
  have q1 := fun u v => World.cell?_setCell_same (wz.setCell ⟨w.heap.size + 1 + 1, 0, none⟩ u) ⟨w.heap.size + 1 + 1, 1, none⟩ v ((World.cell?_setCell_other _ _ _ _ (by simp)).trans r1)
  have hh := HB.out.2.2.2.2.size
  refine bodyPost_ret (v := .agg #[.bool s3, .slice a4 ds.length c4]) (by simp [results, Tryz.results39, go_sem, q0, q1]) rfl ?_
  have hz4 := hb3.size
  exact zf_end hS4 (fun p hp => by have := hn4.out p hp; have hd : W.drew.heap.size = W.heap.size := rfl; omega) hds.out HS3.out (hwW.trans (hB4.2.2.2.2.mono (by omega))) (by omega)

end Go.Proofs.YtebejllehbpahaaGreatDoor

/- Reading one text, or two. -/
namespace Go.Proofs.YtebejllehbpahaaGreatDoor
open Go.RowKit Go.Proofs.ArM

/-- two integers that were read -/
def OutR2 (W : World) (m n : Int) (s t : Bool) (e : Ending) (w' : World) : Prop :=
  ∃ g cap a c ds a' c' es, e = .returned (.tuple #[.slice (some ⟨g, 0, none⟩) 2 cap, .int .i64 0]) ∧ w'.cell? ⟨g, 0, none⟩ = some (.bool s) ∧ w'.cell? ⟨g, 1, none⟩ = some (.slice a ds.length c) ∧ w'.cell? ⟨g, 2, none⟩ = some (.bool t) ∧ w'.cell? ⟨g, 3, none⟩ = some (.slice a' es.length c') ∧
    Sl w'.heap.size w' a c ds ∧ Sl w'.heap.size w' a' c' es ∧ Hid (ds = Ldigs m.natAbs) ∧ Hid (es = Ldigs n.natAbs) ∧ Below W.heap.size W w' ∧ W.heap.size ≤ g ∧ g < w'.heap.size ∧ 2 ≤ cap ∧ cap ≤ maxLen

def OutR1 (W : World) (m : Int) (s : Bool) (e : Ending) (w' : World) : Prop :=
  ∃ g cap a c ds, e = .returned (.tuple #[.slice (some ⟨g, 0, none⟩) 1 cap, .int .i64 0]) ∧ w'.cell? ⟨g, 0, none⟩ = some (.bool s) ∧ w'.cell? ⟨g, 1, none⟩ = some (.slice a ds.length c) ∧
    Sl w'.heap.size w' a c ds ∧ Hid (ds = Ldigs m.natAbs) ∧ Below W.heap.size W w' ∧ W.heap.size ≤ g ∧ g < w'.heap.size ∧ 1 ≤ cap ∧ cap ≤ maxLen

def OutRN (W : World) (e : Ending) (w' : World) : Prop := e = .returned (.tuple #[.slice none 0 0, .int .i64 2]) ∧ Below W.heap.size W w'

theorem txs_new2 (w : World) (s t : ByteArray) (ty : TypeId) : Txs (w.alloc (.cells #[.string s, .string t] ty)) w.heap.size 0 [s, t] := by
  refine ⟨by simp, fun j hj => ?_⟩
  have h := cells2 (W := w.alloc (.cells #[.string s, .string t] ty)) (heap_alloc_new w _)
  match j, hj with
  | 0, _ => exact h.1
  | 1, _ => exact h.2.1
theorem txs_new1 (w : World) (s : ByteArray) (ty : TypeId) : Txs (w.alloc (.cells #[.string s] ty)) w.heap.size 0 [s] := by
  refine ⟨by simp, fun j hj => ?_⟩
  have h := heap_alloc_new w (.cells #[.string s] ty)
  match j, hj with
  | 0, _ => exact Lib.cell_of_heap h 0

theorem zrow {w : World} {base n : Nat} {v : Value} {zs : List Zed} (h : w.ownsRow base 50 2 v n (zcells zs)) (h0 : 0 < n) : ∃ g cap, v = .slice (some ⟨g, 0, none⟩) n cap ∧ base ≤ g ∧ g < w.heap.size ∧ n ≤ cap ∧ cap ≤ maxLen := by
  rcases h.2 with ⟨_, hn⟩ | ⟨g, cap, cur, rfl, hg, hh, hnc, hcm, _⟩
  · omega
  · exact ⟨g, cap, rfl, hg, (Array.getElem?_eq_some_iff.1 hh).1, hnc, hcm⟩

theorem rd2_ok (s t : ByteArray) (s1 s2 : Bool) (hs : s.size ≤ 1000000) (ht : t.size ≤ 1000000) (hv : validB s.data.toList = true) (hv2 : validB t.data.toList = true) (h1 : s1 = decide (numOf s.data.toList < 0)) (h2 : s2 = decide (numOf t.data.toList < 0)) (w : World) (ty : TypeId) :
    Calls Tryz.prog 30 #[.slice (some ⟨w.heap.size, 0, none⟩) 2 2] (w.alloc (.cells #[.string s, .string t] ty)) (OutR2 (w.alloc (.cells #[.string s, .string t] ty)) (numOf s.data.toList) (numOf t.data.toList) s1 s2) := by
  refine (pread_any w.heap.size 0 2 [s, t] _ (txs_new2 w s t ty) (by simp) (by simp) (fun x hx => by simp at hx; rcases hx with rfl | rfl <;> assumption)).mono ?_
  intro e w' h
  rcases h with ⟨v, zs, rfl, hown, hok, hnum, _, hb⟩ | ⟨_, hf, _⟩
  · have hz := hnum.out
    obtain ⟨z1, z2, rfl⟩ : ∃ z1 z2, zs = [z1, z2] := by
      match zs, congrArg List.length hz with
      | [z1, z2], _ => exact ⟨z1, z2, rfl⟩
    simp only [List.map_cons, List.map_nil, List.cons.injEq, and_true] at hz
    obtain ⟨e1, e2⟩ := hz
    obtain ⟨g, cap, rfl, hg, hgl, hc1, hc2⟩ := zrow hown (by simp)
    have c0 := hown.cellAt 0 (by simp)
    have c1 := hown.cellAt 1 (by simp)
    have c2 := hown.cellAt 2 (by simp)
    have c3 := hown.cellAt 3 (by simp)
    refine ⟨g, cap, z1.a, z1.c, Ldigs z1.n.natAbs, z2.a, z2.c, Ldigs z2.n.natAbs, rfl, ?_, ?_, ?_, ?_, hok z1 (by simp), hok z2 (by simp), Lib.hid (by rw [e1]), Lib.hid (by rw [e2]), hb, hg, hgl, hc1, hc2⟩
    · rw [c0, h1, ← e1]; rfl
    · rw [c1]; rfl
    · rw [c2, h2, ← e2]; rfl
    · rw [c3]; rfl
  · obtain ⟨x, hx, hxf⟩ := hf.out
    simp at hx
    rcases hx with rfl | rfl
    · rw [hv] at hxf; cases hxf
    · rw [hv2] at hxf; cases hxf

theorem rd2_no (s t : ByteArray) (hs : s.size ≤ 1000000) (ht : t.size ≤ 1000000) (hv : (validB s.data.toList && validB t.data.toList) = false) (w : World) (ty : TypeId) :
    Calls Tryz.prog 30 #[.slice (some ⟨w.heap.size, 0, none⟩) 2 2] (w.alloc (.cells #[.string s, .string t] ty)) (OutRN (w.alloc (.cells #[.string s, .string t] ty))) := by
  refine (pread_any w.heap.size 0 2 [s, t] _ (txs_new2 w s t ty) (by simp) (by simp) (fun x hx => by simp at hx; rcases hx with rfl | rfl <;> assumption)).mono ?_
  intro e w' h
  rcases h with ⟨v, zs, rfl, hown, hok, hnum, hval, hb⟩ | ⟨h1, _, h3⟩
  · have a := hval.out s (by simp)
    have b := hval.out t (by simp)
    rw [a, b] at hv; cases hv
  · exact ⟨h1, h3⟩

theorem rd1_ok (s : ByteArray) (s1 : Bool) (hs : s.size ≤ 1000000) (hv : validB s.data.toList = true) (h1 : s1 = decide (numOf s.data.toList < 0)) (w : World) (ty : TypeId) :
    Calls Tryz.prog 30 #[.slice (some ⟨w.heap.size, 0, none⟩) 1 1] (w.alloc (.cells #[.string s] ty)) (OutR1 (w.alloc (.cells #[.string s] ty)) (numOf s.data.toList) s1) := by
  refine (pread_any w.heap.size 0 1 [s] _ (txs_new1 w s ty) (by simp) (by simp) (fun x hx => by simp at hx; subst hx; assumption)).mono ?_
  intro e w' h
  rcases h with ⟨v, zs, rfl, hown, hok, hnum, _, hb⟩ | ⟨_, hf, _⟩
  · have hz := hnum.out
    obtain ⟨z1, rfl⟩ : ∃ z1, zs = [z1] := by
      match zs, congrArg List.length hz with
      | [z1], _ => exact ⟨z1, rfl⟩
    simp only [List.map_cons, List.map_nil, List.cons.injEq, and_true] at hz
    obtain ⟨g, cap, rfl, hg, hgl, hc1, hc2⟩ := zrow hown (by simp)
    have c0 := hown.cellAt 0 (by simp)
    have c1 := hown.cellAt 1 (by simp)
    refine ⟨g, cap, z1.a, z1.c, Ldigs z1.n.natAbs, rfl, ?_, ?_, hok z1 (by simp), Lib.hid (by rw [hz]), hb, hg, hgl, hc1, hc2⟩
    · rw [c0, h1, ← hz]; rfl
    · rw [c1]; rfl
  · obtain ⟨x, hx, hxf⟩ := hf.out
    simp at hx
    subst hx
    rw [hv] at hxf; cases hxf

theorem rd1_no (s : ByteArray) (hs : s.size ≤ 1000000) (hv : validB s.data.toList = false) (w : World) (ty : TypeId) :
    Calls Tryz.prog 30 #[.slice (some ⟨w.heap.size, 0, none⟩) 1 1] (w.alloc (.cells #[.string s] ty)) (OutRN (w.alloc (.cells #[.string s] ty))) := by
  refine (pread_any w.heap.size 0 1 [s] _ (txs_new1 w s ty) (by simp) (by simp) (fun x hx => by simp at hx; subst hx; assumption)).mono ?_
  intro e w' h
  rcases h with ⟨v, zs, rfl, hown, hok, hnum, hval, hb⟩ | ⟨h1, _, h3⟩
  · have a := hval.out s (by simp)
    rw [a] at hv; cases hv
  · exact ⟨h1, h3⟩

end Go.Proofs.YtebejllehbpahaaGreatDoor

/- The program's sums, differences and products of texts. -/
namespace Go.Proofs.YtebejllehbpahaaGreatDoor
open Go.RowKit Go.Proofs.ArM

/-- what a function of two texts answers, by a function of two integers -/
def opR (op : Int → Int → Int) (a b : List UInt8) : List UInt8 × Int := if validB a && validB b then resB (op (numOf a) (numOf b)) else ([], 2)

theorem quad_next {w w' : World} {g : Nat} {p q r t : Value} (h : w.cell? ⟨g, 0, none⟩ = some p ∧ w.cell? ⟨g, 1, none⟩ = some q ∧ w.cell? ⟨g, 2, none⟩ = some r ∧ w.cell? ⟨g, 3, none⟩ = some t) (hg : g < w.heap.size) (hb : Below w.heap.size w w') :
    w'.cell? ⟨g, 0, none⟩ = some p ∧ w'.cell? ⟨g, 1, none⟩ = some q ∧ w'.cell? ⟨g, 2, none⟩ = some r ∧ w'.cell? ⟨g, 3, none⟩ = some t :=
  ⟨(hb.cell (p := ⟨g, 0, none⟩) hg).trans h.1, (hb.cell (p := ⟨g, 1, none⟩) hg).trans h.2.1, (hb.cell (p := ⟨g, 2, none⟩) hg).trans h.2.2.1, (hb.cell (p := ⟨g, 3, none⟩) hg).trans h.2.2.2⟩

set_option maxHeartbeats 12800000 in
set_option maxRecDepth 100000 in
theorem pcomp_any (fid : Nat) (op : Int → Int → Int) (s t : ByteArray) (w : World) (hs : s.size ≤ 1000000) (ht : t.size ≤ 1000000) (hT : Tabs w)
    (hE : ∀ args w, (callFunc fid args).run Tryz.prog w = .ok (.enter fid args) w) (hC : OpOk fid op) :
    Calls Tryz.prog 35 #[.string s, .string t, .func (.func fid) #[] #[]] w (OutT w (opR op s.data.toList t.data.toList)) := by
  have hbA : Below w.heap.size w (w.alloc (.cells #[.string s, .string t] 9)) := (Below.refl _ _).alloc (Nat.le_refl _) _
  cases hv : (validB s.data.toList && validB t.data.toList)
  · have R := Lib.hid (rd2_no s t hs ht hv w 9)
    have hr := Lib.hid (show opR op s.data.toList t.data.toList = ([], 2) from by rw [opR, hv]; rfl)
    clear hv hE hC
    go_enter Tryz.func35, Tryz.ntmps35
    go_wp2_with fail
    refine R.out.mono ?_
    rintro e w2 ⟨rfl, hb2⟩
    go_wp2
    go_ret2
    exact outT_of (by rw [hr.out]) (by rw [hr.out]) (hbA.trans (hb2.mono hbA.size))
  · have hr := Lib.hid (show opR op s.data.toList t.data.toList = resB (op (numOf s.data.toList) (numOf t.data.toList)) from by rw [opR, hv]; rfl)
    rw [Bool.and_eq_true] at hv
    obtain ⟨s1, hs1⟩ : ∃ s1, s1 = decide (numOf s.data.toList < 0) := ⟨_, rfl⟩
    obtain ⟨s2, hs2⟩ : ∃ s2, s2 = decide (numOf t.data.toList < 0) := ⟨_, rfl⟩
    have R := Lib.hid (rd2_ok s t s1 s2 hs ht hv.1 hv.2 hs1 hs2 w 9)
    have L1 := Lib.hid (len_125 (num_len hv.1))
    have L2 := Lib.hid (len_125 (num_len hv.2))
    have H1 := Lib.hid hs1
    have H2 := Lib.hid hs2
    have HE := Lib.hid hE
    have HC := Lib.hid hC
    clear hv hs1 hs2 hE hC
    generalize hm : numOf s.data.toList = m at *
    generalize hn : numOf t.data.toList = n at *
    clear hm hn
    go_enter Tryz.func35, Tryz.ntmps35
    go_wp2_with fail
    refine R.out.mono ?_
    rintro e w2 ⟨g, cap, a, c, ds, a', c', es, rfl, k0, k1, k2, k3, hS1, hS2, hd1, hd2, hb2, hg, hgl, hc1, hc2⟩
    have hbl := hbA.trans (hb2.mono hbA.size)
    have OP0 := HC.out a a' c c' ds es m n w2.drew (hS1.later ((Below.refl _ _).drew)) (hS2.later ((Below.refl _ _).drew)) hd1.out hd2.out (by rw [hd1.out]; exact L1.out) (by rw [hd2.out]; exact L2.out)
    rw [← H1.out, ← H2.out] at OP0
    have OP := Lib.hid OP0
    obtain ⟨s3, hs3⟩ : ∃ s3, s3 = decide (op m n < 0) := ⟨_, rfl⟩
    have H3 := Lib.hid hs3
    have HT := Lib.hid (hT.later hbl)
    unfold maxLen at hc2
    clear OP0 hs3 hS1 hS2 hb2 hg
    go_wp2_with fail
    have hE := HE.out
    go_region_held3 (fun w' => w'.cell? ⟨g, 0, none⟩ = some (.bool s1) ∧ w'.cell? ⟨g, 1, none⟩ = some (.slice a ds.length c) ∧ w'.cell? ⟨g, 2, none⟩ = some (.bool s2) ∧ w'.cell? ⟨g, 3, none⟩ = some (.slice a' es.length c'))
      (first | exact ⟨k0, k1, k2, k3⟩ | exact ⟨HK4.out.1, HK4.out.2.1, HK4.out.2.2.1, HK4.out.2.2.2⟩ | exact ⟨HK3.out.1, HK3.out.2.1, HK3.out.2.2.1, HK3.out.2.2.2⟩ | go_keep)
      (first | (go_at_call 42; refine (TX.out).mono ?_; rintro e w4 ⟨rfl, hb4⟩; have HK4 := Lib.hid (quad_next HK3.out (by have := hb3.size; have hd : w2.drew.heap.size = w2.heap.size := rfl; omega) hb4)) | (refine OP.out.mono ?_; intro e w3 h3; obtain ⟨a3, c3, fs, rfl, hS3, hfs, hb3, hn3⟩ := zf_b (s := s3) H3.out h3; clear h3; have HK3 := Lib.hid (quad_next (w := w2.drew) ⟨k0, k1, k2, k3⟩ hgl hb3); have TX0 := ptext_any a3 c3 fs (op m n) w3 hS3 hfs.out ((HT.out.later ((Below.refl _ _).drew)).later hb3); rw [← H3.out] at TX0; have TX := Lib.hid TX0; clear TX0))
    go_wp2
    go_ret2
    exact outT_of (by rw [hr.out]) (by rw [hr.out]) (hbl.trans (((Below.refl w2.heap.size w2).drew.trans (hb3.trans (hb4.mono hb3.size))).mono hbl.size))

set_option maxHeartbeats 3200000 in
set_option maxRecDepth 100000 in
theorem eadd (args : Array Value) (w : World) : (callFunc 36 args).run Tryz.prog w = .ok (.enter 36 args) w := by
  simp [callFunc, Tryz.func36]; rfl
set_option maxHeartbeats 3200000 in
set_option maxRecDepth 100000 in
theorem esub (args : Array Value) (w : World) : (callFunc 39 args).run Tryz.prog w = .ok (.enter 39 args) w := by
  simp [callFunc, Tryz.func39]; rfl
set_option maxHeartbeats 3200000 in
set_option maxRecDepth 100000 in
theorem aAdd_any (s t : ByteArray) (w : World) (hs : s.size ≤ 1000000) (ht : t.size ≤ 1000000) (hT : Tabs w) :
    Calls Tryz.prog 11 #[.string s, .string t] w (OutT w (addR s.data.toList t.data.toList)) := by
  have I := Lib.hid (pcomp_any 36 (fun m n => m + n) s t w hs ht hT eadd padd_op)
  clear hT
  go_enter Tryz.func11, Tryz.ntmps11
  go_wp2_with fail
  refine I.out.mono ?_
  rintro e w2 ⟨rfl, hb2⟩
  go_wp2
  go_ret2
  exact ⟨rfl, hb2⟩

set_option maxHeartbeats 3200000 in
set_option maxRecDepth 100000 in
theorem aSub_any (s t : ByteArray) (w : World) (hs : s.size ≤ 1000000) (ht : t.size ≤ 1000000) (hT : Tabs w) :
    Calls Tryz.prog 13 #[.string s, .string t] w (OutT w (subR s.data.toList t.data.toList)) := by
  have I := Lib.hid (pcomp_any 39 (fun m n => m - n) s t w hs ht hT esub psub_op)
  clear hT
  go_enter Tryz.func13, Tryz.ntmps13
  go_wp2_with fail
  refine I.out.mono ?_
  rintro e w2 ⟨rfl, hb2⟩
  go_wp2
  go_ret2
  exact ⟨rfl, hb2⟩

end Go.Proofs.YtebejllehbpahaaGreatDoor

/- The program's negation, order and division of texts. -/
namespace Go.Proofs.YtebejllehbpahaaGreatDoor
open Go.RowKit Go.Proofs.ArM

set_option maxHeartbeats 6400000 in
set_option maxRecDepth 100000 in
theorem aNeg_any (s : ByteArray) (w : World) (hs : s.size ≤ 1000000) (hT : Tabs w) :
    Calls Tryz.prog 15 #[.string s] w (OutT w (negR s.data.toList)) := by
  have hbA : Below w.heap.size w (w.alloc (.cells #[.string s] 9)) := (Below.refl _ _).alloc (Nat.le_refl _) _
  cases hv : validB s.data.toList
  · have R := Lib.hid (rd1_no s hs hv w 9)
    have hr := Lib.hid (show negR s.data.toList = ([], 2) from by rw [negR, hv]; rfl)
    clear hv
    go_enter Tryz.func15, Tryz.ntmps15
    go_wp2_with fail
    refine R.out.mono ?_
    rintro e w2 ⟨rfl, hb2⟩
    go_wp2
    go_ret2
    exact outT_of (by rw [hr.out]) (by rw [hr.out]) (hbA.trans (hb2.mono hbA.size))
  · have hr := Lib.hid (show negR s.data.toList = resB (-numOf s.data.toList) from by rw [negR, hv]; rfl)
    obtain ⟨s1, hs1⟩ : ∃ s1, s1 = decide (numOf s.data.toList < 0) := ⟨_, rfl⟩
    have R := Lib.hid (rd1_ok s s1 hs hv hs1 w 9)
    have H1 := Lib.hid hs1
    clear hv hs1
    generalize hm : numOf s.data.toList = m at *
    clear hm
    go_enter Tryz.func15, Tryz.ntmps15
    go_wp2_with fail
    refine R.out.mono ?_
    rintro e w2 ⟨g, cap, a, c, ds, rfl, k0, k1, hS1, hd1, hb2, hg, hgl, hc1, hc2⟩
    have hbl := hbA.trans (hb2.mono hbA.size)
    have NG := Lib.hid (pneg_b a c ds m s1 w2 hS1 hd1.out H1.out)
    obtain ⟨s3, hs3⟩ : ∃ s3, s3 = decide (-m < 0) := ⟨_, rfl⟩
    have H3 := Lib.hid hs3
    have HT := Lib.hid (hT.later hbl)
    unfold maxLen at hc2
    clear hs3 hS1 hb2 hg
    go_wp2_with fail
    refine NG.out.mono ?_
    intro e w3 h3
    obtain ⟨a3, c3, fs, rfl, hS3, hfs, hb3⟩ := zi_b (s := s3) H3.out h3
    have TX0 := ptext_any a3 c3 fs (-m) w3 hS3 hfs.out (HT.out.later hb3)
    rw [← H3.out] at TX0
    have TX := Lib.hid TX0
    clear TX0 h3
    go_wp2_with fail
    refine TX.out.mono ?_
    rintro e w4 ⟨rfl, hb4⟩
    go_wp2
    go_ret2
    exact outT_of (by rw [hr.out]) (by rw [hr.out]) (hbl.trans ((hb3.trans (hb4.mono hb3.size)).mono hbl.size))

set_option maxHeartbeats 6400000 in
set_option maxRecDepth 100000 in
theorem aCompare_any (s t : ByteArray) (w : World) (hs : s.size ≤ 1000000) (ht : t.size ≤ 1000000) :
    Calls Tryz.prog 7 #[.string s, .string t] w (OutN w (cmpR s.data.toList t.data.toList)) := by
  have hbA : Below w.heap.size w (w.alloc (.cells #[.string s, .string t] 9)) := (Below.refl _ _).alloc (Nat.le_refl _) _
  cases hv : (validB s.data.toList && validB t.data.toList)
  · have R := Lib.hid (rd2_no s t hs ht hv w 9)
    have hr := Lib.hid (show cmpR s.data.toList t.data.toList = (0, 2) from by rw [cmpR, hv]; rfl)
    clear hv
    go_enter Tryz.func7, Tryz.ntmps7
    go_wp2_with fail
    refine R.out.mono ?_
    rintro e w2 ⟨rfl, hb2⟩
    go_wp2
    go_ret2
    exact outN_of (by rw [hr.out]) (by rw [hr.out]) (hbA.trans (hb2.mono hbA.size))
  · have hr := Lib.hid (show cmpR s.data.toList t.data.toList = (ordZ (numOf s.data.toList) (numOf t.data.toList), 0) from by rw [cmpR, hv]; rfl)
    rw [Bool.and_eq_true] at hv
    obtain ⟨s1, hs1⟩ : ∃ s1, s1 = decide (numOf s.data.toList < 0) := ⟨_, rfl⟩
    obtain ⟨s2, hs2⟩ : ∃ s2, s2 = decide (numOf t.data.toList < 0) := ⟨_, rfl⟩
    have R := Lib.hid (rd2_ok s t s1 s2 hs ht hv.1 hv.2 hs1 hs2 w 9)
    have L1 := Lib.hid (len_125 (num_len hv.1))
    have L2 := Lib.hid (len_125 (num_len hv.2))
    have H1 := Lib.hid hs1
    have H2 := Lib.hid hs2
    clear hv hs1 hs2
    generalize hm : numOf s.data.toList = m at *
    generalize hn : numOf t.data.toList = n at *
    clear hm hn
    go_enter Tryz.func7, Tryz.ntmps7
    go_wp2_with fail
    refine R.out.mono ?_
    rintro e w2 ⟨g, cap, a, c, ds, a', c', es, rfl, k0, k1, k2, k3, hS1, hS2, hd1, hd2, hb2, hg, hgl, hc1, hc2⟩
    have hbl := hbA.trans (hb2.mono hbA.size)
    have OP0 := pord_any a a' c c' ds es m n w2.drew (hS1.later ((Below.refl _ _).drew)) (hS2.later ((Below.refl _ _).drew)) hd1.out hd2.out (by rw [hd1.out]; have := L1.out; omega) (by rw [hd2.out]; have := L2.out; omega)
    rw [← H1.out, ← H2.out] at OP0
    have OP := Lib.hid OP0
    unfold maxLen at hc2
    clear OP0 hS1 hS2 hb2 hg
    go_wp2_with fail
    go_region_held3 (fun w' => w'.cell? ⟨g, 0, none⟩ = some (.bool s1) ∧ w'.cell? ⟨g, 1, none⟩ = some (.slice a ds.length c) ∧ w'.cell? ⟨g, 2, none⟩ = some (.bool s2) ∧ w'.cell? ⟨g, 3, none⟩ = some (.slice a' es.length c'))
      (first | exact ⟨k0, k1, k2, k3⟩ | exact ⟨HK3.out.1, HK3.out.2.1, HK3.out.2.2.1, HK3.out.2.2.2⟩ | go_keep)
      (first | (go_at_call 31; refine OP.out.mono ?_; rintro e w3 ⟨rfl, hb3⟩; have HK3 := Lib.hid (quad_next (w := w2.drew) ⟨k0, k1, k2, k3⟩ hgl hb3)))
    go_wp2
    go_ret2
    exact outN_of (by rw [hr.out]) (by rw [hr.out]) (hbl.trans (((Below.refl w2.heap.size w2).drew.trans hb3).mono hbl.size))
end Go.Proofs.YtebejllehbpahaaGreatDoor

/- The program's division of texts. -/
namespace Go.Proofs.YtebejllehbpahaaGreatDoor
open Go.RowKit Go.Proofs.ArM

theorem two_boxes (w : World) (p q r t : Value) : ((w.alloc (.cells #[p, q] 50)).alloc (.cells #[r, t] 50)).cell? ⟨w.heap.size, 0, none⟩ = some p ∧
    ((w.alloc (.cells #[p, q] 50)).alloc (.cells #[r, t] 50)).cell? ⟨w.heap.size, 1, none⟩ = some q ∧
    ((w.alloc (.cells #[p, q] 50)).alloc (.cells #[r, t] 50)).cell? ⟨w.heap.size + 1, 0, none⟩ = some r ∧
    ((w.alloc (.cells #[p, q] 50)).alloc (.cells #[r, t] 50)).cell? ⟨w.heap.size + 1, 1, none⟩ = some t ∧
    ((w.alloc (.cells #[p, q] 50)).alloc (.cells #[r, t] 50)).heap.size = w.heap.size + 2 := by
  refine ⟨?_, ?_, ?_, ?_, by simp⟩
  · rw [World.cell?_alloc_past _ _ _ (by simp), World.cell?_alloc_at _ _ _ _ rfl]; rfl
  · rw [World.cell?_alloc_past _ _ _ (by simp), World.cell?_alloc_at _ _ _ _ rfl]; rfl
  · rw [World.cell?_alloc_at _ _ _ _ (by simp)]; rfl
  · rw [World.cell?_alloc_at _ _ _ _ (by simp)]; rfl

theorem abs_sign {b : Bool} {K : Nat} {z : Int} (h : (if b = true then -(K : Int) else (K : Int)) = z) : K = z.natAbs := by
  cases b
  · simp only [Bool.false_eq_true, if_false] at h; omega
  · simp only [if_true] at h; omega

theorem duo_next {w w' : World} {g h : Nat} {p q : Value} (k : w.cell? ⟨g, 0, none⟩ = some p ∧ w.cell? ⟨h, 0, none⟩ = some q) (hg : g < w.heap.size) (hh : h < w.heap.size) (hb : Below w.heap.size w w') :
    w'.cell? ⟨g, 0, none⟩ = some p ∧ w'.cell? ⟨h, 0, none⟩ = some q :=
  ⟨(hb.cell (p := ⟨g, 0, none⟩) hg).trans k.1, (hb.cell (p := ⟨h, 0, none⟩) hh).trans k.2⟩

theorem pdigits_b (a : Option Addr) (c : Nat) (xs : List Int) (n : Int) (s : Bool) (w : World) (h : Sl w.heap.size w a c xs) (hx : xs = Ldigs n.natAbs) (ht : Tabs w) (hl : xs.length ≤ 1000) (hs : s = decide (n < 0)) :
    Calls Tryz.prog 59 #[.agg #[.bool s, .slice a xs.length c]] w (OutV w (.string ⟨(numT n).toArray⟩)) := by
  subst hs; exact pdigits_any a c xs n w h hx ht hl

set_option maxHeartbeats 12800000 in
set_option maxRecDepth 100000 in
theorem aDivmod_any (s t : ByteArray) (w : World) (hs : s.size ≤ 1000000) (ht : t.size ≤ 1000000) (hT : Tabs w) :
    Calls Tryz.prog 28 #[.string s, .string t] w (OutTT w (divR s.data.toList t.data.toList)) := by
  have hbA : Below w.heap.size w (w.alloc (.cells #[.string s, .string t] 9)) := (Below.refl _ _).alloc (Nat.le_refl _) _
  cases hv : (validB s.data.toList && validB t.data.toList)
  · have R := Lib.hid (rd2_no s t hs ht hv w 9)
    have hr := Lib.hid (show divR s.data.toList t.data.toList = ([], [], 2) from by rw [divR, hv]; rfl)
    clear hv
    go_enter Tryz.func28, Tryz.ntmps28
    go_wp2_with fail
    refine R.out.mono ?_
    rintro e w2 ⟨rfl, hb2⟩
    go_wp2
    go_ret3
    exact outTT_of (by rw [hr.out]) (by rw [hr.out]) (by rw [hr.out]) (hbA.trans (hb2.mono hbA.size))
  · have hv0 := hv
    rw [Bool.and_eq_true] at hv
    obtain ⟨s1, hs1⟩ : ∃ s1, s1 = decide (numOf s.data.toList < 0) := ⟨_, rfl⟩
    obtain ⟨s2, hs2⟩ : ∃ s2, s2 = decide (numOf t.data.toList < 0) := ⟨_, rfl⟩
    have R := Lib.hid (rd2_ok s t s1 s2 hs ht hv.1 hv.2 hs1 hs2 w 9)
    have L1 := Lib.hid (len_125 (num_len hv.1))
    have L2 := Lib.hid (len_125 (num_len hv.2))
    have H1 := Lib.hid hs1
    have H2 := Lib.hid hs2
    have V := Lib.hid hv0
    clear hv hs1 hs2 hv0
    generalize hm : numOf s.data.toList = m at *
    generalize hn : numOf t.data.toList = n at *
    have HM := Lib.hid hm
    have HN := Lib.hid hn
    clear hm hn
    go_enter Tryz.func28, Tryz.ntmps28
    go_wp2_with fail
    refine R.out.mono ?_
    rintro e w2 ⟨g, cap, a, c, ds, a2, c2, es, rfl, k0, k1, k2, k3, hS1, hS2, hd1, hd2, hb2, hg, hgl, hc1, hc2⟩
    have hbl := hbA.trans (hb2.mono hbA.size)
    have HS1 := Lib.hid hS1
    have HS2 := Lib.hid hS2
    have hw2 := hbl.size
    unfold maxLen at hc2
    clear hS1 hS2 hb2
    go_wp2_with fail
    go_region
    · obtain ⟨W, hW⟩ : ∃ W, W = (w2.alloc (.cells #[.bool s1, .slice a ds.length c] 50)).alloc (.cells #[.bool s2, .slice a2 es.length c2] 50) := ⟨_, rfl⟩
      have hbW : Below w2.heap.size w2 W := by rw [hW]; exact (((Below.refl _ _).alloc (Nat.le_refl _) _).alloc (by simp) _)
      have hc := two_boxes w2 (.bool s1) (.slice a ds.length c) (.bool s2) (.slice a2 es.length c2)
      rw [← hW] at hc
      have HW := Lib.hid hW
      have HCX := Lib.hid hc
      have hbl3 := hbl.trans (hbW.mono hbl.size)
      clear hW hc hbW
      have kx0 := HCX.out.1
      have kx1 := HCX.out.2.1
      have ky0 := HCX.out.2.2.1
      have ky1 := HCX.out.2.2.2.1
      have hszW := HCX.out.2.2.2.2
      have hpx : w2.heap.size < W.heap.size := by omega
      have hpy : w2.heap.size + 1 < W.heap.size := by omega
      by_cases hn0 : n = 0
      · have hr := Lib.hid (show divR s.data.toList t.data.toList = ([], [], 100) from by rw [divR, V.out, if_pos rfl, HN.out, if_pos hn0])
        have Z := Lib.hid (isz_val a2 es.length c2 true (decide_eq_true (by rw [hd2.out, hn0]; exact Ldigs_len0.2 rfl)))
        clear hn0
        go_wp2_with fail
        rw [← HW.out]
        refine (Z.out _).mono ?_
        rintro e w3 ⟨rfl, hw3⟩
        have hbl4 : Below w.heap.size w w3 := by rw [← hw3]; exact hbl3.drew
        clear hw3
        go_wp2
        go_ret3
        exact outTT_of (by rw [hr.out]) (by rw [hr.out]) (by rw [hr.out]) hbl4
      · have hr := Lib.hid (show divR s.data.toList t.data.toList = (numT (m.tdiv n), numT (m.tmod n), 0) from by rw [divR, V.out, if_pos rfl, HM.out, HN.out, if_neg hn0])
        have Z := Lib.hid (isz_val a2 es.length c2 false (decide_eq_false (by rw [hd2.out]; have := Ldigs_ne (n := n.natAbs) (by omega); omega)))
        have hWS1 := HS1.out.later (show Below w2.heap.size w2 W.drew by rw [HW.out]; exact (((Below.refl _ _).alloc (Nat.le_refl _) _).alloc (by simp) _).drew)
        have hWS2 := HS2.out.later (show Below w2.heap.size w2 W.drew by rw [HW.out]; exact (((Below.refl _ _).alloc (Nat.le_refl _) _).alloc (by simp) _).drew)
        have DV := Lib.hid (pdiv_any a a2 c c2 ds es m.natAbs n.natAbs W.drew hWS1 hWS2 hd1.out hd2.out (by omega) (by rw [hd1.out]; have := L1.out; omega) (by rw [hd2.out]; have := L2.out; omega))
        have DS := Lib.hid (div_signs m n)
        obtain ⟨sq, hsq⟩ : ∃ sq, sq = decide (m.tdiv n < 0) := ⟨_, rfl⟩
        obtain ⟨sr, hsr⟩ : ∃ sr, sr = decide (m.tmod n < 0) := ⟨_, rfl⟩
        have HSQ := Lib.hid hsq
        have HSR := Lib.hid hsr
        have HG1 := Lib.hid (show sq = decide ((if (s1 != s2) = true then -((m.natAbs / n.natAbs : Nat) : Int) else ((m.natAbs / n.natAbs : Nat) : Int)) < 0) from by rw [hsq, H1.out, H2.out, DS.out.1])
        have HG2 := Lib.hid (show sr = decide ((if s1 = true then -((m.natAbs % n.natAbs : Nat) : Int) else ((m.natAbs % n.natAbs : Nat) : Int)) < 0) from by rw [hsr, H1.out, DS.out.2])
        have HA1 := Lib.hid (show m.natAbs / n.natAbs = (m.tdiv n).natAbs from abs_sign DS.out.1)
        have HA2 := Lib.hid (show m.natAbs % n.natAbs = (m.tmod n).natAbs from abs_sign DS.out.2)
        have HQL := Lib.hid (show (Ldigs (m.natAbs / n.natAbs)).length ≤ 125 from Nat.le_trans (Ldigs_mono (Nat.div_le_self _ _)) L1.out)
        have HRL := Lib.hid (show (Ldigs (m.natAbs % n.natAbs)).length ≤ 125 from Nat.le_trans (Ldigs_mono (Nat.mod_le _ _)) L1.out)
        clear hn0 hsq hsr hWS1 hWS2
        go_wp2_with fail
        rw [← HW.out]
        refine (Z.out _).mono ?_
        rintro e w3 ⟨rfl, rfl⟩
        go_wp2_with fail
        refine DV.out.mono ?_
        rintro e w4 ⟨aq, cq, qs, ar, cr, rs, rfl, hSq, hSr, hqs, hrs, hb4⟩
        have hbl4 := hbl3.drew.trans (hb4.mono hbl3.drew.size)
        have hTd := Lib.hid (hT.later hbl4.drew)
        have D0 := Lib.hid (show w4.cell? ⟨w2.heap.size, 0, none⟩ = some (.bool s1) ∧ w4.cell? ⟨w2.heap.size + 1, 0, none⟩ = some (.bool s2) from ⟨(hb4.cell (p := ⟨w2.heap.size, 0, none⟩) hpx).trans kx0, (hb4.cell (p := ⟨w2.heap.size + 1, 0, none⟩) hpy).trans ky0⟩)
        have hz4 := hb4.size
        have hpx4 : w2.heap.size < w4.heap.size := by have hd : W.drew.heap.size = W.heap.size := rfl; omega
        have hpy4 : w2.heap.size + 1 < w4.heap.size := by have hd : W.drew.heap.size = W.heap.size := rfl; omega
        have HSq := Lib.hid (hSq.later ((Below.refl _ _).drew))
        have HSr := Lib.hid (hSr.later ((Below.refl _ _).drew))
        clear hb4 hz4 hSq hSr kx0 kx1 ky0 ky1 hbl3
        obtain ⟨kx0, ky0⟩ := D0.out
        go_wp2_with fail
        go_region_held3 (fun w' => w'.cell? ⟨w2.heap.size, 0, none⟩ = some (.bool s1) ∧ w'.cell? ⟨w2.heap.size + 1, 0, none⟩ = some (.bool s2))
          (first | exact ⟨kx0, ky0⟩ | exact ⟨K8.out.1, K8.out.2⟩ | exact ⟨K7.out.1, K7.out.2⟩ | exact ⟨K6.out.1, K6.out.2⟩ | exact ⟨K5.out.1, K5.out.2⟩ | go_keep)
          (first
            | (go_at_call 59; refine (pdigits_b ar cr rs (m.tmod n) sr w7 (HSr.out.later Q7.out) (by rw [hrs.out, HA2.out]) (hTd.out.later Q7.out) (by rw [hrs.out]; have := HRL.out; omega) HSR.out).mono ?_; rintro e w8 ⟨rfl, hb8⟩; have K8 := Lib.hid (duo_next K7.out (by have := Q7.out.size; have hd : w4.drew.heap.size = w4.heap.size := rfl; omega) (by have := Q7.out.size; have hd : w4.drew.heap.size = w4.heap.size := rfl; omega) hb8); have Q8 := Lib.hid (Q7.out.trans (hb8.mono Q7.out.size)))
            | (go_at_call 51; refine (psign_b s1 sr ar cr rs _ w6 hrs.out HG2.out).mono ?_; rintro e w7 ⟨rfl, hb7⟩; have K7 := Lib.hid (duo_next K6.out (by have := Q6.out.size; have hd : w4.drew.heap.size = w4.heap.size := rfl; omega) (by have := Q6.out.size; have hd : w4.drew.heap.size = w4.heap.size := rfl; omega) hb7); have Q7 := Lib.hid (Q6.out.trans (hb7.mono Q6.out.size)))
            | (go_at_call 59; refine (pdigits_b aq cq qs (m.tdiv n) sq w5 (HSq.out.later Q5.out) (by rw [hqs.out, HA1.out]) (hTd.out.later Q5.out) (by rw [hqs.out]; have := HQL.out; omega) HSQ.out).mono ?_; rintro e w6 ⟨rfl, hb6⟩; have K6 := Lib.hid (duo_next K5.out (by have := Q5.out.size; have hd : w4.drew.heap.size = w4.heap.size := rfl; omega) (by have := Q5.out.size; have hd : w4.drew.heap.size = w4.heap.size := rfl; omega) hb6); have Q6 := Lib.hid (Q5.out.trans (hb6.mono Q5.out.size)))
            | (go_at_call 51; refine (psign_b (s1 != s2) sq aq cq qs _ w4.drew hqs.out HG1.out).mono ?_; rintro e w5 ⟨rfl, hb5⟩; have K5 := Lib.hid (duo_next (w := w4.drew) D0.out hpx4 hpy4 hb5); have Q5 := Lib.hid hb5))
        have hbz := hbl4.drew.trans (Q8.out.mono hbl4.drew.size)
        go_wp2
        go_ret3
        exact outTT_of (by rw [hr.out]) (by rw [hr.out]) (by rw [hr.out]) hbz
    · obtain ⟨W, hW⟩ : ∃ W, W = (w2.alloc (.cells #[.bool s2, .slice a2 es.length c2] 50)).alloc (.cells #[.bool s1, .slice a ds.length c] 50) := ⟨_, rfl⟩
      have hbW : Below w2.heap.size w2 W := by rw [hW]; exact (((Below.refl _ _).alloc (Nat.le_refl _) _).alloc (by simp) _)
      have hc := two_boxes w2 (.bool s2) (.slice a2 es.length c2) (.bool s1) (.slice a ds.length c)
      rw [← hW] at hc
      have HW := Lib.hid hW
      have HCX := Lib.hid hc
      have hbl3 := hbl.trans (hbW.mono hbl.size)
      clear hW hc hbW
      have kx0 := HCX.out.2.2.1
      have kx1 := HCX.out.2.2.2.1
      have ky0 := HCX.out.1
      have ky1 := HCX.out.2.1
      have hszW := HCX.out.2.2.2.2
      have hpx : w2.heap.size + 1 < W.heap.size := by omega
      have hpy : w2.heap.size < W.heap.size := by omega
      by_cases hn0 : n = 0
      · have hr := Lib.hid (show divR s.data.toList t.data.toList = ([], [], 100) from by rw [divR, V.out, if_pos rfl, HN.out, if_pos hn0])
        have Z := Lib.hid (isz_val a2 es.length c2 true (decide_eq_true (by rw [hd2.out, hn0]; exact Ldigs_len0.2 rfl)))
        clear hn0
        go_wp2_with fail
        rw [← HW.out]
        refine (Z.out _).mono ?_
        rintro e w3 ⟨rfl, hw3⟩
        have hbl4 : Below w.heap.size w w3 := by rw [← hw3]; exact hbl3.drew
        clear hw3
        go_wp2
        go_ret3
        exact outTT_of (by rw [hr.out]) (by rw [hr.out]) (by rw [hr.out]) hbl4
      · have hr := Lib.hid (show divR s.data.toList t.data.toList = (numT (m.tdiv n), numT (m.tmod n), 0) from by rw [divR, V.out, if_pos rfl, HM.out, HN.out, if_neg hn0])
        have Z := Lib.hid (isz_val a2 es.length c2 false (decide_eq_false (by rw [hd2.out]; have := Ldigs_ne (n := n.natAbs) (by omega); omega)))
        have hWS1 := HS1.out.later (show Below w2.heap.size w2 W.drew by rw [HW.out]; exact (((Below.refl _ _).alloc (Nat.le_refl _) _).alloc (by simp) _).drew)
        have hWS2 := HS2.out.later (show Below w2.heap.size w2 W.drew by rw [HW.out]; exact (((Below.refl _ _).alloc (Nat.le_refl _) _).alloc (by simp) _).drew)
        have DV := Lib.hid (pdiv_any a a2 c c2 ds es m.natAbs n.natAbs W.drew hWS1 hWS2 hd1.out hd2.out (by omega) (by rw [hd1.out]; have := L1.out; omega) (by rw [hd2.out]; have := L2.out; omega))
        have DS := Lib.hid (div_signs m n)
        obtain ⟨sq, hsq⟩ : ∃ sq, sq = decide (m.tdiv n < 0) := ⟨_, rfl⟩
        obtain ⟨sr, hsr⟩ : ∃ sr, sr = decide (m.tmod n < 0) := ⟨_, rfl⟩
        have HSQ := Lib.hid hsq
        have HSR := Lib.hid hsr
        have HG1 := Lib.hid (show sq = decide ((if (s1 != s2) = true then -((m.natAbs / n.natAbs : Nat) : Int) else ((m.natAbs / n.natAbs : Nat) : Int)) < 0) from by rw [hsq, H1.out, H2.out, DS.out.1])
        have HG2 := Lib.hid (show sr = decide ((if s1 = true then -((m.natAbs % n.natAbs : Nat) : Int) else ((m.natAbs % n.natAbs : Nat) : Int)) < 0) from by rw [hsr, H1.out, DS.out.2])
        have HA1 := Lib.hid (show m.natAbs / n.natAbs = (m.tdiv n).natAbs from abs_sign DS.out.1)
        have HA2 := Lib.hid (show m.natAbs % n.natAbs = (m.tmod n).natAbs from abs_sign DS.out.2)
        have HQL := Lib.hid (show (Ldigs (m.natAbs / n.natAbs)).length ≤ 125 from Nat.le_trans (Ldigs_mono (Nat.div_le_self _ _)) L1.out)
        have HRL := Lib.hid (show (Ldigs (m.natAbs % n.natAbs)).length ≤ 125 from Nat.le_trans (Ldigs_mono (Nat.mod_le _ _)) L1.out)
        clear hn0 hsq hsr hWS1 hWS2
        go_wp2_with fail
        rw [← HW.out]
        refine (Z.out _).mono ?_
        rintro e w3 ⟨rfl, rfl⟩
        go_wp2_with fail
        refine DV.out.mono ?_
        rintro e w4 ⟨aq, cq, qs, ar, cr, rs, rfl, hSq, hSr, hqs, hrs, hb4⟩
        have hbl4 := hbl3.drew.trans (hb4.mono hbl3.drew.size)
        have hTd := Lib.hid (hT.later hbl4.drew)
        have D0 := Lib.hid (show w4.cell? ⟨w2.heap.size + 1, 0, none⟩ = some (.bool s1) ∧ w4.cell? ⟨w2.heap.size, 0, none⟩ = some (.bool s2) from ⟨(hb4.cell (p := ⟨w2.heap.size + 1, 0, none⟩) hpx).trans kx0, (hb4.cell (p := ⟨w2.heap.size, 0, none⟩) hpy).trans ky0⟩)
        have hz4 := hb4.size
        have hpx4 : w2.heap.size + 1 < w4.heap.size := by have hd : W.drew.heap.size = W.heap.size := rfl; omega
        have hpy4 : w2.heap.size < w4.heap.size := by have hd : W.drew.heap.size = W.heap.size := rfl; omega
        have HSq := Lib.hid (hSq.later ((Below.refl _ _).drew))
        have HSr := Lib.hid (hSr.later ((Below.refl _ _).drew))
        clear hb4 hz4 hSq hSr kx0 kx1 ky0 ky1 hbl3
        obtain ⟨kx0, ky0⟩ := D0.out
        go_wp2_with fail
        go_region_held3 (fun w' => w'.cell? ⟨w2.heap.size + 1, 0, none⟩ = some (.bool s1) ∧ w'.cell? ⟨w2.heap.size, 0, none⟩ = some (.bool s2))
          (first | exact ⟨kx0, ky0⟩ | exact ⟨K8.out.1, K8.out.2⟩ | exact ⟨K7.out.1, K7.out.2⟩ | exact ⟨K6.out.1, K6.out.2⟩ | exact ⟨K5.out.1, K5.out.2⟩ | go_keep)
          (first
            | (go_at_call 59; refine (pdigits_b ar cr rs (m.tmod n) sr w7 (HSr.out.later Q7.out) (by rw [hrs.out, HA2.out]) (hTd.out.later Q7.out) (by rw [hrs.out]; have := HRL.out; omega) HSR.out).mono ?_; rintro e w8 ⟨rfl, hb8⟩; have K8 := Lib.hid (duo_next K7.out (by have := Q7.out.size; have hd : w4.drew.heap.size = w4.heap.size := rfl; omega) (by have := Q7.out.size; have hd : w4.drew.heap.size = w4.heap.size := rfl; omega) hb8); have Q8 := Lib.hid (Q7.out.trans (hb8.mono Q7.out.size)))
            | (go_at_call 51; refine (psign_b s1 sr ar cr rs _ w6 hrs.out HG2.out).mono ?_; rintro e w7 ⟨rfl, hb7⟩; have K7 := Lib.hid (duo_next K6.out (by have := Q6.out.size; have hd : w4.drew.heap.size = w4.heap.size := rfl; omega) (by have := Q6.out.size; have hd : w4.drew.heap.size = w4.heap.size := rfl; omega) hb7); have Q7 := Lib.hid (Q6.out.trans (hb7.mono Q6.out.size)))
            | (go_at_call 59; refine (pdigits_b aq cq qs (m.tdiv n) sq w5 (HSq.out.later Q5.out) (by rw [hqs.out, HA1.out]) (hTd.out.later Q5.out) (by rw [hqs.out]; have := HQL.out; omega) HSQ.out).mono ?_; rintro e w6 ⟨rfl, hb6⟩; have K6 := Lib.hid (duo_next K5.out (by have := Q5.out.size; have hd : w4.drew.heap.size = w4.heap.size := rfl; omega) (by have := Q5.out.size; have hd : w4.drew.heap.size = w4.heap.size := rfl; omega) hb6); have Q6 := Lib.hid (Q5.out.trans (hb6.mono Q5.out.size)))
            | (go_at_call 51; refine (psign_b (s1 != s2) sq aq cq qs _ w4.drew hqs.out HG1.out).mono ?_; rintro e w5 ⟨rfl, hb5⟩; have K5 := Lib.hid (duo_next (w := w4.drew) D0.out hpx4 hpy4 hb5); have Q5 := Lib.hid hb5))
        have hbz := hbl4.drew.trans (Q8.out.mono hbl4.drew.size)
        go_wp2
        go_ret3
        exact outTT_of (by rw [hr.out]) (by rw [hr.out]) (by rw [hr.out]) hbz
end Go.Proofs.YtebejllehbpahaaGreatDoor

/- The program's greatest common divisor, and its powers. -/
namespace Go.Proofs.YtebejllehbpahaaGreatDoor
open Go.RowKit Go.Proofs.ArM

set_option maxHeartbeats 12800000 in
set_option maxRecDepth 100000 in
theorem aPower_any (s : ByteArray) (n : Int) (w : World) (hs : s.size ≤ 1000000) (hn : -9223372036854775808 ≤ n) (hn' : n ≤ 9223372036854775807) (hT : Tabs w) :
    Calls Tryz.prog 29 #[.string s, .int .i64 n] w (OutT w (powR s.data.toList n)) := by
  have hbA : Below w.heap.size w (w.alloc (.cells #[.string s] 9)) := (Below.refl _ _).alloc (Nat.le_refl _) _
  cases hv : validB s.data.toList
  · have R := Lib.hid (rd1_no s hs hv w 9)
    have hr := Lib.hid (show powR s.data.toList n = ([], 2) from by rw [powR, hv]; rfl)
    clear hv
    go_enter Tryz.func29, Tryz.ntmps29
    go_wp2_with fail
    refine R.out.mono ?_
    rintro e w2 ⟨rfl, hb2⟩
    go_wp2
    go_ret2
    exact outT_of (by rw [hr.out]) (by rw [hr.out]) (hbA.trans (hb2.mono hbA.size))
  · obtain ⟨s1, hs1⟩ : ∃ s1, s1 = decide (numOf s.data.toList < 0) := ⟨_, rfl⟩
    have R := Lib.hid (rd1_ok s s1 hs hv hs1 w 9)
    have L1 := Lib.hid (len_125 (num_len hv))
    have H1 := Lib.hid hs1
    have V := Lib.hid hv
    clear hv hs1
    obtain ⟨m, hm⟩ : ∃ m, m = numOf s.data.toList := ⟨_, rfl⟩
    rw [← hm] at R L1 H1
    have HM := Lib.hid hm
    clear hm
    by_cases hneg : n < 0
    · have hr := Lib.hid (show powR s.data.toList n = ([], 101) from by rw [powR, V.out, if_pos rfl, if_pos hneg])
      go_enter Tryz.func29, Tryz.ntmps29
      go_wp2_with fail
      refine R.out.mono ?_
      rintro e w2 ⟨g, cap, a, c, ds, rfl, k0, k1, hS1, hd1, hb2, hg, hgl, hc1, hc2⟩
      have hbl := hbA.trans (hb2.mono hbA.size)
      clear hS1 hb2 hg hc2 hc1
      go_wp2
      go_ret2
      exact outT_of (by rw [hr.out]) (by rw [hr.out]) hbl
    · obtain ⟨k, rfl⟩ : ∃ k : Nat, n = (k : Int) := ⟨n.toNat, by omega⟩
      have hr := Lib.hid (show powR s.data.toList k = resB (m ^ k) from by
        rw [powR, V.out, if_pos rfl, if_neg hneg, Int.toNat_natCast, ← HM.out, resB, Int.natAbs_pow]
        by_cases h : (digs (m.natAbs ^ k)).length ≤ 500
        · rw [if_pos h, if_neg (by omega)]
        · rw [if_neg h, if_pos (by omega)])
      have hk : k ≤ 9223372036854775807 := by omega
      go_enter Tryz.func29, Tryz.ntmps29
      go_wp2_with fail
      refine R.out.mono ?_
      rintro e w2 ⟨g, cap, a, c, ds, rfl, k0, k1, hS1, hd1, hb2, hg, hgl, hc1, hc2⟩
      have hbl := hbA.trans (hb2.mono hbA.size)
      have PW := Lib.hid (ppow_any a c ds m.natAbs k w2 hS1 hd1.out hk (by rw [hd1.out]; exact L1.out))
      unfold maxLen at hc2
      clear hS1 hb2 hg
      go_wp2_with fail
      refine PW.out.mono ?_
      intro e w3 h3
      rcases h3 with ⟨a3, c3, zs, rfl, hS3, hzs, hzl, hb3⟩ | ⟨rfl, hlg, hb3⟩
      · have k0b := (hb3.cell (p := ⟨g, 0, none⟩) hgl).trans k0
        have hbl3 := hbl.trans (hb3.mono hbl.size)
        have hgl3 : g < w3.heap.size := by have := hb3.size; omega
        have HS3 := Lib.hid hS3
        clear k0 k1 hS3
        obtain ⟨sx, hsx⟩ : ∃ sx : Bool, sx = decide (m ^ k < 0) := ⟨_, rfl⟩
        have HSX := Lib.hid hsx
        have hodd := odd_say k
        have hps := pow_sign m k
        have TXg := Lib.hid (fun (w4 : World) (hb : Below w3.heap.size w3 w4) => ptext_any a3 c3 zs (m ^ k) w4 (HS3.out.later hb) (by rw [hzs.out, Int.natAbs_pow]) (hT.later (hbl3.trans (hb.mono hbl3.size))))
        rw [← hsx] at TXg
        clear hsx
        cases s1
        · have G := Lib.hid (psign_b false sx a3 c3 zs (m.natAbs ^ k) w3 hzs.out (by
            rw [HSX.out, ← hps, ← H1.out]; rfl))
          clear hodd hps
          go_wp2_with fail
          refine G.out.mono ?_
          rintro e w4 ⟨rfl, hb4⟩
          go_wp2_with fail
          refine (TXg.out _ hb4).mono ?_
          rintro e w5 ⟨rfl, hb5⟩
          go_wp2
          go_ret2
          exact outT_of (by rw [hr.out]) (by rw [hr.out]) (hbl3.trans ((hb4.trans (hb5.mono hb4.size)).mono hbl3.size))
        · obtain ⟨od, hod⟩ : ∃ od : Bool, od = decide (k % 2 = 1) := ⟨_, rfl⟩
          rw [← hod] at hodd
          have G := Lib.hid (psign_b od sx a3 c3 zs (m.natAbs ^ k) w3 hzs.out (by
            rw [HSX.out, ← hps, ← H1.out, ← hod]; rfl))
          clear hps hod
          go_wp2_with fail
          refine G.out.mono ?_
          rintro e w4 ⟨rfl, hb4⟩
          clear hodd
          go_wp2_with fail
          refine (TXg.out _ hb4).mono ?_
          rintro e w5 ⟨rfl, hb5⟩
          go_wp2
          go_ret2
          exact outT_of (by rw [hr.out]) (by rw [hr.out]) (hbl3.trans ((hb4.trans (hb5.mono hb4.size)).mono hbl3.size))
      · have HRR := Lib.hid (show resB (m ^ k) = ([], 7) from by rw [resB, if_pos (by rw [Int.natAbs_pow]; exact (large_iff _).1 hlg.out)])
        have hbl3 := hbl.trans (hb3.mono hbl.size)
        clear k0 k1
        go_wp2
        go_ret2
        exact outT_of (by rw [hr.out, HRR.out]) (by rw [hr.out, HRR.out]) hbl3
end Go.Proofs.YtebejllehbpahaaGreatDoor

/- The program's arithmetic: its contracts together. -/
namespace Go.Proofs.YtebejllehbpahaaGreatDoor
open Go.RowKit Go.Proofs.ArM

theorem aValid_any (s : ByteArray) (w : World) (hs : s.size ≤ 1000000) :
    Calls Tryz.prog 9 #[.string s] w (OutV w (.bool (validB s.data.toList))) := pvalid_any s w hs
end Go.Proofs.YtebejllehbpahaaGreatDoor
