/- join with what may be no tree; split of int. -/
import Derived.Test.YtamcobncfbjdmaaRT4
namespace Go.Proofs.Ytamcobncfbjdmaa
open Go.RowKit

/-- a tree, or none, has right leaves. -/
def LvO (o : Option (Rp Int)) : Prop := ∀ t, o = some t → t.Lv
/-- the program's trees, or none, that hold a list. -/
def Holds (w : World) (a : Option Addr) (l : List Int) : Prop := ∃ o, On encI w a o ∧ LvO o ∧ listO o = l
theorem Holds.later {w w' : World} {a : Option Addr} {l : List Int} (h : Holds w a l) (hb : Below w.heap.size w w') : Holds w' a l := by
  obtain ⟨o, h1, h2, h3⟩ := h
  exact ⟨o, h1.later hb, h2, h3⟩
theorem Holds.cases {w : World} {a : Option Addr} {l : List Int} (h : Holds w a l) : (a = none ∧ l = []) ∨ ∃ t, Nd encI w a t ∧ t.Lv ∧ t.list = l ∧ l ≠ [] := by
  obtain ⟨o, h1, h2, h3⟩ := h
  cases o with
  | none => exact .inl ⟨h1, h3.symm⟩
  | some t => exact .inr ⟨t, h1, h2 t rfl, h3, by have := (Rp.depth_le (h2 t rfl)).2; intro e; rw [show t.list = l from h3, e] at this; simp at this⟩
theorem Holds.of_nd {w : World} {a : Option Addr} {t : Rp Int} (h : Nd encI w a t) (hL : t.Lv) : Holds w a t.list := ⟨some t, h, (fun _ e => by cases e; exact hL), rfl⟩
theorem Holds.nil (w : World) : Holds w none [] := ⟨none, rfl, (fun _ e => by cases e), rfl⟩

set_option maxHeartbeats 3200000 in
theorem pjoinN1_any (a : Option Addr) (w : World) : Calls Try.prog 62 #[.pointer none, .pointer a] w (fun r w' => r = .returned (.pointer a) ∧ w' = w) := by
  go_enter Try.func62, Try.ntmps62
  go_wp2
  go_ret
  exact ⟨rfl, rfl⟩
set_option maxHeartbeats 3200000 in
theorem pjoinN2_any (b : Nat) (w : World) : Calls Try.prog 62 #[.pointer (some ⟨b, 0, none⟩), .pointer none] w (fun r w' => r = .returned (.pointer (some ⟨b, 0, none⟩)) ∧ w' = w) := by
  go_enter Try.func62, Try.ntmps62
  go_wp2
  go_ret
  exact ⟨rfl, rfl⟩
theorem pjoinO_any (a1 a2 : Option Addr) (l1 l2 : List Int) (w : World) (h1 : Holds w a1 l1) (h2 : Holds w a2 l2) (hs : l1.length + l2.length ≤ 1000000) :
    Calls Try.prog 62 #[.pointer a1, .pointer a2] w (fun r w' => ∃ a, r = .returned (.pointer a) ∧ Hid (Holds w' a (l1 ++ l2)) ∧ Hid (Below w.heap.size w w')) := by
  rcases h1.cases with ⟨rfl, rfl⟩ | ⟨p, hp, hLp, rfl, _⟩
  · refine (pjoinN1_any a2 w).mono ?_
    rintro r w' ⟨rfl, rfl⟩
    exact ⟨a2, rfl, Lib.hid h2, Lib.hid (Below.refl _ _)⟩
  · rcases h2.cases with ⟨rfl, rfl⟩ | ⟨q, hq, hLq, rfl, _⟩
    · obtain ⟨b, rfl, _⟩ := hp.dep
      refine (pjoinN2_any b w).mono ?_
      rintro r w' ⟨rfl, rfl⟩
      exact ⟨_, rfl, Lib.hid (by rw [List.append_nil]; exact h1), Lib.hid (Below.refl _ _)⟩
    · refine (pjoin_any (p.depth + q.depth) p q a1 a2 w (Nat.le_refl _) hp hq hLp hLq hs).mono ?_
      rintro r w' ⟨a, t, rfl, h3, h4, h5⟩
      exact ⟨a, rfl, Lib.hid (by rw [← h4.out.1]; exact Holds.of_nd h3.out h4.out.2), h5⟩

set_option maxHeartbeats 6400000 in
set_option maxRecDepth 100000 in
theorem psplit1I_any (a : Option Addr) (l : List Int) (h : Nat) (w : World) (hN : Nd encI w a (.leaf l)) (hl : l.length ≤ 16) (h0 : 0 < h) (hh : h < l.length) :
    Calls Try.prog 51 #[.pointer a, .int .i64 h] w (fun r w' => ∃ a1 a2, r = .returned (.tuple #[.pointer a1, .pointer a2]) ∧ Hid (Nd encI w' a1 (.leaf (l.take h))) ∧ Hid (Nd encI w' a2 (.leaf (l.drop h))) ∧ Hid (Below w.heap.size w w')) := by
  have C1 := Lib.hid (pleafpI_any a l _ hN)
  have C3 := plenI_any a (some (.leaf l)) w hN
  obtain ⟨b, e, rfl, c0, c2, he, hc⟩ := hN.leaf2
  have C2 := plistI_any b e l.length w c0 c2 hl
  have C4 : Hid (∀ w', Below w.heap.size w w' → Calls Try.prog 75 #[.slice (some ⟨e, 0, none⟩) h 16] w' (fun r w1 => ∃ a, r = .returned (.pointer a) ∧ Hid (Nd encI w1 a (.leaf (l.take h))) ∧ Hid (Below w.heap.size w w1))) := Lib.hid fun w' hw => by
    have := pleafI_any e 0 16 (l.take h) w' (Nat.lt_of_lt_of_le he hw.size) (by rw [List.length_take]; omega) (by rw [List.length_take]; omega) (fun j x hx => by
      rw [Nat.zero_add]
      refine (hw.cell (p := ⟨e, j, none⟩) he).trans (hc.out j x ?_)
      rw [List.getElem?_take] at hx
      split at hx
      · exact hx
      · cases hx)
    rw [List.length_take, Nat.min_eq_left (Nat.le_of_lt hh)] at this
    refine this.mono ?_
    rintro r w1 ⟨a, rfl, h1, h2⟩
    exact ⟨a, rfl, h1, Lib.hid (hw.trans (h2.out.mono hw.size))⟩
  have C5 : Hid (∀ w', Below w.heap.size w w' → Calls Try.prog 75 #[.slice (some ⟨e, h, none⟩) (l.length - h) (16 - h)] w' (fun r w1 => ∃ a, r = .returned (.pointer a) ∧ Hid (Nd encI w1 a (.leaf (l.drop h))) ∧ Hid (Below w.heap.size w w1) ∧ Hid (Below w'.heap.size w' w1))) := Lib.hid fun w' hw => by
    have := pleafI_any e h (16 - h) (l.drop h) w' (Nat.lt_of_lt_of_le he hw.size) (by rw [List.length_drop]; omega) (by rw [List.length_drop]; omega) (fun j x hx => (hw.cell (p := ⟨e, h + j, none⟩) he).trans (hc.out (h + j) x (by rw [List.getElem?_drop] at hx; exact hx)))
    rw [List.length_drop] at this
    refine this.mono ?_
    rintro r w1 ⟨a, rfl, h1, h2⟩
    exact ⟨a, rfl, h1, Lib.hid (hw.trans (h2.out.mono hw.size)), h2⟩
  have C3' : Hid (Calls Try.prog 61 #[.pointer (some ⟨b, 0, none⟩)] w (fun e w' => e = .returned (.int .i64 l.length) ∧ w' = w)) := Lib.hid C3
  obtain ⟨n, hn⟩ : ∃ n, n = l.length := ⟨_, rfl⟩
  rw [← hn] at C2 C3' C5 hh hl
  replace C2 := Lib.hid C2
  clear C3 hn hN c0 c2 hc
  have hi0 : ¬ (h : Int) ≤ 0 := by omega
  have hin : ¬ (n : Int) ≤ (h : Int) := by omega
  have hhi : (h : Int) ≤ (n : Int) := by omega
  have hhc : (h : Int) ≤ 16 := by omega
  have hhz : (0 : Int) ≤ (h : Int) := by omega
  have hnc : (n : Int) ≤ 16 := by omega
  have hch : ¬ 16 = h := by omega
  go_enter Try.func51, Try.ntmps51
  go_wp2_with (first
    | (go_at_call 79; refine C1.out.mono ?_; rintro r w9 ⟨rfl, hw9⟩; obtain rfl := hw9.symm)
    | (go_at_call 61; refine C3'.out.mono ?_; rintro r w9 ⟨rfl, hw9⟩; obtain rfl := hw9.symm)
    | (go_at_call 80; refine C2.out.mono ?_; rintro r w1 ⟨rfl, hb1⟩)
    | fail)
  have HB0 := Lib.hid hb1
  clear hb1
  go_region_held3 (fun w' => Hid (Below w.heap.size w w'))
    (first | exact HB2 | exact HB1 | exact HB0 | exact Lib.hid HB0.out.drew | assumption)
    (first
    | (go_at_call 75; have hmark := HB1.out; refine (C5.out _ HB1.out).mono ?_; rintro e w2 ⟨a2, rfl, HN2, HB2, HB12⟩; have HM1 := Lib.hid (HN1.out.later HB12.out))
    | (go_at_call 75; refine (C4.out _ (by first | exact HB0.out.drew | exact HB0.out)).mono ?_; rintro e w1 ⟨a1, rfl, HN1, HB1⟩)
    | fail)
  go_wp2
  refine bodyPost_ret (v := .tuple #[.pointer a1, .pointer a2]) (by simp [results, Try.results51, go_sem]) rfl ?_
  exact ⟨a1, a2, rfl, HM1, HN2, HB2⟩

/-- what split promises. -/
def SplitOut (l : List Int) (i : Int) (w : World) (r : Ending) (w' : World) : Prop := ∃ a1 a2, r = .returned (.tuple #[.pointer a1, .pointer a2]) ∧ Hid (Holds w' a1 (l.take i.toNat)) ∧ Hid (Holds w' a2 (l.drop i.toNat)) ∧ Hid (Below w.heap.size w w')
set_option maxHeartbeats 3200000 in
theorem psplitLo_any (a : Option Addr) (l : List Int) (i : Int) (w : World) (h : Holds w a l) (h0 : i ≤ 0) : Calls Try.prog 51 #[.pointer a, .int .i64 i] w (SplitOut l i w) := by
  have H : Hid (SplitOut l i w (.returned (.tuple #[.pointer none, .pointer a])) w) := Lib.hid ⟨none, a, rfl, Lib.hid (by rw [Int.toNat_of_nonpos h0, List.take_zero]; exact Holds.nil w), Lib.hid (by rw [Int.toNat_of_nonpos h0, List.drop_zero]; exact h), Lib.hid (Below.refl _ _)⟩
  clear h
  go_enter Try.func51, Try.ntmps51
  go_wp2
  refine bodyPost_ret (v := .tuple #[.pointer none, .pointer a]) (by simp [results, Try.results51, go_sem]) rfl ?_
  exact H.out
set_option maxHeartbeats 3200000 in
theorem psplitHi_any (a : Option Addr) (l : List Int) (i : Int) (w : World) (h : Holds w a l) (h0 : 0 < i) (h1 : (l.length : Int) ≤ i) : Calls Try.prog 51 #[.pointer a, .int .i64 i] w (SplitOut l i w) := by
  have H : Hid (SplitOut l i w (.returned (.tuple #[.pointer a, .pointer none])) w) := Lib.hid ⟨a, none, rfl, Lib.hid (by rw [List.take_of_length_le (by omega)]; exact h), Lib.hid (by rw [List.drop_eq_nil_of_le (by omega)]; exact Holds.nil w), Lib.hid (Below.refl _ _)⟩
  obtain ⟨o, ho, _, hl⟩ := h
  have C := Lib.hid (plenI_any a o w ho)
  rw [hl] at C
  obtain ⟨n, hn⟩ : ∃ n, n = l.length := ⟨_, rfl⟩
  rw [← hn] at C h1
  have hi0 : ¬ i ≤ 0 := by omega
  clear ho hl hn
  go_enter Try.func51, Try.ntmps51
  go_wp2_with (first
    | (go_at_call 61; refine C.out.mono ?_; rintro r w9 ⟨rfl, hw9⟩; obtain rfl := hw9.symm)
    | fail)
  refine bodyPost_ret (v := .tuple #[.pointer a, .pointer none]) (by simp [results, Try.results51, go_sem]) rfl ?_
  exact H.out
end Go.Proofs.Ytamcobncfbjdmaa
