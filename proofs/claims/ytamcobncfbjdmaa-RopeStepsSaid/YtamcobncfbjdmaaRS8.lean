/- split of string at a leaf; Split. -/
import Derived.Test.YtamcobncfbjdmaaRS2
namespace Go.Proofs.Ytamcobncfbjdmaa
open Go.RowKit

set_option maxHeartbeats 6400000 in
set_option maxRecDepth 100000 in
theorem psplit1_any (a : Option Addr) (l : List ByteArray) (h : Nat) (w : World) (hN : Nd encS w a (.leaf l)) (hl : l.length ≤ 16) (h0 : 0 < h) (hh : h < l.length) :
    Calls Try.prog 72 #[.pointer a, .int .i64 h] w (fun r w' => ∃ a1 a2, r = .returned (.tuple #[.pointer a1, .pointer a2]) ∧ Hid (Nd encS w' a1 (.leaf (l.take h))) ∧ Hid (Nd encS w' a2 (.leaf (l.drop h))) ∧ Hid (Below w.heap.size w w')) := by
  have C1 := Lib.hid (pleafpS_any a l _ hN)
  have C3 := plenS_any a (some (.leaf l)) w hN
  obtain ⟨b, e, rfl, c0, c2, he, hc⟩ := hN.leaf2
  have C2 := plistS_any b e l.length w c0 c2 hl
  have C4 : Hid (∀ w', Below w.heap.size w w' → Calls Try.prog 88 #[.slice (some ⟨e, 0, none⟩) h 16] w' (fun r w1 => ∃ a, r = .returned (.pointer a) ∧ Hid (Nd encS w1 a (.leaf (l.take h))) ∧ Hid (Below w.heap.size w w1))) := Lib.hid fun w' hw => by
    have := pleafS_any e 0 16 (l.take h) w' (Nat.lt_of_lt_of_le he hw.size) (by rw [List.length_take]; omega) (by rw [List.length_take]; omega) (fun j x hx => by
      rw [Nat.zero_add]
      refine (hw.cell (p := ⟨e, j, none⟩) he).trans (hc.out j x ?_)
      rw [List.getElem?_take] at hx
      split at hx
      · exact hx
      · cases hx)
    rw [List.length_take, Nat.min_eq_left (Nat.le_of_lt hh)] at this
    refine this.mono ?_
    rintro r w1 ⟨a, rfl, h1, h2⟩
    exact ⟨a, rfl, h1, Lib.hid (hw.trans (h2.out.mono hw.size))⟩
  have C5 : Hid (∀ w', Below w.heap.size w w' → Calls Try.prog 88 #[.slice (some ⟨e, h, none⟩) (l.length - h) (16 - h)] w' (fun r w1 => ∃ a, r = .returned (.pointer a) ∧ Hid (Nd encS w1 a (.leaf (l.drop h))) ∧ Hid (Below w.heap.size w w1) ∧ Hid (Below w'.heap.size w' w1))) := Lib.hid fun w' hw => by
    have := pleafS_any e h (16 - h) (l.drop h) w' (Nat.lt_of_lt_of_le he hw.size) (by rw [List.length_drop]; omega) (by rw [List.length_drop]; omega) (fun j x hx => (hw.cell (p := ⟨e, h + j, none⟩) he).trans (hc.out (h + j) x (by rw [List.getElem?_drop] at hx; exact hx)))
    rw [List.length_drop] at this
    refine this.mono ?_
    rintro r w1 ⟨a, rfl, h1, h2⟩
    exact ⟨a, rfl, h1, Lib.hid (hw.trans (h2.out.mono hw.size)), h2⟩
  have C3' : Hid (Calls Try.prog 74 #[.pointer (some ⟨b, 0, none⟩)] w (fun e w' => e = .returned (.int .i64 l.length) ∧ w' = w)) := Lib.hid C3
  obtain ⟨n, hn⟩ : ∃ n, n = l.length := ⟨_, rfl⟩
  rw [← hn] at C2 C3' C5 hh hl
  replace C2 := Lib.hid C2
  clear C3 hn hN c0 c2 hc
  have hi0 : ¬ (h : Int) ≤ 0 := by omega
  have hin : ¬ (n : Int) ≤ (h : Int) := by omega
  have hhi : (h : Int) ≤ (n : Int) := by omega
  have hhc : (h : Int) ≤ 16 := by omega
  have hhz : (0 : Int) ≤ (h : Int) := by omega
  have hnc : (n : Int) ≤ 16 := by omega
  have hch : ¬ 16 = h := by omega
  go_enter Try.func72, Try.ntmps72
  go_wp2_with (first
    | (go_at_call 91; refine C1.out.mono ?_; rintro r w9 ⟨rfl, hw9⟩; obtain rfl := hw9.symm)
    | (go_at_call 74; refine C3'.out.mono ?_; rintro r w9 ⟨rfl, hw9⟩; obtain rfl := hw9.symm)
    | (go_at_call 92; refine C2.out.mono ?_; rintro r w1 ⟨rfl, hb1⟩)
    | fail)
  have HB0 := Lib.hid hb1
  clear hb1
  go_region_held3 (fun w' => Hid (Below w.heap.size w w'))
    (first | exact HB2 | exact HB1 | exact HB0 | exact Lib.hid HB0.out.drew | assumption)
    (first
    | (go_at_call 88; have hmark := HB1.out; refine (C5.out _ HB1.out).mono ?_; rintro e w2 ⟨a2, rfl, HN2, HB2, HB12⟩; have HM1 := Lib.hid (HN1.out.later HB12.out))
    | (go_at_call 88; refine (C4.out _ (by first | exact HB0.out.drew | exact HB0.out)).mono ?_; rintro e w1 ⟨a1, rfl, HN1, HB1⟩)
    | fail)
  go_wp2
  refine bodyPost_ret (v := .tuple #[.pointer a1, .pointer a2]) (by simp [results, Try.results72, go_sem]) rfl ?_
  exact ⟨a1, a2, rfl, HM1, HN2, HB2⟩
end Go.Proofs.Ytamcobncfbjdmaa
