/- At of ropes of ints, of any number. The reference's within. -/
import Derived.Test.YtamcobncfbjdmaaRTB
import Derived.Test.YtamcobncfbjdmaaRI4
namespace Go.Proofs.Ytamcobncfbjdmaa
open Go.RowKit Go.Shelf Go.BigFrame
attribute [local go_sem] Oper.semAt_some

set_option maxHeartbeats 3200000 in
theorem pAtOut_any (a : Option Addr) (l : List Int) (i : Int) (w : World) (h : Holds w a l) (hi : i < 0 ∨ (l.length : Int) ≤ i) :
    Calls Try.prog 24 #[.agg #[.pointer a], .int .i64 i] w (fun e w' => e = .returned (.tuple #[.int .i64 0, .bool false]) ∧ Hid (Below w.heap.size w w')) := by
  have HB : Hid (Below w.heap.size w (w.alloc (.cells #[.pointer a] 28))) := Lib.hid ((Below.refl _ _).alloc (Nat.le_refl _) _)
  obtain ⟨o, hN, hL, hol⟩ := h
  have HC := Lib.hid (pLenI_any a o _ (hN.later HB.out))
  obtain ⟨n, hn⟩ : ∃ n, n = l.length := ⟨_, rfl⟩
  rw [hol, ← hn] at HC
  rw [← hn] at hi
  clear hn hN hL hol
  by_cases h0 : i < 0
  · clear hi HC
    go_enter Try.func24, Try.ntmps24
    go_wp2
    refine bodyPost_ret (v := .tuple #[.int .i64 0, .bool false]) (by simp [results, Try.results24, go_sem]) rfl ?_
    exact ⟨rfl, HB⟩
  · have h1 : (n : Int) ≤ i := by omega
    clear hi
    go_enter Try.func24, Try.ntmps24
    go_wp2_with (first
      | (go_at_call 28; refine HC.out.mono ?_; rintro e w1 ⟨rfl, HB1⟩; have HB2 := Lib.hid (HB.out.trans (HB1.out.mono HB.out.size)))
      | fail)
    refine bodyPost_ret (v := .tuple #[.int .i64 0, .bool false]) (by simp [results, Try.results24, go_sem]) rfl ?_
    exact ⟨rfl, HB2⟩

theorem pAtIn_any (a : Option Addr) (l : List Int) (i : Nat) (x : Int) (w : World) (h : Holds w a l) (hm : l.length ≤ 1000000) (hx : l[i]? = some x) :
    Calls Try.prog 24 #[.agg #[.pointer a], .int .i64 i] w (fun e w' => e = .returned (.tuple #[.int .i64 x, .bool true]) ∧ Hid (Below w.heap.size w w')) := by
  rcases h.cases with ⟨_, rfl⟩ | ⟨t, hN, hL, rfl, _⟩
  · cases hx
  · exact pAtI_any a t i x w hN hL hm hx

theorem within_any (n lo hi N : Int) (w : World) (hN : min (max n lo) hi = N) : Calls Try.prog 53 #[.int .i64 n, .int .i64 lo, .int .i64 hi] w (fun e w' => e = .returned (.int .i64 N) ∧ w' = w) := by
  have m1 : min (max n lo) hi = N := hN
  clear hN
  go_enter Try.func53, Try.ntmps53
  go_wp2
  refine bodyPost_ret (v := .int .i64 N) (by simp [results, Try.results53, go_sem]) rfl ?_
  exact ⟨rfl, rfl⟩
end Go.Proofs.Ytamcobncfbjdmaa
