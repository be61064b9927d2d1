/- from of int. -/
import Derived.Test.YtamcobncfbjdmaaRI2
import Derived.Deep.LoopGhost
namespace Go.Proofs.Ytamcobncfbjdmaa
open Go.RowKit

set_option maxHeartbeats 3200000 in
set_option maxRecDepth 100000 in
theorem pfromI_any (t : Rp Int) (i : Nat) (a : Option Addr) (w : World) (hN : Nd encI w a t) (hL : t.Lv) (hi : i < t.list.length) (hm : t.list.length ≤ 1000000) :
    Calls Try.prog 59 #[.pointer a, .int .i64 i] w (fun r w' => ∃ e k m c, r = .returned (.slice (some ⟨e, k, none⟩) m c) ∧ 1 ≤ m ∧ m + i ≤ t.list.length ∧ e < w.heap.size ∧ Hid (∀ j y, j < m → t.list[i + j]? = some y → w.cell? ⟨e, k + j, none⟩ = some (encI y)) ∧ Hid (Below w.heap.size w w')) := by
  have HN := Lib.hid hN
  have HL := Lib.hid hL
  clear hN hL
  go_enter Try.func59, Try.ntmps59
  go_wp2
  go_loopg [0, 1] t.depth (fun g v0 v1 wr => ∃ (a' : Option Addr) (t' : Rp Int) (i' : Nat), v0 = .pointer a' ∧ v1 = .int .i64 i' ∧ wr = w ∧ Hid (Nd encI w a' t') ∧ Hid t'.Lv ∧ i' < t'.list.length ∧ t'.depth ≤ g ∧ t'.list.length ≤ 1000000 ∧ t'.list.length + i ≤ t.list.length + i' ∧ Hid (∀ j, i' + j < t'.list.length → t.list[i + j]? = t'.list[i' + j]?))
  case atStart => exact ⟨a, t, i, rfl, rfl, rfl, HN, HL, hi, Nat.le_refl _, hm, Nat.le_refl _, Lib.hid fun _ _ => rfl⟩
  case round =>
    obtain ⟨a', t', i', rfl, rfl, rfl, HN', HL', hi', hg, hm', hle, HJ⟩ := hrel
    cases t' with
    | leaf l =>
      have C1 := Lib.hid (pleafpI_any a' l _ HN'.out)
      obtain ⟨b, e, rfl, c0, c2, he, hl⟩ := HN'.out.leaf2
      have h16 := HL'.out.2
      obtain ⟨n, hn⟩ : ∃ n, n = l.length := ⟨_, rfl⟩
      have hi2 : i' < n := by rw [hn]; exact hi'
      have hle2 : n + i ≤ t.list.length + i' := by rw [hn]; exact hle
      have HNN := Lib.hid hn
      rw [← hn] at c0 h16
      have C2 := Lib.hid (plistI_any b e n _ c0 c2 h16)
      have hni : (i' : Int) ≤ (n : Int) := by omega
      have hi0 : (0 : Int) ≤ (i' : Int) := by omega
      have hn16 : (n : Int) ≤ 16 := by omega
      have h16i : ¬ 16 = i' := by omega
      clear hn hi' hle hm' c0 c2
      go_wp2_with (first | (go_at_call 79; refine C1.out.mono ?_; rintro r w1 ⟨rfl, rfl⟩) | fail)
      go_wp2_with (first | (go_at_call 80; refine C2.out.mono ?_; rintro r w1 ⟨rfl, hb1⟩) | fail)
      go_ret
      refine ⟨e, i', n - i', 16 - i', by simp, by omega, by omega, he, Lib.hid fun j y hj hy => ?_, Lib.hid hb1⟩
      have hlen := HNN.out
      refine hl.out (i' + j) y ?_
      rw [← hy]
      exact (HJ.out j (by show i' + j < l.length; omega)).symm
    | fork p q =>
      have C1 := Lib.hid (pforkpI_any a' p q _ HN'.out)
      obtain ⟨b, a1, a2, rfl, c2, c3, c4, hp, hq⟩ := HN'.out.fork2
      obtain ⟨b1, rfl, hb1, d0, _⟩ := hp.head
      have HP := Lib.hid hp
      have HQ := Lib.hid hq
      obtain ⟨n, hn⟩ : ∃ n, n = p.list.length := ⟨_, rfl⟩
      rw [← hn] at d0
      have HNN := Lib.hid hn
      clear hp hq
      rw [Rp.list, List.length_append, ← hn] at hi' hm' hle
      have hdp : p.depth + 1 ≤ gk := by have := hg; rw [Rp.depth] at this; omega
      have hdq : q.depth + 1 ≤ gk := by have := hg; rw [Rp.depth] at this; omega
      clear hn hg
      by_cases hlt : i' < n
      · have hli : (i' : Int) < (n : Int) := by omega
        go_wp2_with (first | (go_at_call 79; refine C1.out.mono ?_; rintro r w1 ⟨rfl, rfl⟩) | fail)
        go_roundg p.depth
        case measure => omega
        case rel =>
          have e := HNN.out
          exact ⟨_, p, i', rfl, rfl, rfl, HP, Lib.hid HL'.out.1, by omega, Nat.le_refl _, by omega, by omega, Lib.hid fun j hj => by
            rw [HJ.out j (by rw [Rp.list, List.length_append]; omega), Rp.list, List.getElem?_append_left hj]⟩
      · have hli : ¬ (i' : Int) < (n : Int) := by omega
        have hwr : IntKind.i64.wrap ((i' : Int) - (n : Int)) = ((i' - n : Nat) : Int) := by rw [IntWalk.i64_in _ (by omega)]; omega
        go_wp2_with (first | (go_at_call 79; refine C1.out.mono ?_; rintro r w1 ⟨rfl, rfl⟩) | fail)
        go_roundg q.depth
        case measure => omega
        case rel =>
          have e := HNN.out
          exact ⟨_, q, i' - n, rfl, rfl, rfl, HQ, Lib.hid HL'.out.2, by omega, Nat.le_refl _, by omega, by omega, Lib.hid fun j hj => by
            rw [HJ.out j (by rw [Rp.list, List.length_append]; omega), Rp.list, List.getElem?_append_right (by omega), ← e]
            congr 1
            omega⟩
end Go.Proofs.Ytamcobncfbjdmaa
