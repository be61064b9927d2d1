/- sinks of int. -/
import Derived.Test.YtamcobncfbjdmaaRT2
namespace Go.Proofs.Ytamcobncfbjdmaa
open Go.RowKit

def Rp.isLf {α : Type} : Rp α → Bool
  | .leaf _ => true
  | .fork _ _ => false
/-- whether a tree is joined to a tree within a deeper one. -/
def snk {α : Type} (p q : Rp α) : Bool := decide (p.depth + 1 < q.depth) || (p.isLf && !q.isLf)
theorem pisLf_any (a : Option Addr) (p : Rp Int) (w : World) (h : Nd encI w a p) : Calls Try.prog 79 #[.pointer a] w (fun e w' => e = .returned (.bool p.isLf) ∧ w' = w) := by
  cases p with
  | leaf l => exact pleafpI_any a l w h
  | fork x y => exact pforkpI_any a x y w h

set_option maxHeartbeats 6400000 in
set_option maxRecDepth 100000 in
theorem psink_any (a1 a2 : Option Addr) (p q : Rp Int) (w : World) (hp : Nd encI w a1 p) (hq : Nd encI w a2 q) (hL : p.depth ≤ 1000000) :
    Calls Try.prog 82 #[.pointer a1, .pointer a2] w (fun r w' => r = .returned (.bool (snk p q)) ∧ ∃ n, w' = w.drewN n) := by
  have C1 := Lib.hid (fun n => pisLf_any a1 p _ (hp.later (below_drewN (Below.refl w.heap.size w) n)))
  have C2 := Lib.hid (fun n => pisLf_any a2 q _ (hq.later (below_drewN (Below.refl w.heap.size w) n)))
  obtain ⟨b, rfl, hb, c1⟩ := hp.dep
  obtain ⟨e, rfl, he, e1⟩ := hq.dep
  have HS : Hid (snk p q = (decide (p.depth + 1 < q.depth) || (p.isLf && !q.isLf))) := Lib.hid rfl
  obtain ⟨dp, hdp⟩ : ∃ d, d = p.depth := ⟨_, rfl⟩
  obtain ⟨dq, hdq⟩ : ∃ d, d = q.depth := ⟨_, rfl⟩
  obtain ⟨x, hx⟩ : ∃ x, x = p.isLf := ⟨_, rfl⟩
  obtain ⟨y, hy⟩ : ∃ y, y = q.isLf := ⟨_, rfl⟩
  rw [← hdp] at c1 HS hL
  rw [← hdq] at e1 HS
  rw [← hx] at C1 HS
  rw [← hy] at C2 HS
  clear hdp hdq hx hy hp hq
  have hwr : IntKind.i64.wrap ((dp : Int) + 1) = (dp : Int) + 1 := IntWalk.i64_in _ (by omega)
  rw [HS.out]
  by_cases h1 : dp + 1 < dq
  · have i1 : (dp : Int) + 1 < (dq : Int) := by omega
    have hd : decide (dp + 1 < dq) = true := decide_eq_true h1
    rw [hd]
    clear h1 hd
    go_enter Try.func82, Try.ntmps82
    go_wp2_with fail
    go_quiet (fail)
    go_wp2
    go_ret
    exact ⟨rfl, _, rfl⟩
  · have i1 : ¬ (dp : Int) + 1 < (dq : Int) := by omega
    have hd : decide (dp + 1 < dq) = false := decide_eq_false h1
    rw [hd]
    clear h1 hd
    cases x with
    | false =>
      go_enter Try.func82, Try.ntmps82
      go_wp2_with fail
      go_quiet ((first | (go_at_call 79; exact Calls.quiet_of_same (C1.out _)) | (go_at_call 79; exact Calls.quiet_of_same (C2.out _))))
      go_wp2
      go_ret
      exact ⟨by first | rfl | (show Ending.returned (Value.bool (decide ((dp : Int) + 1 < (dq : Int)))) = _; rw [decide_eq_false (by omega)]; rfl), _, rfl⟩
    | true =>
      cases y with
      | false =>
        go_enter Try.func82, Try.ntmps82
        go_wp2_with fail
        go_quiet ((first | (go_at_call 79; exact Calls.quiet_of_same (C1.out _)) | (go_at_call 79; exact Calls.quiet_of_same (C2.out _))))
        go_wp2
        go_ret
        exact ⟨by first | rfl | (show Ending.returned (Value.bool (decide ((dp : Int) + 1 < (dq : Int)))) = _; rw [decide_eq_false (by omega)]; rfl), _, rfl⟩
      | true =>
        go_enter Try.func82, Try.ntmps82
        go_wp2_with fail
        go_quiet ((first | (go_at_call 79; exact Calls.quiet_of_same (C1.out _)) | (go_at_call 79; exact Calls.quiet_of_same (C2.out _))))
        go_wp2
        go_ret
        exact ⟨by first | rfl | (show Ending.returned (Value.bool (decide ((dp : Int) + 1 < (dq : Int)))) = _; rw [decide_eq_false (by omega)]; rfl), _, rfl⟩
end Go.Proofs.Ytamcobncfbjdmaa
