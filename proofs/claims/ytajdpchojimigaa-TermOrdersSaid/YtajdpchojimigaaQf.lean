/- Variables by name: the program. -/
import Derived.Test.YtajdpchojimigaaPn
import Derived.Test.YtajdpchojimigaaPt
namespace Go.Proofs.Ytajdpchojimigaa
open Go.RowKit TmM

/-- does a text begin as the names of a kind do. -/
def begB (s : ByteArray) (k : Int) : Bool := decide (2 ≤ s.size) && ((s.extract 0 2).toList == (prefixF k).toList)
def vkN (s : ByteArray) : Nat := if begB s 5 then 5 else if begB s 6 then 6 else if begB s 7 then 7 else 0
theorem vkN_at {s : ByteArray} {j : Nat} (hj : j < 3) (h : ∀ i : Nat, i < j → begB s (5 + (i : Int)) = false) (hb : begB s (5 + (j : Int)) = true) : vkN s = 5 + j := by
  match j, hj with
  | 0, _ => rw [vkN, if_pos (by simpa using hb)]
  | 1, _ => rw [vkN, if_neg (by have := h 0 (by omega); simp at this; simp [this]), if_pos (by simpa using hb)]
  | 2, _ => rw [vkN, if_neg (by have := h 0 (by omega); simp at this; simp [this]), if_neg (by have := h 1 (by omega); simp at this; simp [this]), if_pos (by simpa using hb)]
theorem vkN_none {s : ByteArray} (h : ∀ i : Nat, i < 3 → begB s (5 + (i : Int)) = false) : vkN s = 0 := by
  have h0 := h 0 (by omega)
  have h1 := h 1 (by omega)
  have h2 := h 2 (by omega)
  simp at h0 h1 h2
  simp [vkN, h0, h1, h2]

theorem ix3_0 (w : World) : (Instr.index 98 (.agg #[.int .i64 5, .int .i64 6, .int .i64 7]) (.int .i64 0)).run Try.prog w = .ok (.int .i64 5) w := by kernel_rfl
theorem ix3_1 (w : World) : (Instr.index 98 (.agg #[.int .i64 5, .int .i64 6, .int .i64 7]) (.int .i64 1)).run Try.prog w = .ok (.int .i64 6) w := by kernel_rfl
theorem ix3_2 (w : World) : (Instr.index 98 (.agg #[.int .i64 5, .int .i64 6, .int .i64 7]) (.int .i64 2)).run Try.prog w = .ok (.int .i64 7) w := by kernel_rfl

set_option maxHeartbeats 6400000 in
set_option maxRecDepth 100000 in
theorem vk_any (s : ByteArray) (w : World) (hs : s.size ≤ 100000000) : Calls Try.prog 69 #[.string s] w (OutV w (.int .i64 (vkN s))) := by
  have i0 := ix3_0
  have i1 := ix3_1
  have i2 := ix3_2
  go_enter Try.func69, Try.ntmps69
  go_wp2_with fail
  go_loopw [6] (fun i wr => ∃ k : Nat, i = .int .i64 k ∧ k ≤ 3 ∧ Hid (∀ j, j < k → begB s (5 + (j : Int)) = false) ∧ Below w.heap.size w wr) (fun i _ => 3 - (intOf i).toNat)
  case atStart => exact ⟨0, rfl, by omega, Lib.hid (fun j hj => absurd hj (Nat.not_lt_zero _)), Below.refl _ _⟩
  case round =>
    obtain ⟨k, rfl, hk, hall, hbw⟩ := hrel
    have HBW := Lib.hid hbw
    clear hbw
    by_cases hk3 : k = 3
    · subst hk3
      have HV := Lib.hid (show vkN s = 0 from vkN_none hall.out)
      go_wp2
      go_ret
      exact ⟨by rw [HV.out]; rfl, HBW.out⟩
    · have hfin : ∀ (q : Bool), begB s (5 + (k : Int)) = q → q = true → vkN s = 5 + k := fun q h1 h2 => vkN_at (by omega) hall.out (h1.trans h2)
      have HF := Lib.hid hfin
      have HN := Lib.hid (show begB s (5 + (k : Int)) = false → ∀ j, j < k + 1 → begB s (5 + (j : Int)) = false from fun h j hj => by
        by_cases e : j = k
        · subst e; exact h
        · exact hall.out j (by omega))
      have PQ := Lib.hid (fun w => (pprefix_any (5 + (k : Int)) w).mono (fun _ w' ⟨a, b⟩ => (⟨a, b.symm⟩ : _ ∧ w' = w)))
      obtain ⟨P, hP⟩ : ∃ P, P = prefixF (5 + (k : Int)) := ⟨_, rfl⟩
      have HP := Lib.hid hP
      rw [← hP] at PQ
      obtain ⟨q, hq⟩ : ∃ q, q = ((s.extract 0 2).toList == P.toList) := ⟨_, rfl⟩
      have HQ := Lib.hid (show begB s (5 + (k : Int)) = (decide (2 ≤ s.size) && q) from by rw [begB, hq, HP.out])
      clear hfin hP
      by_cases h2 : 2 ≤ s.size
      · have h2' : (2 : Int) ≤ (s.size : Int) := by omega
        have HD := Lib.hid (show begB s (5 + (k : Int)) = q from by rw [HQ.out, decide_eq_true h2]; rfl)
        rcases (show k = 0 ∨ k = 1 ∨ k = 2 by omega) with rfl | rfl | rfl
        all_goals
          cases q
          · have e0 := hq.symm
            clear hq
            go_wp2
            go_quiet ((go_at_call 67; exact Calls.quiet_of_same (PQ.out _)))
            go_wp2
            go_round
            case rel => first | exact ⟨0 + 1, rfl, by omega, Lib.hid (HN.out HD.out), below_drewN HBW.out _⟩ | exact ⟨1 + 1, rfl, by omega, Lib.hid (HN.out HD.out), below_drewN HBW.out _⟩ | exact ⟨2 + 1, rfl, by omega, Lib.hid (HN.out HD.out), below_drewN HBW.out _⟩
            case measure => simp [intOf]
          · have e0 := hq.symm
            clear hq
            go_wp2
            go_quiet ((go_at_call 67; exact Calls.quiet_of_same (PQ.out _)))
            go_wp2
            go_ret
            exact ⟨by rw [HF.out true HD.out rfl]; rfl, below_drewN HBW.out _⟩
      · have h2' : ¬ (2 : Int) ≤ (s.size : Int) := by omega
        have h2d : decide ((2 : Int) ≤ (s.size : Int)) = false := decide_eq_false h2'
        have HD := Lib.hid (show begB s (5 + (k : Int)) = false from by rw [HQ.out, decide_eq_false h2]; rfl)
        clear hq
        rcases (show k = 0 ∨ k = 1 ∨ k = 2 by omega) with rfl | rfl | rfl
        all_goals
          go_wp2
          go_quiet (fail)
          go_wp2
          go_round
          case rel => first | exact ⟨0 + 1, rfl, by omega, Lib.hid (HN.out HD.out), below_drewN HBW.out _⟩ | exact ⟨1 + 1, rfl, by omega, Lib.hid (HN.out HD.out), below_drewN HBW.out _⟩ | exact ⟨2 + 1, rfl, by omega, Lib.hid (HN.out HD.out), below_drewN HBW.out _⟩
          case measure => simp [intOf]
end Go.Proofs.Ytajdpchojimigaa
