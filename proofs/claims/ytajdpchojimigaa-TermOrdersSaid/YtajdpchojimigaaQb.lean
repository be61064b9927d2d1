/- Blanks ahead. -/
import Derived.Test.YtajdpchojimigaaPt
namespace Go.Proofs.Ytajdpchojimigaa
open Go.RowKit TmM

def blankN (n : Nat) : Bool := n == 32 || n == 9 || n == 10 || n == 13
theorem clsN_blank : ∀ n, n < 256 → blankN n = (Nat.land (clsN n) 8 != 0) := by decide +kernel
def skipN (s : List UInt8) : Nat := (s.takeWhile (fun b => blankN b.toNat)).length
theorem skip_le (s : ByteArray) : skipN s.data.toList ≤ s.size := by
  rw [← size_list s]; exact (List.takeWhile_prefix _).length_le

set_option maxHeartbeats 12800000 in
theorem is8_any (n : Nat) (w : World) (hn : n < 256) : Calls Try.prog 107 #[.int .u8 (n : Int), .int .i64 8] w (Pure w (.bool (blankN n))) := by
  have C := Lib.hid (fun w => class_any n w hn)
  have HI := Lib.hid (clsN_blank n hn)
  have hv := clsN_values n hn
  obtain ⟨v, hvv⟩ : ∃ v, v = clsN n := ⟨_, rfl⟩
  rw [← hvv] at C HI hv
  clear hvv hn
  rcases hv with rfl | rfl | rfl | rfl | rfl | rfl | rfl
  all_goals
    go_enter Try.func107, Try.ntmps107
    go_wp2_with (go_at_call 134; refine (C.out _).mono ?_; rintro e w' ⟨rfl, rfl⟩)
    go_ret
    exact ⟨by rw [HI.out]; rfl, rfl⟩

set_option maxHeartbeats 1600000 in
theorem span8_any (s : ByteArray) (w : World) (hs : s.size ≤ 100000000) : Calls Try.prog 92 #[.string s, .int .i64 8] w (Pure w (.int .i64 (skipN s.data.toList))) := by
  go_enter Try.func92, Try.ntmps92
  go_wp2_with fail
  go_loop [8] (fun i => ∃ k : Nat, i = .int .i64 k ∧ k ≤ s.size ∧ Hid (∀ j (hj : j < s.size), j < k → blankN s[j].toNat = true)) (fun i => s.size - (intOf i).toNat)
  case atStart => exact ⟨0, rfl, Nat.zero_le _, Lib.hid (fun j _ h => by omega)⟩
  case round =>
    obtain ⟨k, rfl, hk, hall⟩ := hrel
    by_cases hlt : k < s.size
    · obtain ⟨i, hi⟩ : ∃ i, i = blankN s[k].toNat := ⟨_, rfl⟩
      have I := Lib.hid (fun w => is8_any s[k].toNat w s[k].toNat_lt)
      rw [← hi] at I
      have HI := Lib.hid hi
      clear hi
      cases i
      · have HV := Lib.hid (show skipN s.data.toList = k from take_while_at (p := fun b => blankN b.toNat) (fun j hj hjk => hall.out j (by simpa using hj) hjk) (by simpa using hlt) HI.out.symm)
        go_wp2_with (go_at_call 107; refine (I.out _).mono ?_; rintro e w' ⟨rfl, rfl⟩)
        go_ret
        exact ⟨by rw [HV.out]; rfl, rfl⟩
      · go_wp2_with (go_at_call 107; refine (I.out _).mono ?_; rintro e w' ⟨rfl, rfl⟩)
        go_round
        case rel => exact ⟨k + 1, by go_num, by omega, Lib.hid (fun j hj hjk => by
          rcases Nat.lt_succ_iff_lt_or_eq.1 hjk with h | h
          · exact hall.out j hj h
          · subst h; exact HI.out.symm)⟩
        case measure => simp [intOf]; omega
    · have HV := Lib.hid (show skipN s.data.toList = s.size from by
        have h := all_good (s := s) (p := fun b => blankN b.toNat) (fun j hj => hall.out j hj (by omega))
        rw [skipN, take_while_all h]; simp)
      go_wp2
      go_ret
      exact ⟨by rw [HV.out]; rfl, rfl⟩
end Go.Proofs.Ytajdpchojimigaa
