/- The program's own depth of a term. -/
import Derived.Test.YtajdpchojimigaaMem
namespace Go.Proofs.Ytajdpchojimigaa
open Go.RowKit TmM

/-- whether a term is a group or a call. -/
def ownD (k : Int) : Int := if k = 4 ∨ k = 8 then 1 else 0
theorem ownD_le (k : Int) : 0 ≤ ownD k ∧ ownD k ≤ 1 := by unfold ownD; split <;> omega

set_option maxHeartbeats 800000 in
theorem own_al (k : Int) (t : ByteArray) (a : Option Addr) (n cap : Nat) (w : World) :
    Calls Try.prog 57 #[.agg #[.int .i64 k, .string t, .slice a n cap]] w (fun e w' => e = .returned (.int .i64 (ownD k)) ∧ w' = w.alloc (.cells #[.int .i64 k, .string t, .slice a n cap] 35)) := by
  rcases (show k = 4 ∨ k = 8 ∨ (k ≠ 4 ∧ k ≠ 8) by omega) with rfl | rfl | ⟨h4, h8⟩
  · go_enter Try.func57, Try.ntmps57
    go_wp2
    go_ret
    exact ⟨rfl, rfl⟩
  · go_enter Try.func57, Try.ntmps57
    go_wp2
    go_ret
    exact ⟨rfl, rfl⟩
  · have e4 : (k == 4) = false := by simpa using h4
    have e8 : (k == 8) = false := by simpa using h8
    have HR := Lib.hid (show ownD k = 0 from by rw [ownD, if_neg (by omega)])
    clear h4 h8
    go_enter Try.func57, Try.ntmps57
    go_wp2
    go_ret
    exact ⟨by rw [HR.out]; rfl, rfl⟩
end Go.Proofs.Ytajdpchojimigaa
