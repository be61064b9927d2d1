/- The parser's small methods, on: skip, pass, close, item. -/
import Derived.Test.YtajdpchojimigaaQc
namespace Go.Proofs.Ytajdpchojimigaa
open Go.RowKit TmM

/-- the text from an offset on. -/
def rest (T : ByteArray) (m : Nat) : ByteArray := T.extract m T.size
theorem rest_size (T : ByteArray) (m : Nat) : (rest T m).size = T.size - m := by simp [rest]
def skipAt (T : ByteArray) (m : Nat) : Nat := m + skipN (rest T m).data.toList
theorem skipAt_le {T : ByteArray} {m : Nat} (h : m ≤ T.size) : skipAt T m ≤ T.size := by
  have := skip_le (rest T m)
  rw [rest_size] at this
  unfold skipAt
  omega

section
variable {n p : Nat} {T : ByteArray} {bad : Int} {vo : Value} {E : List En}

set_option maxHeartbeats 1600000 in
theorem pskip_any (w : World) (m : Nat) (h : PSt n w p T m vo bad E) (hm : m ≤ T.size) (hT : T.size ≤ 40000) :
    Calls Try.prog 103 #[.pointer (some ⟨p, 0, none⟩)] w (fun r w' => r = .returned (.tuple #[]) ∧ Hid (PSt n w' p T (skipAt T m : Nat) vo bad E) ∧ Hid (Below n w w')) := by
  have c0 := h.c0
  have c1 := h.c1
  have f1 := h.fz 1
  have hm1 : (m : Int) ≤ (T.size : Int) := by omega
  have hk := skip_le (rest T m)
  rw [rest_size] at hk
  have SP0 := fun w => span8_any (rest T m) w (by rw [rest_size]; omega)
  obtain ⟨k, hkk⟩ : ∃ k, k = skipN (rest T m).data.toList := ⟨_, rfl⟩
  rw [← hkk] at hk SP0
  have SP := Lib.hid SP0
  have HK := Lib.hid (show skipAt T m = m + k from by rw [hkk]; rfl)
  have H0 := Lib.hid h
  have hwr : IntKind.i64.wrap ((m : Int) + (k : Int)) = ((skipAt T m : Nat) : Int) := by rw [HK.out, IntWalk.i64_in _ (by omega)]; omega
  have HS := Lib.hid (h.setAt ((skipAt T m : Nat) : Int))
  have HBS := Lib.hid ((Below.refl n w).setCell (p := ⟨p, 1, none⟩) h.le (.int .i64 ((skipAt T m : Nat) : Int)))
  clear h SP0 hkk
  go_enter Try.func103, Try.ntmps103
  go_wp2_with fail
  go_region_with (go_at_call 92; refine (SP.out _).mono ?_; rintro e w' ⟨rfl, rfl⟩)
  all_goals
    try simp only [hwr]
    go_end0
    exact ⟨rfl, Lib.hid (HS.out.keep (Nat.le_refl _) (fun _ _ _ => rfl)), Lib.hid ⟨rfl, rfl, rfl, HBS.out.size, HBS.out.block⟩⟩
end
end Go.Proofs.Ytajdpchojimigaa
