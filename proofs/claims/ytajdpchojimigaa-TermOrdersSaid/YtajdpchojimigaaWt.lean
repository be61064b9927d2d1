/- The text of an expression without words and escapes: Text. -/
import Derived.Test.YtajdpchojimigaaWi
import Derived.Test.YtajdpchojimigaaPs
namespace Go.Proofs.Ytajdpchojimigaa
open Go.RowKit TmM

theorem items_all (N : Nat) : ItemsOk N := by
  induction N using Nat.strongRecOn with
  | _ N ih => exact items_step N ih

set_option maxHeartbeats 3200000 in
theorem ptext_any (f : Fo) (a : Option Addr) (cap : Nat) (w : World) (hc : f.count ≤ 1000000) (hsm : Small f) (hs : Sl w.heap.size w a cap f) (hok : TOk f) (hr : wrongC 8 f = 0) (hlen : (itemsW false false f).length ≤ 40000) :
    Calls Try.prog 48 #[.slice a f.len cap] w (OutV w (.tuple #[.string ⟨(itemsW false false f).toArray⟩, .int .i64 0])) := by
  have RS := Lib.hid (presult_any f a cap w hc hsm hs)
  rw [hr] at RS
  have IA := Lib.hid (fun w2 (hb : Below w.heap.size w w2) => items_all f.count f a cap w2.heap.size w2.heap.size [] (w2.alloc (.cells #[.pointer none, .slice none 0 0] 83)) (Nat.le_refl _) hc hok ((hs.below (hb.alloc hb.size _) hb.size)) (bld_new w2) (by simpa using Nat.le_trans hlen (by omega)))
  obtain ⟨L, hL⟩ : ∃ L, L = itemsW false false f := ⟨_, rfl⟩
  rw [← hL] at IA hlen ⊢
  clear hr hs hok hsm hL
  go_enter Try.func48, Try.ntmps48
  go_wp2_with (go_at_call 16; refine RS.out.mono ?_; rintro r w2 ⟨rfl, hb2⟩)
  have II := Lib.hid (IA.out w2 hb2)
  rw [List.nil_append] at II
  have HB2 := Lib.hid (hb2.alloc hb2.size (.cells #[.pointer none, .slice none 0 0] 83))
  have hbl : (Lib.byteCells L).length = L.length := by simp [Lib.byteCells]
  have hgt : ¬ (40000 : Int) < ((Lib.byteCells L).length : Int) := by omega
  have HSZ := Lib.hid hb2.size
  clear hbl hlen hb2 IA
  refine II.out.mono ?_
  rintro r w3 ⟨rfl, hb3, hbw3⟩
  have BL := Lib.hid (Try.Builder_Len _ _ _ _ hb3)
  have BS := Lib.hid (Try.Builder_String_any _ _ L _ hb3 (by have := hbw3.size; simp at this; omega))
  have HW3 := Lib.hid hbw3
  clear hb3 hbw3
  go_wp2_with (first
    | (go_at_call 78; refine BL.out.mono ?_; rintro r w' ⟨rfl, rfl⟩)
    | (go_at_call 79; refine BS.out.mono ?_; rintro r w4 ⟨rfl, hb4⟩)
    | fail)
  go_ret2
  exact ⟨rfl, HB2.out.trans ((HW3.out.mono HSZ.out).trans (hb4.mono HSZ.out))⟩
end Go.Proofs.Ytajdpchojimigaa
