/- The parser's methods: chars, variable. -/
import Derived.Test.YtajdpchojimigaaQe
import Derived.Test.YtajdpchojimigaaQg
import Derived.Test.YtajdpchojimigaaQh
import Derived.Test.YtajdpchojimigaaQi
namespace Go.Proofs.Ytajdpchojimigaa
open Go.RowKit TmM

section
variable {n p : Nat} {T : ByteArray} {i bad : Int} {vo : Value} {E : List En}

theorem PSt.fresh {w w1 : World} (h : PSt n w p T i vo bad E) {b : Nat} (hb : w.heap.size ≤ b) (hl : b < w1.heap.size) : Free n w1 p vo E b := by
  refine ⟨Nat.le_trans h.size hb, hl, fun e => by have := h.lt; omega, fun e => by have := (h.row.lt b e).2; omega, fun x hx e => ?_⟩
  obtain ⟨xs, hy, _⟩ := h.kids x hx
  have := (hy.lt b e).2
  omega

set_option maxHeartbeats 3200000 in
theorem pmchars_any (w : World) (m L : Nat) (en : En) (h : PSt n w p T m vo bad (E ++ [en])) (hE : E.length ≤ 1000000) (hl : en.g.len ≤ 5000000) (hT : T.size ≤ 40000) (hL : 0 < L) (hend : m + 1 + L < T.size)
    (hplain : ∀ j (hj : j < T.size), m + 1 ≤ j → j < m + 1 + L → T[j] ≠ T[m] ∧ T[j] ≠ 92 ∧ isN 16 T[j].toNat = true) (hclose : T[m + 1 + L] = T[m]) :
    Calls Try.prog 104 #[.pointer (some ⟨p, 0, none⟩)] w (fun r w' => r = .returned (.tuple #[]) ∧ ∃ kv', Hid (PSt n w' p T (m + L + 2 : Nat) vo bad (E ++ [⟨en.k, en.t, kv', en.g.app (foC (T.extract (m + 1) (m + 1 + L)).data.toList)⟩])) ∧ Hid (Below n w w')) := by
  have PQ := Lib.hid (pquote_plain w m L h hT hL hend hplain hclose)
  have HL := Lib.hid hl
  have hs0 : (T.extract (m + 1) (m + 1 + L)).size ≤ 1000000 := by rw [ByteArray.size_extract]; omega
  have hfl : (foC (T.extract (m + 1) (m + 1 + L)).data.toList).len ≤ 1000000 := by rw [foC_len]; rw [ByteArray.size_extract] at hs0; simp; have : T.data.size = T.size := rfl; omega
  obtain ⟨s, hs⟩ : ∃ s, s = T.extract (m + 1) (m + 1 + L) := ⟨_, rfl⟩
  rw [← hs] at PQ hs0 hfl ⊢
  have HS0 := Lib.hid hs0
  have HFL := Lib.hid hfl
  clear hs h hplain hclose hl hs0 hfl
  go_enter Try.func104, Try.ntmps104
  go_wp2_with fail
  refine PQ.out.mono ?_
  rintro r w2 ⟨rfl, h2, hb2⟩
  go_wp2_with (first
    | (go_at_call 42; refine (pchars_any s _ HS0.out).mono ?_; rintro r w3 ⟨a3, c3, rfl, hs3, hb3⟩)
    | (go_at_call 132; refine (padd_any w3 en (foC s.data.toList) a3 _ c3 (h2.out.later hb3) hE rfl (Put.of (hs3.out.mono (fun b hb => h2.out.fresh hb.1 hb.2) (fun _ _ => rfl))) (by have := HL.out; have := HFL.out; omega)).mono ?_; rintro r w4 ⟨rfl, kv4, hP4, hB4⟩))
  go_end0
  exact ⟨rfl, kv4, hP4, Lib.hid ((hb2.out.trans (hb3.mono h2.out.size)).trans hB4.out)⟩

end
end Go.Proofs.Ytajdpchojimigaa
