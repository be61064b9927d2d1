/- Parse. -/
import Derived.Test.YtajdpchojimigaaQm
import Derived.Test.YtajdpchojimigaaPs
namespace Go.Proofs.Ytajdpchojimigaa
open Go.RowKit TmM

theorem PSt.last {n p : Nat} {w : World} {T : ByteArray} {i bad : Int} {vo : Value} {e : En} (h : PSt n w p T i vo bad [e]) : ∃ a c, e.kv = .slice a e.g.len c ∧ SlS (fun b => n ≤ b ∧ b < w.heap.size) w a c e.g := by
  obtain ⟨ys, hy, hz⟩ := h.kids e (by simp)
  rcases hy.2 with ⟨h0, hl⟩ | ⟨g', cap', cur, h0, hg', hh, hnc, hcm, _⟩
  · have hG := fo_nil hl
    refine ⟨none, 0, by rw [h0, hl], ?_⟩
    rw [hG]
    exact SlS.nil
  · have hy3 := hy
    rw [h0] at hy3
    refine ⟨some ⟨g', 0, none⟩, cap', h0, hnc, hcm, by simp, .inr ⟨g', 0, ys, rfl, ?_, fun j hj => ?_, hz.mono (fun b hb => ⟨hb.1, hb.2.1⟩) (fun _ _ => rfl)⟩⟩
    · exact ⟨hg', (Array.getElem?_eq_some_iff.1 hh).1⟩
    · have hl := hy3.1
      rw [Nat.zero_add, hy3.cellAt j (by omega)]

set_option maxHeartbeats 6400000 in
set_option maxRecDepth 100000 in
theorem pparse_any (T : ByteArray) (G : Fo) (w : World) (hT : T.size ≤ 40000) (hr : Rd T 0 [(0, ⟨#[]⟩, .nil)] [(0, ⟨#[]⟩, G)]) (hc : G.count ≤ 1000000) (hsm : Small G) (hw : wrongC 8 G = 0) :
    Calls Try.prog 50 #[.string T] w (fun r w' => ∃ a c, r = .returned (.tuple #[.slice a G.len c, .int .i64 0, .int .i64 0]) ∧ Hid (SlS (fun b => w.heap.size ≤ b ∧ b < w'.heap.size) w' a c G) ∧ Below w.heap.size w w') := by
  obtain ⟨i0, hi, hz0, hz1, hz2⟩ := info_parts Try.infoTerm
  have hT1 : ¬ (40000 : Int) < (T.size : Int) := by omega
  have HR := Lib.hid hr
  have HSM := Lib.hid hsm
  have HW := Lib.hid hw
  have HC := Lib.hid hc
  clear hr hsm hw hc
  go_enter Try.func50, Try.ntmps50
  go_wp2_with (first
    | (at_make; refine wpList_make_full _ rfl _ _ 22 rfl w.heap.size 35 i0 (.agg #[.int .i64 0, .string ⟨#[]⟩, .slice none 0 0]) 3 Try.underlying22 hi hz0 hz1 _ _ _ _ 1 rfl rfl rfl rfl (by rw [hz2]; omega) (by unfold maxLen; omega) (Nat.le_refl _) ?_; intro w1 hown1 hgrow1)
    | fail)
  obtain ⟨W, hW⟩ : ∃ W, W = w1.alloc (.cells #[.string T, .int .i64 0, .slice (some ⟨w.heap.size, 0, none⟩) 1 1, .int .i64 (-1)] 89) := ⟨_, rfl⟩
  have hB1 : Below w.heap.size w w1 := (Below.refl _ _).grown hgrow1 (Nat.le_refl _) (fun j hj => by cases hj)
  have hPS : PSt w.heap.size W w1.heap.size T ((0 : Nat) : Int) (.slice (some ⟨w.heap.size, 0, none⟩) 1 1) (-1) [⟨0, ⟨#[]⟩, .slice none 0 0, .nil⟩] := by
    refine ⟨hB1.size, by rw [hW]; exact heap_alloc_new w1 _, ?_, ?_, List.pairwise_singleton _ _, ?_⟩
    · rw [hW]
      have h := hown1.alloc (.cells #[.string T, .int .i64 0, .slice (some ⟨w.heap.size, 0, none⟩) 1 1, .int .i64 (-1)] 89)
      rw [show (madeCells (Value.agg #[Value.int IntKind.i64 0, Value.string ⟨#[]⟩, Value.slice none 0 0]).cells (1 * 3)).toList = flatE [⟨0, ⟨#[]⟩, .slice none 0 0, .nil⟩] from by kernel_rfl] at h
      exact h
    · intro e he b hb
      rw [List.mem_singleton] at he
      subst he
      cases hb
    · intro e he
      rw [List.mem_singleton] at he
      subst he
      exact ⟨[], ⟨rfl, .inl ⟨rfl, rfl⟩⟩, rfl⟩
  have RD := Lib.hid (pread_any W 0 _ _ hPS rfl HR.out hT)
  have HBW : Hid (Below w.heap.size w W) := Lib.hid (by rw [hW]; exact hB1.alloc hB1.size _)
  rw [← hW]
  clear hW hPS hown1 hgrow1 hi hz0 hz1 hz2
  refine RD.out.mono ?_
  rintro r w3 ⟨rfl, vo3, E3, h3, hE3, hb3⟩
  obtain ⟨E0, kv, rfl, hE0⟩ := snoc_of (S := []) hE3
  obtain rfl : E0 = [] := by simpa using hE0
  rw [List.nil_append] at h3
  obtain ⟨g, cap, hvo, _, _, _, _, _, k2, _⟩ := (show PSt w.heap.size w3 w1.heap.size T (T.size : Nat) vo3 (-1) ([] ++ [⟨0, ⟨#[]⟩, kv, G⟩]) from h3.out).top
  simp only [List.length_nil, Nat.zero_mul, Nat.zero_add] at hvo k2
  subst hvo
  obtain ⟨ak, ck, hkv, hsl⟩ := h3.out.last
  simp only at hkv
  subst hkv
  have c2 := h3.out.c2
  have c3 := h3.out.c3
  have HSL := Lib.hid hsl
  have RS0 := presult_any G ak ck w3 HC.out HSM.out (hsl.sl (fun b hb => hb.2))
  rw [HW.out] at RS0
  have RS := Lib.hid RS0
  have HBB := Lib.hid (HBW.out.trans hb3.out)
  clear RS0 hsl hE3 hE0 hb3 RD hB1 hT1
  go_wp2_with (first
    | (go_at_call 16; refine RS.out.mono ?_; rintro r w4 ⟨rfl, hb4⟩)
    | fail)
  go_ret3
  exact ⟨_, _, rfl, Lib.hid (HSL.out.mono (fun b hb => ⟨hb.1, Nat.lt_of_lt_of_le hb.2 hb4.size⟩) (fun b hb => hb4.block b hb.2)), HBB.out.trans (hb4.mono HBB.out.size)⟩
end Go.Proofs.Ytajdpchojimigaa
