/- split of trees of ints. -/
import Derived.Test.YtamcobncfbjdmaaRT5
namespace Go.Proofs.Ytamcobncfbjdmaa
open Go.RowKit

set_option maxHeartbeats 12800000 in
set_option maxRecDepth 100000 in
theorem psplit_any (t : Rp Int) : ∀ (a : Option Addr) (i : Int) (w : World), Nd encI w a t → t.Lv → t.list.length ≤ 1000000 → Calls Try.prog 51 #[.pointer a, .int .i64 i] w (SplitOut t.list i w) := by
  induction t with
  | leaf l =>
    intro a i w h hL hm
    by_cases h0 : i ≤ 0
    · exact psplitLo_any a _ i w (Holds.of_nd h hL) h0
    · by_cases h1 : (l.length : Int) ≤ i
      · exact psplitHi_any a _ i w (Holds.of_nd h hL) (by omega) h1
      · obtain ⟨k, hk⟩ : ∃ k : Nat, i = k := ⟨i.toNat, by omega⟩
        subst hk
        have hL' : 1 ≤ l.length ∧ l.length ≤ 16 := hL
        refine (psplit1I_any a l k w h hL'.2 (by omega) (by omega)).mono ?_
        rintro r w' ⟨a1, a2, rfl, x, y, z⟩
        refine ⟨a1, a2, rfl, Lib.hid ?_, Lib.hid ?_, z⟩
        · rw [Int.toNat_natCast]
          exact Holds.of_nd x.out (by show 1 ≤ (l.take k).length ∧ (l.take k).length ≤ 16; rw [List.length_take]; omega)
        · rw [Int.toNat_natCast]
          exact Holds.of_nd y.out (by show 1 ≤ (l.drop k).length ∧ (l.drop k).length ≤ 16; rw [List.length_drop]; omega)
  | fork p q ihp ihq =>
    intro a i w h hL hm
    by_cases h0 : i ≤ 0
    · exact psplitLo_any a _ i w (Holds.of_nd h hL) h0
    · by_cases h1 : ((Rp.fork p q).list.length : Int) ≤ i
      · exact psplitHi_any a _ i w (Holds.of_nd h hL) (by omega) h1
      · have C1 := Lib.hid (pforkpI_any a p q _ h)
        have C2 := Lib.hid (plenI_any a (some (.fork p q)) w h)
        obtain ⟨b, rfl, hb, _⟩ := h.dep
        obtain ⟨b', x1, x2, hb', c2, c3, c4, hp, hq⟩ := h.fork2
        obtain rfl : b = b' := by cases hb'; rfl
        obtain ⟨l, rfl, hl, l0, _⟩ := hp.head
        have hlist : (Rp.fork p q).list = p.list ++ q.list := rfl
        have hlen : (Rp.fork p q).list.length = p.list.length + q.list.length := by rw [hlist, List.length_append]
        have C2' : Hid (Calls Try.prog 61 #[.pointer (some ⟨b, 0, none⟩)] w (fun e w' => e = .returned (.int .i64 ((p.list.length + q.list.length : Nat) : Int)) ∧ w' = w)) := Lib.hid (by have := C2.out; rw [show listO (some (Rp.fork p q)) = (Rp.fork p q).list from rfl, hlen] at this; exact this)
        have HP := Lib.hid (Holds.of_nd hp hL.1)
        have HQ := Lib.hid (Holds.of_nd hq hL.2)
        have I1 := Lib.hid (fun w' (hw' : Below w.heap.size w w') => ihp (some ⟨l, 0, none⟩) i w' (hp.later hw') hL.1 (by omega))
        have I2 := Lib.hid (fun w' (hw' : Below w.heap.size w w') => ihq x2 (i - p.list.length) w' (hq.later hw') hL.2 (by omega))
        have HL : Hid ((Rp.fork p q).list = p.list ++ q.list) := Lib.hid hlist
        have hmm : p.list.length + q.list.length ≤ 1000000 := by omega
        rw [hlen] at h1
        obtain ⟨n, hn⟩ : ∃ n, n = p.list.length := ⟨_, rfl⟩
        obtain ⟨m, hm2⟩ : ∃ m, m = p.list.length + q.list.length := ⟨_, rfl⟩
        have hnm : n ≤ m := by omega
        rw [← hm2] at C2' h1 hmm
        rw [← hn] at l0 I2
        have HN := Lib.hid hn
        have HM := Lib.hid hm2
        have i0 : ¬ i ≤ 0 := h0
        have i1 : ¬ (m : Int) ≤ i := h1
        have hwr : IntKind.i64.wrap (i - (n : Int)) = i - (n : Int) := IntWalk.i64_in _ (by omega)
        clear ihp ihq hp hq h hL hm hlist hlen h0 h1 hn hm2 C2 c2 hb'
        by_cases hin : i < (n : Int)
        · go_enter Try.func51, Try.ntmps51
          go_wp2_with (first
            | (go_at_call 62; have hmark := HB1.out; refine (pjoinO_any _ _ _ _ _ HH2.out (HQ.out.later HB1.out) (by rw [List.length_drop]; have := HM.out; omega)).mono ?_; rintro r w2 ⟨c, rfl, HC, HB2⟩)
            | (go_at_call 51; refine (I1.out _ (Below.refl _ _)).mono ?_; rintro r w1 ⟨y1, y2, rfl, HH1, HH2, HB1⟩; have c4' := (HB1.out.cell (p := ⟨b, 4, none⟩) hb).trans c4)
            | (go_at_call 79; refine C1.out.mono ?_; rintro r w9 ⟨rfl, hw9⟩; obtain rfl := hw9.symm)
            | (go_at_call 61; refine C2'.out.mono ?_; rintro r w9 ⟨rfl, hw9⟩; obtain rfl := hw9.symm)
            | fail)
          refine bodyPost_ret (v := .tuple #[.pointer y1, .pointer c]) (by simp [results, Try.results51, go_sem]) rfl ?_
          refine ⟨y1, c, rfl, Lib.hid ?_, Lib.hid ?_, Lib.hid (HB1.out.trans (HB2.out.mono HB1.out.size))⟩
          · rw [HL.out, List.take_append_of_le_length (by have := HN.out; omega)]
            exact HH1.out.later HB2.out
          · rw [HL.out, List.drop_append_of_le_length (by have := HN.out; omega)]
            exact HC.out
        · have KS : ∀ w', Hid (Below w.heap.size w w') → (Hid (Below w.heap.size w w') ∧ w'.cell? ⟨b, 3, none⟩ = some (.pointer (some ⟨l, 0, none⟩)) ∧ w'.cell? ⟨b, 4, none⟩ = some (.pointer x2) ∧ w'.cell? ⟨l, 0, none⟩ = some (.int .i64 n)) := fun w' h => ⟨h, (h.out.cell (p := ⟨b, 3, none⟩) hb).trans c3, (h.out.cell (p := ⟨b, 4, none⟩) hb).trans c4, (h.out.cell (p := ⟨l, 0, none⟩) hl).trans l0⟩
          have HB0 := Lib.hid (Below.refl w.heap.size w)
          go_enter Try.func51, Try.ntmps51
          go_wp2_with (first
            | (go_at_call 79; refine C1.out.mono ?_; rintro r w9 ⟨rfl, hw9⟩; obtain rfl := hw9.symm)
            | (go_at_call 61; refine C2'.out.mono ?_; rintro r w9 ⟨rfl, hw9⟩; obtain rfl := hw9.symm)
            | fail)
          go_region_held3 (fun w' => Hid (Below w.heap.size w w') ∧ w'.cell? ⟨b, 3, none⟩ = some (.pointer (some ⟨l, 0, none⟩)) ∧ w'.cell? ⟨b, 4, none⟩ = some (.pointer x2) ∧ w'.cell? ⟨l, 0, none⟩ = some (.int .i64 n))
            (first | exact KS _ HBX | exact KS _ HB0 | exact KS _ (Lib.hid HB0.out.drew) | assumption)
            (first
            | (go_at_call 51; refine (I2.out _ (by first | exact HB0.out.drew | exact HB0.out)).mono ?_; rintro r w1 ⟨y1, y2, rfl, HH1, HH2, HB1⟩; have HBX : Hid (Below w.heap.size w w1) := Lib.hid (by first | exact HB0.out.drew.trans (HB1.out.mono HB0.out.drew.size) | exact HB0.out.trans (HB1.out.mono HB0.out.size)))
            | fail)
          all_goals
            go_wp2_with (first
              | (go_at_call 62; refine (pjoinO_any _ _ _ _ _ (HP.out.later HBX.out) HH1.out (by rw [List.length_take]; have := HM.out; omega)).mono ?_; rintro r w2 ⟨c, rfl, HC, HB2⟩)
              | fail)
            refine bodyPost_ret (v := .tuple #[.pointer c, .pointer y2]) (by simp [results, Try.results51, go_sem]) rfl ?_
            have e1 : i.toNat = p.list.length + (i - (n : Int)).toNat := by rw [← HN.out]; omega
            refine ⟨c, y2, rfl, Lib.hid ?_, Lib.hid ?_, Lib.hid (HBX.out.trans (HB2.out.mono HBX.out.size))⟩
            · rw [HL.out, e1, List.take_length_add_append]
              exact HC.out
            · rw [HL.out, e1, List.drop_length_add_append]
              exact HH2.out.later HB2.out
end Go.Proofs.Ytamcobncfbjdmaa
