/- The parser's method variable. -/
import Derived.Test.YtajdpchojimigaaQj
namespace Go.Proofs.Ytajdpchojimigaa
open Go.RowKit TmM

section
variable {n p : Nat} {T : ByteArray} {i bad : Int} {vo : Value} {E : List En}

/-- where a variable ends. -/
def varEnd (T : ByteArray) (m : Nat) : Nat := m + 2 + spanN 3 (rest T (m + 2)).data.toList
theorem varEnd_le {T : ByteArray} {m : Nat} (h : m + 2 ≤ T.size) : varEnd T m ≤ T.size := by
  have := span_le 3 (rest T (m + 2))
  rw [rest_size] at this
  unfold varEnd
  omega

set_option maxHeartbeats 6400000 in
set_option maxRecDepth 100000 in
theorem pmvariable_any (w : World) (m : Nat) (en : En) (h : PSt n w p T m vo bad (E ++ [en])) (hE : E.length ≤ 1000000) (hl : en.g.len ≤ 5000000) (hT : T.size ≤ 40000) (hm : m + 2 ≤ T.size) (hok : okV (T.extract m (varEnd T m)) = true) :
    Calls Try.prog 106 #[.pointer (some ⟨p, 0, none⟩)] w (fun r w' => r = .returned (.tuple #[]) ∧ ∃ kv', Hid (PSt n w' p T (varEnd T m : Nat) vo (badAt T (varEnd T m) bad) (E ++ [⟨en.k, en.t, kv', en.g.app (.cons (vkN (T.extract m (varEnd T m))) ((T.extract m (varEnd T m)).extract 2 (T.extract m (varEnd T m)).size) .nil .nil)⟩])) ∧ Hid (Below n w w')) := by
  have c0 := h.c0
  have c1 := h.c1
  have H0 := Lib.hid h
  have HL := Lib.hid hl
  have hve := varEnd_le hm
  have SP0 := fun w => span_any (rest T (m + 2)) 3 w (by rw [rest_size]; omega) (by simp)
  obtain ⟨k, hk⟩ : ∃ k, k = spanN 3 (rest T (m + 2)).data.toList := ⟨_, rfl⟩
  have hke : varEnd T m = m + 2 + k := by rw [hk]; rfl
  rw [← hk] at SP0
  have SP := Lib.hid SP0
  have VR0 := fun w => pvariable_any (T.extract m (varEnd T m)) w (by rw [ByteArray.size_extract]; omega)
  obtain ⟨e, he⟩ : ∃ e, e = varEnd T m := ⟨_, rfl⟩
  rw [← he] at VR0 hok hve hke ⊢
  have VR := Lib.hid (fun w => (VR0 w).mono (fun r w' h => (⟨(h.1.resolve_right (fun c => by rw [hok] at c; cases c.1)).2, h.2⟩ : r = .returned (.tuple #[.agg #[.int .i64 (vkN (T.extract m e)), .string ((T.extract m e).extract 2 (T.extract m e).size), .slice none 0 0], .bool true]) ∧ Below w.heap.size w w')))
  have HKE := Lib.hid (show (m : Int) + 2 + (k : Int) = (e : Int) from by omega)
  have hm2 : (m : Int) + 2 ≤ (T.size : Int) := by omega
  have hsl := run_slice_str T m e (by omega) hve
  clear h hl SP0 VR0 hk he hok
  go_enter Try.func106, Try.ntmps106
  go_wp2_with (go_at_call 92; refine (SP.out _).mono ?_; rintro e' w' ⟨rfl, rfl⟩)
  rw [HKE.out]
  have hplt := H0.out.lt
  have o0 : ∀ o, (w.alloc o).cell? ⟨p, 0, none⟩ = some (.string T) := fun o => (World.cell?_of_block (heap_old w o p hplt)).trans c0
  have o1 : ∀ o, (w.alloc o).cell? ⟨p, 1, none⟩ = some (.int .i64 m) := fun o => (World.cell?_of_block (heap_old w o p hplt)).trans c1
  have O0 := Lib.hid o0
  have O1 := Lib.hid o1
  clear o0 o1
  have hme : m ≤ e := by omega
  have hme1 : (m : Int) ≤ (e : Int) := by omega
  have hve1 : (e : Int) ≤ (T.size : Int) := by omega
  have h0m : (0 : Int) ≤ (m : Int) := by omega
  have h0e : (0 : Int) ≤ (e : Int) := by omega
  have HSZ := Lib.hid (show (T.extract m e).size = e - m from by rw [ByteArray.size_extract]; omega)
  clear hke
  have SH : Hid (∀ (X : World) (a b c : Value), (((X.setCell ⟨w.heap.size, 0, none⟩ a).setCell ⟨w.heap.size, 1, none⟩ b).setCell ⟨w.heap.size, 2, none⟩ c).heap[p]? = X.heap[p]?) := Lib.hid (fun X a b c => by
    have hne : p ≠ w.heap.size := by omega
    rw [Below.heap_setCell _ _ _ _ hne, Below.heap_setCell _ _ _ _ hne, Below.heap_setCell _ _ _ _ hne])
  have NS : Hid (w.heap.size < (World.drew (w.alloc (.cells #[.int .i64 0, .string ⟨#[]⟩, .slice none 0 0] 35))).heap.size) := Lib.hid (show w.heap.size < (w.alloc (.cells #[.int .i64 0, .string ⟨#[]⟩, .slice none 0 0] 35)).heap.size from by simp)
  have N0 : Hid ((World.drew (w.alloc (.cells #[.int .i64 0, .string ⟨#[]⟩, .slice none 0 0] 35))).cell? ⟨w.heap.size, 0, none⟩ = some (.int .i64 0)) := Lib.hid (news_cell (w := w) [.int .i64 0, .string ⟨#[]⟩, .slice none 0 0] 35 0 rfl)
  have N1 : Hid ((World.drew (w.alloc (.cells #[.int .i64 0, .string ⟨#[]⟩, .slice none 0 0] 35))).cell? ⟨w.heap.size, 1, none⟩ = some (.string ⟨#[]⟩)) := Lib.hid (news_cell (w := w) [.int .i64 0, .string ⟨#[]⟩, .slice none 0 0] 35 1 rfl)
  have N2 : Hid ((World.drew (w.alloc (.cells #[.int .i64 0, .string ⟨#[]⟩, .slice none 0 0] 35))).cell? ⟨w.heap.size, 2, none⟩ = some (.slice none 0 0)) := Lib.hid (news_cell (w := w) [.int .i64 0, .string ⟨#[]⟩, .slice none 0 0] 35 2 rfl)
  have NF : Hid (∀ j, (World.drew (w.alloc (.cells #[.int .i64 0, .string ⟨#[]⟩, .slice none 0 0] 35))).frozen? ⟨w.heap.size, j, none⟩ = false) := Lib.hid (fun j => frozen_of_row (w.alloc (.cells #[.int .i64 0, .string ⟨#[]⟩, .slice none 0 0] 35)) w.heap.size j _ _ (heap_alloc_new w _))
  go_region_held3 (fun w' => w'.cell? ⟨p, 0, none⟩ = some (.string T) ∧ w'.cell? ⟨p, 1, none⟩ = some (.int .i64 m))
    (first | exact ⟨c0, c1⟩ | exact ⟨K0.out, K1.out⟩ | exact ⟨P0.out _, P1.out _⟩ | exact ⟨Q0.out _ _ _, Q1.out _ _ _⟩ | exact ⟨O0.out _, O1.out _⟩ | exact c0 | exact c1 | exact O0.out _ | exact O1.out _ | exact K0.out | exact K1.out | exact P0.out _ | exact P1.out _ | go_keep)
    (first
      | (go_at_call 35; refine (VR.out _).mono ?_; rintro r w2 ⟨rfl, hb2⟩; have K0 : Hid (w2.cell? ⟨p, 0, none⟩ = some (.string T)) := Lib.hid ((hb2.cell (p := ⟨p, 0, none⟩) (by first | exact hplt | (simp; omega))).trans (by first | exact c0 | exact O0.out _)); have K1 : Hid (w2.cell? ⟨p, 1, none⟩ = some (.int .i64 m)) := Lib.hid ((hb2.cell (p := ⟨p, 1, none⟩) (by first | exact hplt | (simp; omega))).trans (by first | exact c1 | exact O1.out _)); have P0 := Lib.hid (fun o => (World.cell?_of_block (heap_old w2 o p (by have := hb2.size; first | exact Nat.lt_of_lt_of_le hplt this | (simp at this; omega)))).trans K0.out); have P1 := Lib.hid (fun o => (World.cell?_of_block (heap_old w2 o p (by have := hb2.size; first | exact Nat.lt_of_lt_of_le hplt this | (simp at this; omega)))).trans K1.out);
         have Q0 := Lib.hid (fun a b c => (World.cell?_of_block (SH.out w2 a b c)).trans K0.out); have Q1 := Lib.hid (fun a b c => (World.cell?_of_block (SH.out w2 a b c)).trans K1.out);
         try (have B0 := (hb2.cell (p := ⟨w.heap.size, 0, none⟩) NS.out).trans N0.out; have B1 := (hb2.cell (p := ⟨w.heap.size, 1, none⟩) NS.out).trans N1.out; have B2 := (hb2.cell (p := ⟨w.heap.size, 2, none⟩) NS.out).trans N2.out; have G0 := (hb2.frozen (p := ⟨w.heap.size, 0, none⟩) NS.out).trans (NF.out 0); have G1 := (hb2.frozen (p := ⟨w.heap.size, 1, none⟩) NS.out).trans (NF.out 1); have G2 := (hb2.frozen (p := ⟨w.heap.size, 2, none⟩) NS.out).trans (NF.out 2)))
      | fail)
  · have hP2 := Lib.hid (H0.out.keep (w1 := w2) hb2.size (fun b _ hl => hb2.block b hl))
    have hX := Lib.hid ((show Below n w w2 from ⟨hb2.os, hb2.tape, hb2.output, hb2.size, fun b hl => hb2.block b (Nat.lt_of_lt_of_le hl H0.out.size)⟩).alloc hP2.out.size (.cells #[.int .i64 (vkN (T.extract m e)), .string ((T.extract m e).extract 2 (e - m)), .slice none 0 0] 35))
    clear hb2
    go_wp2_with (go_at_call 133; refine (pitem_any _ (m : Int) en e _ _ ((hP2.out.later ((Below.refl _ _).alloc (Nat.le_refl _) (.cells #[.int .i64 (vkN (T.extract m e)), .string ((T.extract m e).extract 2 (e - m)), .slice none 0 0] 35))).keep (Nat.le_refl _) (fun _ _ _ => rfl)) hE HL.out hve hT).mono ?_; rintro r w3 ⟨rfl, kv3, hP3, hB3⟩)
    go_end0
    exact ⟨rfl, kv3, by rw [HSZ.out]; exact hP3, Lib.hid ((show Below n w _ from ⟨hX.out.os, hX.out.tape, hX.out.output, hX.out.size, hX.out.block⟩).trans hB3.out)⟩
  · have hz2 : w.heap.size ≤ w2.heap.size := by have := hb2.size; have h0 := NS.out; omega
    have hblk : ∀ b, b < w.heap.size → w2.heap[b]? = w.heap[b]? := fun b hl => (hb2.block b (Nat.lt_trans hl NS.out)).trans (heap_old w _ b hl)
    have hX := Lib.hid (below_store3 (a := .int .i64 (vkN (T.extract m e))) (b := .string ((T.extract m e).extract 2 (e - m))) (c := .slice none 0 0) (show Below n w w2 from ⟨hb2.os, hb2.tape, hb2.output, hz2, fun b hl => hblk b (Nat.lt_of_lt_of_le hl H0.out.size)⟩) (g := w.heap.size) H0.out.size)
    have hY := Lib.hid (below_store3 (a := .int .i64 (vkN (T.extract m e))) (b := .string ((T.extract m e).extract 2 (e - m))) (c := .slice none 0 0) (show Below w.heap.size w w2 from ⟨hb2.os, hb2.tape, hb2.output, hz2, hblk⟩) (g := w.heap.size) (Nat.le_refl _))
    clear hb2 hblk
    go_wp2_with (go_at_call 133; refine (pitem_any _ (m : Int) en e _ _ ((H0.out.later hY.out).keep (Nat.le_refl _) (fun _ _ _ => rfl)) hE HL.out hve hT).mono ?_; rintro r w3 ⟨rfl, kv3, hP3, hB3⟩)
    go_end0
    exact ⟨rfl, kv3, by rw [HSZ.out]; exact hP3, Lib.hid ((show Below n w _ from ⟨hX.out.os, hX.out.tape, hX.out.output, hX.out.size, hX.out.block⟩).trans hB3.out)⟩
end
end Go.Proofs.Ytajdpchojimigaa
