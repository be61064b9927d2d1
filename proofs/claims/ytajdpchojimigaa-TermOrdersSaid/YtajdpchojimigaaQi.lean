/- A quotation without marks to escape: the program. -/
import Derived.Test.YtajdpchojimigaaQd
namespace Go.Proofs.Ytajdpchojimigaa
open Go.RowKit TmM

theorem Try.infoByte : (Try.prog.info? 5).map (fun i => (i.zero, i.size, i.bytes)) = some (some (.int .u8 0), 1, 1) := by kernel_rfl
def bytesV (l : List UInt8) : List Value := l.map (fun b => Value.int .u8 (b.toNat : Int))
def sliceLen : Value → Nat
  | .slice _ n _ => n
  | _ => 0
theorem own_len {w : World} {B : Nat} {v : Value} {m : Nat} {xs : List Value} (h : w.ownsRow B 5 1 v m xs) : sliceLen v = m := by
  rcases h.2 with ⟨rfl, rfl⟩ | ⟨g, cap, cur, rfl, _⟩ <;> rfl
theorem own_bytes {w : World} {B g cap : Nat} {l : List UInt8} (h : w.ownsRow B 5 1 (.slice (some ⟨g, 0, none⟩) l.length cap) l.length (bytesV l)) :
    (convert 71 9 (.slice (some ⟨g, 0, none⟩) l.length cap)).run Try.prog w = .ok (.string ⟨l.toArray⟩) w :=
  run_convert_bytes_back w 71 9 5 ⟨g, 0, none⟩ cap l Try.underlying71 Try.underlying5 Try.underlying9 (fun j hj => by
    rw [add_cell, Nat.zero_add, h.cellAt j (by omega), bytesV, List.getElem?_map, List.getElem?_eq_getElem hj]; rfl)

theorem text_of_list {s : ByteArray} {l : List UInt8} (h : s.data.toList = l) : (⟨l.toArray⟩ : ByteArray) = s := by
  subst h; rfl
theorem ext_take (T : ByteArray) (a L : Nat) : (T.extract a (a + L)).data.toList = (T.data.toList.drop a).take L := by
  rw [Lib.extract_data, Nat.add_sub_cancel_left]
theorem bytes_next {T : ByteArray} {a k i : Nat} (hi : i = a + k) (h : i < T.size) : bytesV ((T.data.toList.drop a).take (k + 1)) = bytesV ((T.data.toList.drop a).take k) ++ [.int .u8 (T[i].toNat : Int)] := by
  subst hi
  have h' : a + k < T.data.toList.length := by simpa using h
  rw [List.take_add_one, List.getElem?_drop, List.getElem?_eq_getElem h']
  simp [bytesV]
  rfl
theorem heap_old (w : World) (o : Obj) (b : Nat) (h : b < w.heap.size) : (w.alloc o).heap[b]? = w.heap[b]? := heap_alloc_old w o h

section
variable {n p : Nat} {T : ByteArray} {bad : Int} {vo : Value} {E : List En}

/-- the parser's offset is set again. -/
theorem set_again {w wr : World} {i : Int} (h : PSt n w p T i vo bad E) {x y : Int} (hb : Below w.heap.size (w.setCell ⟨p, 1, none⟩ (.int .i64 x)) wr) : Below w.heap.size (w.setCell ⟨p, 1, none⟩ (.int .i64 y)) (wr.setCell ⟨p, 1, none⟩ (.int .i64 y)) := by
  refine ⟨hb.os, hb.tape, hb.output, by have := hb.size; simpa [World.setCell] using this, fun b hlt => ?_⟩
  by_cases e : b = p
  · subst e
    have h1 := (h.setAt x).cell
    rw [← hb.block b hlt] at h1
    rw [heap_setCell_same wr b 1 _ _ _ h1, (h.setAt y).cell]
    rfl
  · rw [Below.heap_setCell _ _ _ _ e, Below.heap_setCell _ _ _ _ e, hb.block b hlt, Below.heap_setCell _ _ _ _ e]

set_option maxHeartbeats 6400000 in
set_option maxRecDepth 100000 in
theorem pquote_plain (w : World) (m L : Nat) (h : PSt n w p T m vo bad E) (hT : T.size ≤ 40000) (hL : 0 < L) (hend : m + 1 + L < T.size)
    (hplain : ∀ j (hj : j < T.size), m + 1 ≤ j → j < m + 1 + L → T[j] ≠ T[m] ∧ T[j] ≠ 92 ∧ isN 16 T[j].toNat = true) (hclose : T[m + 1 + L] = T[m]) :
    Calls Try.prog 131 #[.pointer (some ⟨p, 0, none⟩)] w (fun r w' => r = .returned (.tuple #[.string (T.extract (m + 1) (m + 1 + L)), .bool true]) ∧ Hid (PSt n w' p T (m + L + 2 : Nat) vo bad E) ∧ Hid (Below n w w')) := by
  obtain ⟨i0, hi, hz0, hz1, hz2⟩ := info_parts Try.infoByte
  have c0 := h.c0
  have c1 := h.c1
  have f1 := h.fz 1
  have hm : m < T.size := by omega
  have hplt := h.lt
  have H0 := Lib.hid h
  have HP := Lib.hid hplain
  have HC := Lib.hid hclose
  clear h hplain hclose
  go_enter Try.func131, Try.ntmps131
  go_wp2
  go_quiet (fail)
  go_wp2
  go_loopw [4] (fun v wr => ∃ k : Nat, k ≤ L ∧ Hid (wr.ownsRow w.heap.size 5 1 v k (bytesV ((T.data.toList.drop (m + 1)).take k))) ∧ Hid (Below w.heap.size (w.setCell ⟨p, 1, none⟩ (.int .i64 ((m + 1 + k : Nat) : Int))) wr)) (fun v _ => L + 1 - sliceLen v)
  case atStart =>
    refine ⟨0, Nat.zero_le _, Lib.hid ⟨rfl, .inl ⟨rfl, rfl⟩⟩, Lib.hid ?_⟩
    rw [show ((m + 1 + 0 : Nat) : Int) = (m : Int) + 1 by omega]
    exact ⟨rfl, rfl, rfl, Nat.le_refl _, fun _ _ => rfl⟩
  case round =>
    obtain ⟨k, hk, hrow, hbw⟩ := hrel
    have HR := Lib.hid (own_len hrow.out)
    have hst := (H0.out.setAt ((m + 1 + k : Nat) : Int)).later (hbw.out.mono (by simp [World.setCell]))
    have d0 := hst.c0
    have d1 := hst.c1
    have g1 := hst.fz 1
    have HS := Lib.hid hst
    clear c0 c1 f1 hst
    obtain ⟨i, hi0⟩ : ∃ i, i = m + 1 + k := ⟨_, rfl⟩
    rw [← hi0] at d1
    have hi1 : i < T.size := by omega
    have hi2 : (i : Int) < (T.size : Int) := by omega
    have HI := Lib.hid hi0
    by_cases hkL : k = L
    · have hcl : T[i] = T[m] := by have := HC.out; subst hi0; subst hkL; exact this
      have e1 : ((T[i].toNat : Int) == (T[m].toNat : Int)) = true := by rw [hcl]; simp
      obtain rfl := hkL
      obtain ⟨g, cap, hv⟩ : ∃ g cap, u4 = .slice (some ⟨g, 0, none⟩) k cap := by
        rcases hrow.out.2 with ⟨_, h0⟩ | ⟨g, cap, cur, h, _⟩
        · omega
        · exact ⟨g, cap, h⟩
      have hlen : ((T.data.toList.drop (m + 1)).take k).length = k := by simp; have : T.data.size = T.size := rfl; omega
      have hne : u4.ownBlock ≠ some p := fun e => by have := (hrow.out.lt p e).1; omega
      have hcv : ∀ q, (convert 71 9 u4).run Try.prog ((wr.drewN q).setCell ⟨p, 1, none⟩ (.int .i64 ((i : Int) + 1))) = .ok (.string (T.extract (m + 1) (m + 1 + k))) ((wr.drewN q).setCell ⟨p, 1, none⟩ (.int .i64 ((i : Int) + 1))) := fun q => by
        have ho := ownsRow_setCell_other (show (wr.drewN q).ownsRow w.heap.size 5 1 u4 k _ from hrow.out) (a := ⟨p, 1, none⟩) hne (.int .i64 ((i : Int) + 1))
        rw [hv] at ho ⊢
        have := own_bytes (l := (T.data.toList.drop (m + 1)).take k) (by rw [hlen]; exact ho)
        rw [hlen, text_of_list (ext_take T (m + 1) k)] at this
        exact this
      rw [hv] at hcv
      have HSA := Lib.hid (set_again (y := (i : Int) + 1) H0.out hbw.out)
      have HI2 := Lib.hid (show ((m + k + 2 : Nat) : Int) = (i : Int) + 1 from by omega)
      subst hv
      clear hcl hi0 hne hlen
      go_wp2
      go_quiet (fail)
      go_wp2
      go_quiet (fail)
      go_wp2
      go_ret2
      refine ⟨rfl, ?_, ?_⟩
      · rw [HI2.out]
        exact Lib.hid ((H0.out.setAt ((i : Int) + 1)).keep (by have := HSA.out.size; exact this) (fun b _ hb => HSA.out.block b (by simpa [World.setCell] using hb)))
      · have hB := ((Below.refl n w).setCell (p := ⟨p, 1, none⟩) H0.out.le (.int .i64 ((i : Int) + 1))).trans (HSA.out.mono H0.out.size)
        exact Lib.hid ⟨hB.os, hB.tape, hB.output, hB.size, hB.block⟩
    · have hpl := HP.out i hi1 (by omega) (by omega)
      have e1 : ((T[i].toNat : Int) == (T[m].toNat : Int)) = false := by
        rw [beq_eq_false_iff_ne]; intro e; exact hpl.1 (UInt8.toNat_inj.1 (by omega))
      have e2 : ((T[i].toNat : Int) == 92) = false := by
        have h9 : (92 : UInt8).toNat = 92 := rfl
        rw [beq_eq_false_iff_ne]; intro e; exact hpl.2.1 (UInt8.toNat_inj.1 (by omega))
      have IS0 := fun w => is_any T[i].toNat 16 w T[i].toNat_lt (by simp)
      rw [hpl.2.2] at IS0
      have IS := Lib.hid IS0
      have hszr : w.heap.size ≤ wr.heap.size := by have := hbw.out.size; simpa [World.setCell] using this
      have HOW := Lib.hid (fun q => (show (wr.drewN q).ownsRow w.heap.size 5 1 u4 k _ from hrow.out))
      have HNX := Lib.hid (bytes_next hi0 hi1)
      have HI2 := Lib.hid (show ((m + 1 + (k + 1) : Nat) : Int) = (i : Int) + 1 from by omega)
      have HD := Lib.hid hbw.out
      have HLT := Lib.hid hrow.out.lt
      clear IS0 hpl hi0
      go_wp2
      go_quiet (fail)
      go_wp2
      go_quiet (fail)
      go_wp2_with (first
        | (at_builtin; go_loud (refine wpList_append_own_at _ rfl (.tmp 88) (.tmp 90) 71 rfl w.heap.size 5 i0 (.int .u8 0) 1 1 Try.underlying71 hi hz0 hz1 hz2 rfl (by decide) _ _ _ rfl ((HOW.out _).alloc _) ⟨wr.heap.size, 0, none⟩ 1 1 [.int .u8 (T[i].toNat : Int)] rfl rfl (cell_one_new _ _ _) (by intro u hu; simp at hu; subst hu; rfl) (by unfold maxLen; omega) (by omega) (by simp; omega) ?_; intro v1 w1 hown1 hgrow1 _ _; have bp := (hgrow1.block p (by simp; omega) (fun e => by have := (HLT.out p e.symm).1; omega)).trans (heap_old _ _ p (by simp; omega)); have x1 := (World.cell?_of_block (a := ⟨p, 1, none⟩) bp).trans d1; have y1 := (World.frozen?_of_block (a := ⟨p, 1, none⟩) bp).trans g1; have HO1 := Lib.hid hown1; have HG1 := Lib.hid hgrow1; clear hown1 hgrow1 bp))
        | (go_at_call 107; refine (IS.out _).mono ?_; rintro e w' ⟨rfl, rfl⟩))
      go_roundw
      case rel =>
        have hne : v1.ownBlock ≠ some p := fun e => by have := (HO1.out.lt p e).1; omega
        refine ⟨k + 1, by omega, Lib.hid ?_, Lib.hid ?_⟩
        · rw [HNX.out]
          exact ownsRow_setCell_other HO1.out hne _
        · rw [HI2.out]
          have hG := HG1.out
          have hz := hG.size
          simp only [World.size_alloc, World.heap_drewN] at hz
          refine set_again (x := ((m + 1 + k : Nat) : Int)) H0.out ⟨hG.os.trans HD.out.os, hG.tape.trans HD.out.tape, hG.output.trans HD.out.output, Nat.le_trans HD.out.size (by omega), fun b hb => ?_⟩
          exact (hG.block b (by simp; omega) (fun e => by have := (HLT.out b e.symm).1; omega)).trans ((heap_old _ _ b (by simp; omega)).trans (HD.out.block b hb))
      case measure =>
        have h1 := own_len HO1.out
        have h2 := HR.out
        rw [h1, h2]
        omega
end
end Go.Proofs.Ytajdpchojimigaa
