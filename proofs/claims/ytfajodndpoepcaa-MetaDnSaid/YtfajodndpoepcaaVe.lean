/- The program's metacode of an expression: the walk. -/
import Derived.Test.YtfajodndpoepcaaVd
namespace Go.Proofs.Ytfajodndpoepcaa
open Go.RowKit TmM

theorem form_at {f : Fo} {n : Nat} {k : Int} {t : ByteArray} {c r : Fo} (h : formB 8 f = true) (hd : f.drop n = .cons k t c r) : 1 ≤ k ∧ k ≤ 8 ∧ formB 8 c = true := by
  rw [form_split 8 f n, Bool.and_eq_true] at h
  have h2 := h.2
  rw [hd] at h2
  simp only [formB, Bool.and_eq_true, decide_eq_true_eq] at h2
  exact ⟨(right_kind h2.1.1.1).1, h2.1.1.2, h2.1.2⟩

theorem kept_table {g gt : Nat} {v v' : Value} {w w' : World} {o : Obj} (hK : Kept g v v' w w') (h : w.heap[gt]? = some o) (hne : gt ≠ g) (hv : v.ownBlock ≠ some gt) : w'.heap[gt]? = some o ∧ v'.ownBlock ≠ some gt := by
  have hlt := (Array.getElem?_eq_some_iff.1 h).1
  refine ⟨(hK.block gt hlt hne hv).trans h, fun e => ?_⟩
  rcases hK.own gt e with h1 | h1
  · exact hv h1
  · omega
theorem table_cell {w : World} {gt : Nat} (h : w.heap[gt]? = some (.cells turnsL.toArray 45 (0, 0))) (j : Nat) {u : Value} (hu : turnsL[j]? = some u) : w.cell? ⟨gt, j, none⟩ = some u := by
  rw [cell_of_row w gt j _ _ _ h]; simpa using hu

set_option maxHeartbeats 12800000 in
set_option maxRecDepth 100000 in
theorem mc_n (N : Nat) (hN : N ≤ 1000000) : ∀ (f : Fo) (a : Option Addr) (cap : Nat) (w : World), f.count ≤ N → formB 8 f = true → Sl w.heap.size w a cap f →
    Calls Try.prog 25 #[.slice a f.len cap] w (OutF w (up f)) := by
  induction N with
  | zero =>
    intro f a cap w hc hf hs
    obtain rfl : f = .nil := by cases f with
      | nil => rfl
      | cons k t c r => simp [Fo.count] at hc
    go_enter Try.func25, Try.ntmps25
    go_wp2_with fail
    refine (turns_any _).mono ?_
    rintro e w2 ⟨rfl, hb2⟩
    unfold turnsL
    have s0 := fun (a : Addr) (w : World) => run_store Try.prog w a .nilFunc .plain rfl
    have sf := fun (n : Nat) (a : Addr) (w : World) => run_store Try.prog w a (.func (.func n) #[] #[]) .plain rfl
    obtain ⟨W1, hW1⟩ : ∃ W1, W1 = w.alloc (.cells #[.slice none 0 0] 43) := ⟨_, rfl⟩
    rw [← hW1] at hb2
    have hbx : Boxed W1 w.heap.size 43 (.slice none 0 0) := by rw [hW1]; exact Boxed.new _ _ _
    have hb1 : Below w.heap.size w W1 := by rw [hW1]; exact (Below.refl _ _).alloc (Nat.le_refl _) _
    have bx2 : Boxed w2 w.heap.size 43 (.slice none 0 0) := (hb2.block _ hbx.lt).trans hbx
    have c2 := (bx2.alloc (.cells turnsL.toArray 45)).cell
    have hb3 : Below w.heap.size w (w2.alloc (.cells turnsL.toArray 45)) := (hb1.trans (hb2.mono hb1.size)).alloc (hb1.trans (hb2.mono hb1.size)).size _
    have HB3 := Lib.hid hb3
    unfold turnsL at c2
    clear hW1 hb3
    go_wp2_with fail
    go_loopw [10] (fun i wr => i = .int .i64 0 ∧ wr = w2.alloc (.cells turnsL.toArray 45)) (fun _ _ => 0)
    case atStart => exact ⟨rfl, rfl⟩
    case round =>
      obtain ⟨rfl, rfl⟩ := hrel
      unfold turnsL
      go_wp2
      go_ret
      exact outF_of (Built.nil HB3.out.size) HB3.out
  | succ N ih =>
    intro f a cap w hc hf hs
    obtain ⟨b, o, hab, hbw, HCX⟩ := base_of hs
    have hcap := hs.cap
    unfold maxLen at hcap
    have hlen := Fo.len_le_count f
    have HAB := Lib.hid hab
    have HBW := Lib.hid hbw
    have HIH := Lib.hid (ih (by omega))
    have HC := Lib.hid hc
    have HF := Lib.hid hf
    have HTL := Lib.hid (fun n => up_take_len f n)
    clear ih hs hab hbw hf
    go_enter Try.func25, Try.ntmps25
    go_wp2_with fail
    refine (turns_any _).mono ?_
    rintro e w2 ⟨rfl, hb2⟩
    unfold turnsL
    have s0 := fun (a : Addr) (w : World) => run_store Try.prog w a .nilFunc .plain rfl
    have sf := fun (n : Nat) (a : Addr) (w : World) => run_store Try.prog w a (.func (.func n) #[] #[]) .plain rfl
    obtain ⟨W1, hW1⟩ : ∃ W1, W1 = w.alloc (.cells #[.slice none 0 0] 43) := ⟨_, rfl⟩
    rw [← hW1] at hb2
    have hbx : Boxed W1 w.heap.size 43 (.slice none 0 0) := by rw [hW1]; exact Boxed.new _ _ _
    have hb1 : Below w.heap.size w W1 := by rw [hW1]; exact (Below.refl _ _).alloc (Nat.le_refl _) _
    have bx2 : Boxed w2 w.heap.size 43 (.slice none 0 0) := (hb2.block _ hbx.lt).trans hbx
    obtain ⟨gt, hgt⟩ : ∃ gt, gt = w2.heap.size := ⟨_, rfl⟩
    have hgg : w.heap.size < gt := by rw [hgt]; exact bx2.lt
    obtain ⟨w3, hw3⟩ : ∃ w3, w3 = w2.alloc (.cells turnsL.toArray 45) := ⟨_, rfl⟩
    have HT0 : Hid (w3.heap[gt]? = some (.cells turnsL.toArray 45 (0, 0))) := Lib.hid (by rw [hw3, hgt]; exact heap_alloc_new w2 _)
    have HB3 : Hid (Below w.heap.size w w3) := Lib.hid (by rw [hw3]; exact (hb1.trans (hb2.mono hb1.size)).alloc (hb1.trans (hb2.mono hb1.size)).size _)
    have HWR : Hid (Wr w.heap.size w3 (.slice none 0 0) .nil) := Lib.hid ⟨by rw [hw3]; exact bx2.alloc _, Built.nil (by rw [hw3]; have := bx2.lt; simp; omega)⟩
    have HW3 := Lib.hid hw3
    have HGT := Lib.hid hgt
    clear hW1 hbx bx2 hb1 hb2 hgt hw3
    go_wp2_with fail
    rw [← HGT.out]
    go_loopw [10] (fun i wr => ∃ (v : Value) (k : Nat), i = .int .i64 k ∧ k ≤ f.len ∧ Hid (Wr w.heap.size wr v (up (f.take k))) ∧ Hid (v.ownBlock ≠ some gt) ∧ Hid (wr.heap[gt]? = some (.cells turnsL.toArray 45 (0, 0))) ∧ Below w.heap.size w wr) (fun i _ => f.len - (intOf i).toNat)
    case atStart =>
      have e3 := HW3.out
      unfold turnsL at e3
      rw [← e3]
      exact ⟨_, 0, rfl, Nat.zero_le _, by rw [Fo.take_zero]; exact HWR, Lib.hid (by simp [Value.ownBlock]), HT0, HB3.out⟩
    case round =>
      obtain ⟨v, k, rfl, hk, hwr, hvo, htb, hbl⟩ := hrel
      by_cases hkl : k < f.len
      · obtain rfl := HAB.out (by omega)
        have hb := HBW.out (by omega)
        obtain ⟨kd, t, c, hd⟩ := Fo.drop_at hkl
        obtain ⟨c0, c1, ac, capc, c2, hsc⟩ := HCX.out k kd t c _ hd
        have e0 := (hbl.cell (p := ⟨b, o + k * 3, none⟩) hb).trans c0
        have e1 := (hbl.cell (p := ⟨b, o + k * 3 + 1, none⟩) hb).trans c1
        have e2 := (hbl.cell (p := ⟨b, o + k * 3 + 2, none⟩) hb).trans c2
        have hck := Fo.count_kid hd
        have HFK := Lib.hid (form_at HF.out hd)
        have HNX := Lib.hid (up_next hd)
        obtain ⟨G, hG⟩ : ∃ G, G = up (f.take k) := ⟨_, rfl⟩
        have HGL := Lib.hid (show G.len ≤ 5000000 from by have := HTL.out k; rw [← hG] at this; omega)
        rw [← hG] at hwr HNX
        have hsc' := hsc.below hbl hbl.size
        have HUL := Lib.hid (show (up c).len ≤ 5000000 from by have h1 := Fo.len_le_count (up c); have h2 := count_up c; omega)
        clear c0 c1 c2 hG hd
        obtain ⟨W, hW⟩ : ∃ W, W = wr.alloc (.cells #[.int .i64 kd, .string t, .slice ac c.len capc] 35) := ⟨_, rfl⟩
        have hbrW : Below wr.heap.size wr W := by rw [hW]; exact (Below.refl _ _).alloc (Nat.le_refl _) _
        have hbrD : Below wr.heap.size wr W.drew := hbrW.drew
        have HBD := Lib.hid hbrD
        have HBLD := Lib.hid (hbl.trans (hbrD.mono hbl.size))
        have hbx : Box W wr.heap.size kd t ac c.len capc := by rw [hW]; exact Box.new _ _ _ _ _ _
        have HBX := Lib.hid (hbx.later ((Below.refl W.heap.size W).drew))
        have HWD := Lib.hid (hwr.out.later hbrD)
        have HSC := Lib.hid (hsc'.later hbrD)
        have HTD := Lib.hid ((hbrD.block gt (Array.getElem?_eq_some_iff.1 htb.out).1).trans htb.out)
        have HNE : Hid (wr.heap.size ≠ w.heap.size) := Lib.hid (by have := hwr.out.1.lt; omega)
        have HVN := Lib.hid hwr.out.own_ne
        have hgz : w.heap.size ≠ gt := by omega
        have HMC := Lib.hid (fun w' (h : Below W.drew.heap.size W.drew w') => HIH.out c ac capc w' (by omega) HFK.out.2.2 (HSC.out.later h))
        obtain ⟨kx0, kx1, kx2, kx3⟩ := HBX.out
        clear hsc hsc' hbrW hbrD hbx
        by_cases h1 : kd = 1
        · subst h1
          have ht := table_cell HTD.out 1 rfl
          go_wp2_with fail
          rw [← hW]
          clear hW
          go_region_held3 (fun w' => w'.cell? ⟨wr.heap.size, 0, none⟩ = some (.int .i64 1) ∧ w'.cell? ⟨wr.heap.size, 1, none⟩ = some (.string t) ∧ w'.cell? ⟨wr.heap.size, 2, none⟩ = some (.slice ac c.len capc) ∧ w'.cell? ⟨gt, 1, none⟩ = some (.func (.func 56) #[] #[]))
            (first | exact ⟨kx1, kx2, kx3, ht⟩ | exact ⟨K5.out.2.1, K5.out.2.2.1, K5.out.2.2.2, table_cell T5.out.1 1 rfl⟩ | go_keep)
            (first
              | (go_at_call 56; refine (wchar_any w.heap.size W.drew v G t ac c.len capc c HWD.out HGL.out).mono ?_; rintro e w5 ⟨rfl, v5, hW5, hK5⟩; have K5 := Lib.hid (HBX.out.keptW hK5 HNE.out HVN.out); have T5 := Lib.hid (kept_table hK5 HTD.out (fun e => hgz e.symm) hvo.out))
              | fail)
          have hbn := HBLD.out.trans hK5.below
          rw [← HNX.out] at hW5
          go_wp2
          go_roundw
          case rel => exact ⟨v5, k + 1, by go_num, by omega, hW5, Lib.hid T5.out.2, Lib.hid T5.out.1, hbn⟩
          case measure => simp [intOf]; omega
        by_cases h2 : kd = 2
        · subst h2
          have ht := table_cell HTD.out 2 rfl
          go_wp2_with fail
          rw [← hW]
          clear hW
          go_region_held3 (fun w' => w'.cell? ⟨wr.heap.size, 0, none⟩ = some (.int .i64 2) ∧ w'.cell? ⟨wr.heap.size, 1, none⟩ = some (.string t) ∧ w'.cell? ⟨wr.heap.size, 2, none⟩ = some (.slice ac c.len capc) ∧ w'.cell? ⟨gt, 2, none⟩ = some (.func (.func 57) #[] #[]))
            (first | exact ⟨kx1, kx2, kx3, ht⟩ | exact ⟨K5.out.2.1, K5.out.2.2.1, K5.out.2.2.2, table_cell T5.out.1 2 rfl⟩ | go_keep)
            (first
              | (go_at_call 57; refine (wsymbol_any w.heap.size W.drew v G 2 t ac c.len capc HWD.out HGL.out).mono ?_; rintro e w5 ⟨rfl, v5, hW5, hK5⟩; have K5 := Lib.hid (HBX.out.keptW hK5 HNE.out HVN.out); have T5 := Lib.hid (kept_table hK5 HTD.out (fun e => hgz e.symm) hvo.out))
              | fail)
          have hbn := HBLD.out.trans hK5.below
          rw [← up1_other (t := t) c (k := 2) (by simp) (by simp) (by simp) (by simp) (by simp) (by simp), ← HNX.out] at hW5
          go_wp2
          go_roundw
          case rel => exact ⟨v5, k + 1, by go_num, by omega, hW5, Lib.hid T5.out.2, Lib.hid T5.out.1, hbn⟩
          case measure => simp [intOf]; omega
        by_cases h3 : kd = 3
        · subst h3
          have ht := table_cell HTD.out 3 rfl
          go_wp2_with fail
          rw [← hW]
          clear hW
          go_region_held3 (fun w' => w'.cell? ⟨wr.heap.size, 0, none⟩ = some (.int .i64 3) ∧ w'.cell? ⟨wr.heap.size, 1, none⟩ = some (.string t) ∧ w'.cell? ⟨wr.heap.size, 2, none⟩ = some (.slice ac c.len capc) ∧ w'.cell? ⟨gt, 3, none⟩ = some (.func (.func 57) #[] #[]))
            (first | exact ⟨kx1, kx2, kx3, ht⟩ | exact ⟨K5.out.2.1, K5.out.2.2.1, K5.out.2.2.2, table_cell T5.out.1 3 rfl⟩ | go_keep)
            (first
              | (go_at_call 57; refine (wsymbol_any w.heap.size W.drew v G 3 t ac c.len capc HWD.out HGL.out).mono ?_; rintro e w5 ⟨rfl, v5, hW5, hK5⟩; have K5 := Lib.hid (HBX.out.keptW hK5 HNE.out HVN.out); have T5 := Lib.hid (kept_table hK5 HTD.out (fun e => hgz e.symm) hvo.out))
              | fail)
          have hbn := HBLD.out.trans hK5.below
          rw [← up1_other (t := t) c (k := 3) (by simp) (by simp) (by simp) (by simp) (by simp) (by simp), ← HNX.out] at hW5
          go_wp2
          go_roundw
          case rel => exact ⟨v5, k + 1, by go_num, by omega, hW5, Lib.hid T5.out.2, Lib.hid T5.out.1, hbn⟩
          case measure => simp [intOf]; omega
        by_cases h4 : kd = 4
        · subst h4
          have ht := table_cell HTD.out 4 rfl
          go_wp2_with fail
          rw [← hW]
          clear hW
          go_region_held3 (fun w' => w'.cell? ⟨wr.heap.size, 0, none⟩ = some (.int .i64 4) ∧ w'.cell? ⟨wr.heap.size, 1, none⟩ = some (.string t) ∧ w'.cell? ⟨wr.heap.size, 2, none⟩ = some (.slice ac c.len capc) ∧ w'.cell? ⟨gt, 4, none⟩ = some (.func (.func 58) #[] #[]))
            (first | exact ⟨kx1, kx2, kx3, ht⟩ | exact ⟨K5.out.2.1, K5.out.2.2.1, K5.out.2.2.2, table_cell T5.out.1 4 rfl⟩ | go_keep)
            (first
              | (go_at_call 58; refine (wgroup_any w.heap.size W.drew v G t ac capc c HWD.out HGL.out HMC.out).mono ?_; rintro e w5 ⟨rfl, v5, hW5, hK5⟩; have K5 := Lib.hid (HBX.out.keptW hK5 HNE.out HVN.out); have T5 := Lib.hid (kept_table hK5 HTD.out (fun e => hgz e.symm) hvo.out))
              | fail)
          have hbn := HBLD.out.trans hK5.below
          rw [← HNX.out] at hW5
          go_wp2
          go_roundw
          case rel => exact ⟨v5, k + 1, by go_num, by omega, hW5, Lib.hid T5.out.2, Lib.hid T5.out.1, hbn⟩
          case measure => simp [intOf]; omega
        by_cases h5 : kd = 5
        · subst h5
          have ht := table_cell HTD.out 5 rfl
          go_wp2_with fail
          rw [← hW]
          clear hW
          go_region_held3 (fun w' => w'.cell? ⟨wr.heap.size, 0, none⟩ = some (.int .i64 5) ∧ w'.cell? ⟨wr.heap.size, 1, none⟩ = some (.string t) ∧ w'.cell? ⟨wr.heap.size, 2, none⟩ = some (.slice ac c.len capc) ∧ w'.cell? ⟨gt, 5, none⟩ = some (.func (.func 59) #[] #[]))
            (first | exact ⟨kx1, kx2, kx3, ht⟩ | exact ⟨K5.out.2.1, K5.out.2.2.1, K5.out.2.2.2, table_cell T5.out.1 5 rfl⟩ | go_keep)
            (first
              | (go_at_call 59; refine (wvar_s w.heap.size W.drew v G t ac c.len capc c HWD.out HGL.out).mono ?_; rintro e w5 ⟨rfl, v5, hW5, hK5⟩; have K5 := Lib.hid (HBX.out.keptW hK5 HNE.out HVN.out); have T5 := Lib.hid (kept_table hK5 HTD.out (fun e => hgz e.symm) hvo.out))
              | fail)
          have hbn := HBLD.out.trans hK5.below
          rw [← HNX.out] at hW5
          go_wp2
          go_roundw
          case rel => exact ⟨v5, k + 1, by go_num, by omega, hW5, Lib.hid T5.out.2, Lib.hid T5.out.1, hbn⟩
          case measure => simp [intOf]; omega
        by_cases h6 : kd = 6
        · subst h6
          have ht := table_cell HTD.out 6 rfl
          go_wp2_with fail
          rw [← hW]
          clear hW
          go_region_held3 (fun w' => w'.cell? ⟨wr.heap.size, 0, none⟩ = some (.int .i64 6) ∧ w'.cell? ⟨wr.heap.size, 1, none⟩ = some (.string t) ∧ w'.cell? ⟨wr.heap.size, 2, none⟩ = some (.slice ac c.len capc) ∧ w'.cell? ⟨gt, 6, none⟩ = some (.func (.func 59) #[] #[]))
            (first | exact ⟨kx1, kx2, kx3, ht⟩ | exact ⟨K5.out.2.1, K5.out.2.2.1, K5.out.2.2.2, table_cell T5.out.1 6 rfl⟩ | go_keep)
            (first
              | (go_at_call 59; refine (wvar_t w.heap.size W.drew v G t ac c.len capc c HWD.out HGL.out).mono ?_; rintro e w5 ⟨rfl, v5, hW5, hK5⟩; have K5 := Lib.hid (HBX.out.keptW hK5 HNE.out HVN.out); have T5 := Lib.hid (kept_table hK5 HTD.out (fun e => hgz e.symm) hvo.out))
              | fail)
          have hbn := HBLD.out.trans hK5.below
          rw [← HNX.out] at hW5
          go_wp2
          go_roundw
          case rel => exact ⟨v5, k + 1, by go_num, by omega, hW5, Lib.hid T5.out.2, Lib.hid T5.out.1, hbn⟩
          case measure => simp [intOf]; omega
        by_cases h7 : kd = 7
        · subst h7
          have ht := table_cell HTD.out 7 rfl
          go_wp2_with fail
          rw [← hW]
          clear hW
          go_region_held3 (fun w' => w'.cell? ⟨wr.heap.size, 0, none⟩ = some (.int .i64 7) ∧ w'.cell? ⟨wr.heap.size, 1, none⟩ = some (.string t) ∧ w'.cell? ⟨wr.heap.size, 2, none⟩ = some (.slice ac c.len capc) ∧ w'.cell? ⟨gt, 7, none⟩ = some (.func (.func 59) #[] #[]))
            (first | exact ⟨kx1, kx2, kx3, ht⟩ | exact ⟨K5.out.2.1, K5.out.2.2.1, K5.out.2.2.2, table_cell T5.out.1 7 rfl⟩ | go_keep)
            (first
              | (go_at_call 59; refine (wvar_e w.heap.size W.drew v G t ac c.len capc c HWD.out HGL.out).mono ?_; rintro e w5 ⟨rfl, v5, hW5, hK5⟩; have K5 := Lib.hid (HBX.out.keptW hK5 HNE.out HVN.out); have T5 := Lib.hid (kept_table hK5 HTD.out (fun e => hgz e.symm) hvo.out))
              | fail)
          have hbn := HBLD.out.trans hK5.below
          rw [← HNX.out] at hW5
          go_wp2
          go_roundw
          case rel => exact ⟨v5, k + 1, by go_num, by omega, hW5, Lib.hid T5.out.2, Lib.hid T5.out.1, hbn⟩
          case measure => simp [intOf]; omega
        by_cases h8 : kd = 8
        · subst h8
          have ht := table_cell HTD.out 8 rfl
          go_wp2_with fail
          rw [← hW]
          clear hW
          go_region_held3 (fun w' => w'.cell? ⟨wr.heap.size, 0, none⟩ = some (.int .i64 8) ∧ w'.cell? ⟨wr.heap.size, 1, none⟩ = some (.string t) ∧ w'.cell? ⟨wr.heap.size, 2, none⟩ = some (.slice ac c.len capc) ∧ w'.cell? ⟨gt, 8, none⟩ = some (.func (.func 60) #[] #[]))
            (first | exact ⟨kx1, kx2, kx3, ht⟩ | exact ⟨K5.out.2.1, K5.out.2.2.1, K5.out.2.2.2, table_cell T5.out.1 8 rfl⟩ | go_keep)
            (first
              | (go_at_call 60; refine (wcall_any w.heap.size W.drew v G t ac capc c HWD.out HGL.out HUL.out HMC.out).mono ?_; rintro e w5 ⟨rfl, v5, hW5, hK5⟩; have K5 := Lib.hid (HBX.out.keptW hK5 HNE.out HVN.out); have T5 := Lib.hid (kept_table hK5 HTD.out (fun e => hgz e.symm) hvo.out))
              | fail)
          have hbn := HBLD.out.trans hK5.below
          rw [← HNX.out] at hW5
          go_wp2
          go_roundw
          case rel => exact ⟨v5, k + 1, by go_num, by omega, hW5, Lib.hid T5.out.2, Lib.hid T5.out.1, hbn⟩
          case measure => simp [intOf]; omega
        exfalso
        have h9 := HFK.out
        omega
      · obtain rfl : k = f.len := by omega
        rw [Fo.take_len] at hwr
        have hz := hwr.out.1.cell
        have HBLR := Lib.hid hbl
        obtain ⟨a6, c6, hv6, hs6⟩ := hwr.out.2.sls
        have HS6 := Lib.hid hs6
        subst hv6
        clear hs6
        obtain ⟨m6, hm6⟩ : ∃ m, m = (up f).len := ⟨_, rfl⟩
        rw [← hm6] at hz
        have HM6 := Lib.hid hm6
        clear hm6
        go_wp2
        go_ret
        exact ⟨a6, c6, by rw [← HM6.out]; rfl, Lib.hid (HS6.out.mono (fun b hb => ⟨by omega, hb.2⟩) (fun _ _ => rfl)), HBLR.out⟩
end Go.Proofs.Ytfajodndpoepcaa
