/- The text of an expression without words and escapes: the program's. -/
import Derived.Test.YtajdpchojimigaaTw
import Derived.Deep.LoopGhost
namespace Go.Proofs.Ytajdpchojimigaa
open Go.RowKit TmM

theorem itemsW_close {m : Bool} {g : Fo} (h : g = .nil ∨ ∃ k t c r, g = .cons k t c r ∧ k ≠ 1) : itemsW m true g = [39] ++ itemsW true false g := by
  rcases h with rfl | ⟨k, t, c, r, rfl, hk⟩
  · simp [itemsW]
  · simp [itemsW, hk]

theorem head_text {t : ByteArray} (h : 0 < t.size) : t.data.toList.headD 0 = t[0] := by
  have hl : t.data.toList = t[0] :: t.data.toList.tail := by
    have h0 : 0 < t.data.toList.length := by simpa using h
    cases hd : t.data.toList with
    | nil => rw [hd] at h0; simp at h0
    | cons x r =>
      have : t[0] = x := by
        have h1 : t.data.toList[0]'h0 = x := by simp [hd]
        rw [← h1]; simp; rfl
      rw [this]; rfl
  rw [hl]; rfl

set_option maxHeartbeats 25600000 in
set_option maxRecDepth 100000 in
theorem items_step (N : Nat) (hN : ∀ M, M < N → ItemsOk M) : ItemsOk N := by
  intro f a cap B b l w hcf hcm hok hs h hl
  obtain ⟨L, hL⟩ : ∃ L, L = l ++ itemsW false false f := ⟨_, rfl⟩
  rw [← hL] at hl ⊢
  have hfl : f.len ≤ 1000000 := by have := f.len_le_count; omega
  obtain ⟨b0, o0, hab, hb0, hcells⟩ := base_of hs
  have hbl := h.lt
  have H := Lib.hid h
  have HOK := Lib.hid hok
  have HL0 := Lib.hid hL
  have HCF := Lib.hid hcf
  have HCM := Lib.hid hcm
  clear hL h hok hs hcf hcm
  go_enter Try.func77, Try.ntmps77
  go_wp2_with fail
  go_loopg [4] f.len (fun g v wr => ∃ (i : Nat) (lc : List UInt8), i + g = f.len ∧ v = .int .i64 (i : Int) ∧ Hid (Bld B b lc wr) ∧ Hid (Below B w wr) ∧ Hid (lc ++ itemsW (decide (0 < i)) false (f.drop i) = L))
  case atStart => exact ⟨0, l, by omega, rfl, H, Lib.hid (Below.refl _ _), Lib.hid (by rw [Fo.drop_zero]; exact HL0.out.symm)⟩
  case round =>
    obtain ⟨i, lc, hig, rfl, hB, hW, hR⟩ := hrel
    by_cases hi : i = f.len
    · have hlt : ¬ (i : Int) < (f.len : Int) := by omega
      have HE := Lib.hid (show lc = L from by have := hR.out; rw [hi, Fo.drop_len] at this; simpa [itemsW] using this)
      clear hi
      go_wp2
      go_end0
      exact ⟨rfl, by rw [← HE.out]; exact hB.out, hW.out⟩
    · have hlt : (i : Int) < (f.len : Int) := by omega
      obtain ⟨k, t, c, hd⟩ := Fo.drop_at (n := i) (f := f) (by omega)
      have hcn : c.count < N := Nat.lt_of_lt_of_le (Fo.count_kid hd) HCF.out
      have hcc : c.count ≤ 1000000 := by have := HCM.out; have := Fo.count_kid hd; omega
      obtain ⟨c0, c1, ac, cc, c2, hsc⟩ := hcells.out i k t c _ hd
      have ha := hab (by omega)
      subst ha
      have hb0' := hb0 (by omega)
      have d0 := (hW.out.cell (p := ⟨b0, o0 + i * 3, none⟩) hb0').trans c0
      have d1 := (hW.out.cell (p := ⟨b0, o0 + i * 3 + 1, none⟩) hb0').trans c1
      have d2 := (hW.out.cell (p := ⟨b0, o0 + i * 3 + 2, none⟩) hb0').trans c2
      have hk' := HOK.out.drop (n := i)
      rw [hd] at hk'
      obtain ⟨ht, hk2, hk1, hokc, _⟩ := hk'
      have hr := hR.out
      rw [hd, itemsW] at hr
      by_cases h1 : k = 1
      · obtain ⟨ht0, hpl⟩ := hk1 h1
        have hhd : t.data.toList.headD 0 = t[0] := head_text ht0
        have e1 : (k != 1) = false := by simpa using h1
        rw [if_pos h1] at hr
        simp only [Bool.false_eq_true, if_false] at hr
        by_cases hi0 : 0 < i
        · skip
          have hip : (0 : Int) < (i : Int) := by omega
          rw [if_pos (show decide (0 < i) = true by simpa using hi0)] at hr
          have HR2 := Lib.hid (show (lc ++ ([32] : List UInt8)) ++ ([39] : List UInt8) ++ [t[0]] ++ itemsW true true (f.drop (i + 1)) = L from by rw [← hr, hhd]; simp)
          have hlen := congrArg List.length HR2.out
          simp only [List.length_append, List.length_cons, List.length_nil] at hlen
          have P1 := Lib.hid (pbyte_n B b lc 32 32 wr rfl hB.out (by omega) (by have := hW.out.size; omega))
          have P2 := Lib.hid (fun w h hB => pbyte_n B b (lc ++ [32]) 39 39 w rfl h (by first | omega | (simp; omega)) hB)
          have PC := Lib.hid (fun w h => pchar_plain B b ((lc ++ [32]) ++ [39]) t[0] w h (by first | omega | (simp; omega)) hpl)
          clear hr hlen hi0 hk1 hk2 hd hsc hi h1 c0 c1 c2 hcc hcn ht hokc hhd hpl
          go_wp2_with (first
            | (go_at_call 100; refine (PC.out _ hb3.out).mono ?_; rintro r w4 ⟨rfl, hb4, hbw4⟩; have HB4 := Lib.hid hb4; have HW4 := Lib.hid ((hW.out.trans hbw2.out).trans (hbw3.out.trans hbw4)); clear hb4 hbw4)
            | (go_at_call 98; refine (P2.out _ hb2.out (by have h1 := hW.out.size; have h2 := hbw2.out.size; omega)).mono ?_; rintro r w3 ⟨rfl, hb3, hbw3, _⟩; have y0 := (hbw3.out.cell (p := ⟨b0, o0 + i * 3, none⟩) hb0').trans z0; have y1 := (hbw3.out.cell (p := ⟨b0, o0 + i * 3 + 1, none⟩) hb0').trans z1)
            | (go_at_call 98; refine P1.out.mono ?_; rintro r w2 ⟨rfl, hb2, hbw2, _⟩; have z0 := (hbw2.out.cell (p := ⟨b0, o0 + i * 3, none⟩) hb0').trans d0; have z1 := (hbw2.out.cell (p := ⟨b0, o0 + i * 3 + 1, none⟩) hb0').trans d1)
            | fail)
          go_loopg [4] gk (fun g v wr => ∃ (j : Nat) (lc : List UInt8), j + g = f.len ∧ i ≤ j ∧ j < f.len ∧ v = .int .i64 (j : Int) ∧ Hid (Bld B b lc wr) ∧ Hid (Below B w wr) ∧ Hid (lc ++ itemsW true true (f.drop (j + 1)) = L))
          case atStart => exact ⟨i, _, by omega, Nat.le_refl _, by omega, rfl, HB4, HW4, HR2⟩
          case round =>
            obtain ⟨j, lc2, hjg, hij, hjl, rfl, hB5, hW5, hR5⟩ := hrel
            have hwr : IntKind.i64.wrap ((j : Int) + 1) = (j : Int) + 1 := IntWalk.i64_in _ (by omega)
            have hlen5 := congrArg List.length hR5.out
            rw [List.length_append] at hlen5
            have P3 := Lib.hid (pbyte_n B b lc2 39 39 wr rfl hB5.out (by omega) (by have := hW5.out.size; omega))
            by_cases hj : j + 1 = f.len
            · have hlt2 : ¬ (j : Int) + 1 < (f.len : Int) := by omega
              have HR6 := Lib.hid (show lc2 ++ [39] ++ itemsW true false (f.drop (j + 1)) = L from by rw [← hR5.out, itemsW_close (.inl (by rw [hj, Fo.drop_len]))]; simp)
              clear hlen5
              go_wp2_with (first
                | (go_at_call 98; refine P3.out.mono ?_; rintro r w6 ⟨rfl, hb6, hbw6, _⟩)
                | fail)
              go_roundg (f.len - (j + 1))
              case measure => omega
              case rel => exact ⟨j + 1, _, by omega, by go_num, hb6, Lib.hid (hW5.out.trans hbw6.out), Lib.hid (by rw [show decide (0 < j + 1) = true by simp]; exact HR6.out)⟩
            · have hlt2 : (j : Int) + 1 < (f.len : Int) := by omega
              obtain ⟨k', t', c', hd'⟩ := Fo.drop_at (n := j + 1) (f := f) (by omega)
              obtain ⟨c0', c1', ac', cc', c2', hsc'⟩ := hcells.out (j + 1) k' t' c' _ hd'
              have x0 := (hW5.out.cell (p := ⟨b0, o0 + (j + 1) * 3, none⟩) hb0').trans c0'
              have x1 := (hW5.out.cell (p := ⟨b0, o0 + (j + 1) * 3 + 1, none⟩) hb0').trans c1'
              by_cases hk1 : k' = 1
              · have e1' : (k' == 1) = true := by simpa using hk1
                have hk' := HOK.out.drop (n := j + 1)
                rw [hd'] at hk'
                obtain ⟨ht0', hpl'⟩ := hk'.2.2.1 hk1
                have HR6 := Lib.hid (show lc2 ++ [t'[0]] ++ itemsW true true (f.drop (j + 1 + 1)) = L from by rw [← hR5.out, hd', itemsW, if_pos hk1, head_text ht0']; simp)
                have PC := Lib.hid (fun w h => pchar_plain B b lc2 t'[0] w h (by omega) hpl')
                clear hlen5 hk1 hd' c0' c1' c2' hsc' hk' hpl' P3 hj
                go_wp2_with (first
                  | (go_at_call 100; refine (PC.out _ hB5.out).mono ?_; rintro r w6 ⟨rfl, hb6, hbw6⟩; have HB6 := Lib.hid hb6; have HW6 := Lib.hid (hW5.out.trans hbw6); clear hb6 hbw6)
                  | fail)
                go_roundg (gk - 1)
                case measure => omega
                case rel => exact ⟨j + 1, _, by omega, by omega, by omega, by go_num, HB6, HW6, HR6⟩
              · have e1' : (k' == 1) = false := by simpa using hk1
                have HR6 := Lib.hid (show lc2 ++ [39] ++ itemsW true false (f.drop (j + 1)) = L from by rw [← hR5.out, itemsW_close (.inr ⟨k', t', c', _, hd', hk1⟩)]; simp)
                clear hlen5 hk1 hd' c0' c1' c2' hsc' hj
                go_wp2_with (first
                  | (go_at_call 98; refine P3.out.mono ?_; rintro r w6 ⟨rfl, hb6, hbw6, _⟩)
                  | fail)
                go_roundg (f.len - (j + 1))
                case measure => omega
                case rel => exact ⟨j + 1, _, by omega, by go_num, hb6, Lib.hid (hW5.out.trans hbw6.out), Lib.hid (by rw [show decide (0 < j + 1) = true by simp]; exact HR6.out)⟩
        · skip
          have hip : ¬ (0 : Int) < (i : Int) := by omega
          rw [if_neg (show ¬ decide (0 < i) = true by simpa using hi0)] at hr
          have HR2 := Lib.hid (show (lc) ++ ([39] : List UInt8) ++ [t[0]] ++ itemsW true true (f.drop (i + 1)) = L from by rw [← hr, hhd]; simp)
          have hlen := congrArg List.length HR2.out
          simp only [List.length_append, List.length_cons, List.length_nil] at hlen
          have P2 := Lib.hid (fun w h hB => pbyte_n B b (lc) 39 39 w rfl h (by first | omega | (simp; omega)) hB)
          have PC := Lib.hid (fun w h => pchar_plain B b ((lc) ++ [39]) t[0] w h (by first | omega | (simp; omega)) hpl)
          clear hr hlen hi0 hk1 hk2 hd hsc hi h1 c0 c1 c2 hcc hcn ht hokc hhd hpl
          go_wp2_with (first
            | (go_at_call 100; refine (PC.out _ hb3.out).mono ?_; rintro r w4 ⟨rfl, hb4, hbw4⟩; have HB4 := Lib.hid hb4; have HW4 := Lib.hid (hW.out.trans (hbw3.out.trans hbw4)); clear hb4 hbw4)
            | (go_at_call 98; refine (P2.out _ hB.out (by have h1 := hW.out.size; omega)).mono ?_; rintro r w3 ⟨rfl, hb3, hbw3, _⟩; have y0 := (hbw3.out.cell (p := ⟨b0, o0 + i * 3, none⟩) hb0').trans d0; have y1 := (hbw3.out.cell (p := ⟨b0, o0 + i * 3 + 1, none⟩) hb0').trans d1)
            | fail)
          go_loopg [4] gk (fun g v wr => ∃ (j : Nat) (lc : List UInt8), j + g = f.len ∧ i ≤ j ∧ j < f.len ∧ v = .int .i64 (j : Int) ∧ Hid (Bld B b lc wr) ∧ Hid (Below B w wr) ∧ Hid (lc ++ itemsW true true (f.drop (j + 1)) = L))
          case atStart => exact ⟨i, _, by omega, Nat.le_refl _, by omega, rfl, HB4, HW4, HR2⟩
          case round =>
            obtain ⟨j, lc2, hjg, hij, hjl, rfl, hB5, hW5, hR5⟩ := hrel
            have hwr : IntKind.i64.wrap ((j : Int) + 1) = (j : Int) + 1 := IntWalk.i64_in _ (by omega)
            have hlen5 := congrArg List.length hR5.out
            rw [List.length_append] at hlen5
            have P3 := Lib.hid (pbyte_n B b lc2 39 39 wr rfl hB5.out (by omega) (by have := hW5.out.size; omega))
            by_cases hj : j + 1 = f.len
            · have hlt2 : ¬ (j : Int) + 1 < (f.len : Int) := by omega
              have HR6 := Lib.hid (show lc2 ++ [39] ++ itemsW true false (f.drop (j + 1)) = L from by rw [← hR5.out, itemsW_close (.inl (by rw [hj, Fo.drop_len]))]; simp)
              clear hlen5
              go_wp2_with (first
                | (go_at_call 98; refine P3.out.mono ?_; rintro r w6 ⟨rfl, hb6, hbw6, _⟩)
                | fail)
              go_roundg (f.len - (j + 1))
              case measure => omega
              case rel => exact ⟨j + 1, _, by omega, by go_num, hb6, Lib.hid (hW5.out.trans hbw6.out), Lib.hid (by rw [show decide (0 < j + 1) = true by simp]; exact HR6.out)⟩
            · have hlt2 : (j : Int) + 1 < (f.len : Int) := by omega
              obtain ⟨k', t', c', hd'⟩ := Fo.drop_at (n := j + 1) (f := f) (by omega)
              obtain ⟨c0', c1', ac', cc', c2', hsc'⟩ := hcells.out (j + 1) k' t' c' _ hd'
              have x0 := (hW5.out.cell (p := ⟨b0, o0 + (j + 1) * 3, none⟩) hb0').trans c0'
              have x1 := (hW5.out.cell (p := ⟨b0, o0 + (j + 1) * 3 + 1, none⟩) hb0').trans c1'
              by_cases hk1 : k' = 1
              · have e1' : (k' == 1) = true := by simpa using hk1
                have hk' := HOK.out.drop (n := j + 1)
                rw [hd'] at hk'
                obtain ⟨ht0', hpl'⟩ := hk'.2.2.1 hk1
                have HR6 := Lib.hid (show lc2 ++ [t'[0]] ++ itemsW true true (f.drop (j + 1 + 1)) = L from by rw [← hR5.out, hd', itemsW, if_pos hk1, head_text ht0']; simp)
                have PC := Lib.hid (fun w h => pchar_plain B b lc2 t'[0] w h (by omega) hpl')
                clear hlen5 hk1 hd' c0' c1' c2' hsc' hk' hpl' P3 hj
                go_wp2_with (first
                  | (go_at_call 100; refine (PC.out _ hB5.out).mono ?_; rintro r w6 ⟨rfl, hb6, hbw6⟩; have HB6 := Lib.hid hb6; have HW6 := Lib.hid (hW5.out.trans hbw6); clear hb6 hbw6)
                  | fail)
                go_roundg (gk - 1)
                case measure => omega
                case rel => exact ⟨j + 1, _, by omega, by omega, by omega, by go_num, HB6, HW6, HR6⟩
              · have e1' : (k' == 1) = false := by simpa using hk1
                have HR6 := Lib.hid (show lc2 ++ [39] ++ itemsW true false (f.drop (j + 1)) = L from by rw [← hR5.out, itemsW_close (.inr ⟨k', t', c', _, hd', hk1⟩)]; simp)
                clear hlen5 hk1 hd' c0' c1' c2' hsc' hj
                go_wp2_with (first
                  | (go_at_call 98; refine P3.out.mono ?_; rintro r w6 ⟨rfl, hb6, hbw6, _⟩)
                  | fail)
                go_roundg (f.len - (j + 1))
                case measure => omega
                case rel => exact ⟨j + 1, _, by omega, by go_num, hb6, Lib.hid (hW5.out.trans hbw6.out), Lib.hid (by rw [show decide (0 < j + 1) = true by simp]; exact HR6.out)⟩
      · have e1 : (k != 1) = true := by simpa using h1
        rw [if_neg h1] at hr
        simp only [Bool.false_eq_true, if_false, List.nil_append, Bool.or_false] at hr
        by_cases hi0 : 0 < i
        · skip
          have hip : (0 : Int) < (i : Int) := by omega
          rw [if_pos (by simpa using hi0)] at hr
          have HR2 := Lib.hid (show (lc ++ [32]) ++ itW k t (decide (0 < c.len)) (itemsW false false c) ++ itemsW true false (f.drop (i + 1)) = L from by rw [← hr]; simp)
          have hlen := congrArg List.length HR2.out
          simp only [List.length_append, List.length_cons, List.length_nil] at hlen
          have P1 := Lib.hid (pbyte_n B b lc 32 32 wr rfl hB.out (by omega) (by have := hW.out.size; omega))
          have PI := Lib.hid (fun w2 (hb2 : Bld B b (lc ++ [32]) w2) (hw2 : Below B w w2) => pitemW_any c.count (hN c.count hcn) k t c ac cc B b (lc ++ [32]) w2 (Nat.le_refl _) hcc h1 hk2 ht hokc (hsc.below hw2 (Nat.le_refl _)) hb2 (by first | omega | (simp; omega)))
          clear hr hlen hi0 hk1 hk2 hd hsc hi h1 c0 c1 c2 hcc hcn ht hokc
          go_wp2_with (first
            | (go_at_call 99; refine (PI.out _ hb2.out (hW.out.trans hbw2.out)).mono ?_; rintro r w3 ⟨rfl, hb3, hbw3⟩; have HB3 := Lib.hid hb3; have HW3 := Lib.hid hbw3; clear hb3 hbw3)
            | (go_at_call 98; refine P1.out.mono ?_; rintro r w2 ⟨rfl, hb2, hbw2, _⟩; have z0 := (hbw2.out.cell (p := ⟨b0, o0 + i * 3, none⟩) hb0').trans d0; have z1 := (hbw2.out.cell (p := ⟨b0, o0 + i * 3 + 1, none⟩) hb0').trans d1; have z2 := (hbw2.out.cell (p := ⟨b0, o0 + i * 3 + 2, none⟩) hb0').trans d2)
            | fail)
          go_roundg (gk - 1)
          case measure => omega
          case rel => exact ⟨i + 1, _, by omega, by go_num, HB3, Lib.hid ((hW.out.trans hbw2.out).trans HW3.out), Lib.hid (by rw [show decide (0 < i + 1) = true by simp]; exact HR2.out)⟩
        · skip
          have hip : ¬ (0 : Int) < (i : Int) := by omega
          rw [if_neg (by simpa using hi0)] at hr
          have HR2 := Lib.hid (show (lc) ++ itW k t (decide (0 < c.len)) (itemsW false false c) ++ itemsW true false (f.drop (i + 1)) = L from by rw [← hr]; simp)
          have hlen := congrArg List.length HR2.out
          simp only [List.length_append] at hlen
          have PI := Lib.hid (fun w2 (hb2 : Bld B b (lc) w2) (hw2 : Below B w w2) => pitemW_any c.count (hN c.count hcn) k t c ac cc B b (lc) w2 (Nat.le_refl _) hcc h1 hk2 ht hokc (hsc.below hw2 (Nat.le_refl _)) hb2 (by first | omega | (simp; omega)))
          clear hr hlen hi0 hk1 hk2 hd hsc hi h1 c0 c1 c2 hcc hcn ht hokc
          go_wp2_with (first
            | (go_at_call 99; refine (PI.out _ hB.out hW.out).mono ?_; rintro r w3 ⟨rfl, hb3, hbw3⟩; have HB3 := Lib.hid hb3; have HW3 := Lib.hid hbw3; clear hb3 hbw3)
            | fail)
          go_roundg (gk - 1)
          case measure => omega
          case rel => exact ⟨i + 1, _, by omega, by go_num, HB3, Lib.hid (hW.out.trans HW3.out), Lib.hid (by rw [show decide (0 < i + 1) = true by simp]; exact HR2.out)⟩
end Go.Proofs.Ytajdpchojimigaa
