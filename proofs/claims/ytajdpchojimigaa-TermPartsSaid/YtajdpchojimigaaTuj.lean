/- The law of the parts of terms: one term. -/
import Derived.Test.YtajdpchojimigaaSq
import Derived.Test.YtajdpchojimigaaTe
import Derived.Test.YtajdpchojimigaaAw
import Derived.Test.YtajdpchojimigaaTc
import Derived.Test.YtajdpchojimigaaTj
import Derived.Test.YtajdpchojimigaaPj
import Derived.Deep.RegionHeld3
namespace Go.Proofs.Ytajdpchojimigaa
open Go.RowKit Go.Shelf TmM

theorem keep_box {g n : Nat} {u0 u1 u2 : Value} {w w1 w2 : World} (hb : Below w1.heap.size w1 w2) (h : w1.cell? ⟨g, 0, none⟩ = some u0 ∧ w1.cell? ⟨g, 1, none⟩ = some u1 ∧ w1.cell? ⟨g, 2, none⟩ = some u2 ∧ Hid (n ≤ w1.heap.size ∧ Below n w w1)) :
    w2.cell? ⟨g, 0, none⟩ = some u0 ∧ w2.cell? ⟨g, 1, none⟩ = some u1 ∧ w2.cell? ⟨g, 2, none⟩ = some u2 ∧ Hid (n ≤ w2.heap.size ∧ Below n w w2) := by
  obtain ⟨h0, h1, h2, h3⟩ := h
  have hg : g < w1.heap.size := World.block_lt_of_cell? w1 _ h0
  exact ⟨(hb.cell (p := ⟨g, 0, none⟩) hg).trans h0, (hb.cell (p := ⟨g, 1, none⟩) hg).trans h1, (hb.cell (p := ⟨g, 2, none⟩) hg).trans h2, Lib.hid ⟨Nat.le_trans h3.out.1 hb.size, h3.out.2.trans (hb.mono h3.out.1)⟩⟩

theorem box_below {g n : Nat} {u0 u1 u2 : Value} {w w1 : World} (h : w1.cell? ⟨g, 0, none⟩ = some u0 ∧ w1.cell? ⟨g, 1, none⟩ = some u1 ∧ w1.cell? ⟨g, 2, none⟩ = some u2 ∧ Hid (n ≤ w1.heap.size ∧ Below n w w1)) : Hid (Below n w w1) := Lib.hid h.2.2.2.out.2

/-- what Variable returns, in one form. -/
def varK (s : ByteArray) : Int := if okV s then (vkN s : Int) else 0
def varT (s : ByteArray) : ByteArray := if okV s then s.extract 2 s.size else ⟨#[]⟩
theorem outVar_one {s : ByteArray} {w w' : World} {e : Ending} (h : OutVar s w e w') : e = .returned (.tuple #[.agg #[.int .i64 (varK s), .string (varT s), .slice none 0 0], .bool (okV s)]) ∧ Below w.heap.size w w' := by
  refine ⟨?_, h.2⟩
  rcases h.1 with ⟨ho, rfl⟩ | ⟨ho, rfl⟩
  · rw [varK, varT, if_pos ho, if_pos ho, ho]
  · rw [varK, varT, ho]; rfl

theorem sl_one {W : World} {g : Nat} {k : Int} {t : ByteArray} (h : Box W g k t none 0 0) : Sl W.heap.size W (some ⟨g, 0, none⟩) 1 (.cons k t .nil .nil) := by
  obtain ⟨hlt, h0, h1, h2⟩ := h
  refine ⟨Nat.le_refl _, by unfold maxLen; omega, by simp, .inr ⟨g, 0, [.int .i64 k, .string t, .slice none 0 0], rfl, hlt, fun j hj => ?_, Reps.one Sl.nil⟩⟩
  match j, hj with
  | 0, _ => exact h0
  | 1, _ => exact h1
  | 2, _ => exact h2
/-- two lists with the same term are equal. -/
theorem eq_ones (k : Int) (t : ByteArray) (w : World) :
    Calls Try.prog 21 #[.slice (some ⟨w.heap.size, 0, none⟩) 1 1, .slice (some ⟨w.heap.size + 1, 0, none⟩) 1 1] ((w.alloc (.cells #[.int .i64 k, .string t, .slice none 0 0] 35)).alloc (.cells #[.int .i64 k, .string t, .slice none 0 0] 35)) (fun e w' => e = .returned (.bool true) ∧ Hid (Below w.heap.size w w')) := by
  have hb : Below w.heap.size w ((w.alloc (.cells #[.int .i64 k, .string t, .slice none 0 0] 35)).alloc (.cells #[.int .i64 k, .string t, .slice none 0 0] 35)) := ((Below.refl _ _).alloc (Nat.le_refl _) _).alloc (by simp) _
  have b1 : Box ((w.alloc (.cells #[.int .i64 k, .string t, .slice none 0 0] 35)).alloc (.cells #[.int .i64 k, .string t, .slice none 0 0] 35)) w.heap.size k t none 0 0 := (Box.new w k t none 0 0).later ((Below.refl _ _).alloc (Nat.le_refl _) _)
  have b2 : Box ((w.alloc (.cells #[.int .i64 k, .string t, .slice none 0 0] 35)).alloc (.cells #[.int .i64 k, .string t, .slice none 0 0] 35)) (w.heap.size + 1) k t none 0 0 := by
    have h := Box.new (w.alloc (.cells #[.int .i64 k, .string t, .slice none 0 0] 35)) k t none 0 0
    simpa using h
  refine (equal_any _ _ _ _ _ _ _ (sl_one b1) (sl_one b2)).mono ?_
  rintro e w' ⟨rfl, h⟩
  exact ⟨by rw [eqF_self], Lib.hid (hb.trans (h.mono hb.size))⟩

set_option maxHeartbeats 25600000 in
set_option maxRecDepth 100000 in
theorem lawParts_any (f : Fo) (a : Option Addr) (cap : Nat) (s : ByteArray) (w : World) (hl : f.len ≤ 140737488355327) (hrc : Reach f) (hs : Sl w.heap.size w a cap f) :
    Calls Try.prog 5 #[.slice a f.len cap, .string s] w (OutV w (.bool true)) := by
  have S := Lib.hid (small1_any f a cap 1000 w hl hrc hs (by decide) (by decide))
  have HS := Lib.hid hs
  have AW := Lib.hid (fun w => awake_any w)
  by_cases hsz : 1000 < s.size
  · have hszi : (1000 : Int) < (s.size : Int) := by omega
    clear hrc hs
    go_enter Try.func5, Try.ntmps5
    go_wp2_with (first
      | (go_at_call 10; refine S.out.mono ?_; rintro e w2 ⟨ok, rfl, hb2, hf2⟩)
      | (go_at_call 11; refine (AW.out _).mono ?_; rintro e w3 ⟨rfl, hb3⟩)
      | fail)
    all_goals
      go_ret
      exact ⟨rfl, hb2.out.trans (hb3.mono hb2.out.size)⟩
  · have hszi : ¬ (1000 : Int) < (s.size : Int) := by omega
    obtain ⟨b, o, hab, hbw, HCX⟩ := base_of hs
    have HAB := Lib.hid hab
    have HBW := Lib.hid hbw
    have hcap := hs.cap
    have hcm : f.len ≤ 9223372036854775807 := by omega
    clear hrc hs hab hbw hcap
    go_enter Try.func5, Try.ntmps5
    go_wp2_with (first
      | (go_at_call 10; refine S.out.mono ?_; rintro e w2 ⟨ok, rfl, hb2, hf2⟩)
      | (go_at_call 11; refine (AW.out _).mono ?_; rintro e w3 ⟨rfl, hb3⟩)
      | fail)
    · have h0 : (!ok) = false := by first | assumption | (simp; assumption)
      obtain ⟨hc, hsm⟩ := hf2.out (by simpa using h0)
      have HSM := Lib.hid hsm
      have hc6 : f.count ≤ 1000000 := by omega
      have HC6 := Lib.hid hc6
      have hl6 : f.len ≤ 1000000 := Nat.le_trans f.len_le_count hc6
      clear hc hsm h0 hf2
      go_loopw [27] (fun i wr => ∃ k : Nat, i = .int .i64 k ∧ k ≤ f.len ∧ Hid (Below w.heap.size w wr)) (fun i _ => f.len - (intOf i).toNat)
      case atStart => exact ⟨0, rfl, Nat.zero_le _, hb2⟩
      case round =>
        obtain ⟨k, rfl, hk, hbl⟩ := hrel
        by_cases hkl : k < f.len
        · have hki : (k : Int) < (f.len : Int) := by omega
          obtain rfl := HAB.out (by omega)
          have hb := HBW.out (by omega)
          obtain ⟨kd, t, c, hd⟩ := Fo.drop_at hkl
          obtain ⟨x0, x1, ac, capc, x2, hsc⟩ := HCX.out k kd t c _ hd
          have y0 := (hbl.out.cell (p := ⟨b, o + k * 3, none⟩) hb).trans x0
          have y1 := (hbl.out.cell (p := ⟨b, o + k * 3 + 1, none⟩) hb).trans x1
          have y2 := (hbl.out.cell (p := ⟨b, o + k * 3 + 2, none⟩) hb).trans x2
          have hts := (HSM.out.at hd).1
          have hszr := hbl.out.size
          obtain ⟨W, hW⟩ : ∃ W, W = wr.alloc (.cells #[.int .i64 kd, .string t, .slice ac c.len capc] 35) := ⟨_, rfl⟩
          have hbW : Below w.heap.size w W := by rw [hW]; exact hbl.out.alloc hszr _
          obtain ⟨hgW, z0, z1, z2⟩ := (show Box W wr.heap.size kd t ac c.len capc from by rw [hW]; exact Box.new _ _ _ _ _ _)
          have HB := Lib.hid (show w.heap.size ≤ W.heap.size ∧ Below w.heap.size w W from ⟨hbW.size, hbW⟩)
          have HBD := Lib.hid (show w.heap.size ≤ W.drew.heap.size ∧ Below w.heap.size w W.drew from ⟨hbW.size, hbW.drew⟩)
          have C1 := Lib.hid (fun w => pissym_al kd t ac c.len capc w)
          have C2 := Lib.hid (fun w => rissym_any kd t ac c.len capc w)
          have C3 := Lib.hid (fun w => (pisvar_al kd t ac c.len capc w).mono (fun _ w' h => (⟨h.1, by rw [h.2]; exact (Below.refl _ _).alloc (Nat.le_refl _) _⟩ : _ ∧ Below w.heap.size w w')))
          have C4 := Lib.hid (fun w => risvar_any kd t ac c.len capc w)
          have C5 := Lib.hid (fun w => pname_al kd t ac c.len capc w hts)
          have C6 := Lib.hid (fun w => rname_any kd t ac c.len capc w hts)
          obtain ⟨q1, hq1⟩ : ∃ q1, q1 = isSymB kd := ⟨_, rfl⟩
          obtain ⟨q2, hq2⟩ : ∃ q2, q2 = isVarB kd := ⟨_, rfl⟩
          obtain ⟨q3, hq3⟩ : ∃ q3, q3 = nameF kd t := ⟨_, rfl⟩
          rw [← hq1] at C1 C2
          rw [← hq2] at C3 C4
          rw [← hq3] at C5 C6
          clear hq1 hq2 hq3 hd x0 x1 x2 hsc hbW hts hgW hszr
          go_wp2_with fail
          rw [← hW]
          clear hW
          go_region_held3 (fun w' => w'.cell? ⟨wr.heap.size, 0, none⟩ = some (.int .i64 kd) ∧ w'.cell? ⟨wr.heap.size, 1, none⟩ = some (.string t) ∧ w'.cell? ⟨wr.heap.size, 2, none⟩ = some (.slice ac c.len capc) ∧ Hid (w.heap.size ≤ w'.heap.size ∧ Below w.heap.size w w'))
            (first | exact ⟨z0, z1, z2, HBD⟩ | exact ⟨z0, z1, z2, HB⟩ | exact keep_box hb9 (by assumption) | assumption)
            (first
              | (go_at_call 27; refine (C1.out _).mono ?_; rintro e w9 ⟨rfl, hb9⟩)
              | (go_at_call 28; refine (C2.out _).mono ?_; rintro e w9 ⟨rfl, hb9⟩)
              | (go_at_call 29; refine (C3.out _).mono ?_; rintro e w9 ⟨rfl, hb9⟩)
              | (go_at_call 30; refine (C4.out _).mono ?_; rintro e w9 ⟨rfl, hb9⟩)
              | (go_at_call 31; refine (C5.out _).mono ?_; rintro e w9 ⟨rfl, hb9⟩)
              | (go_at_call 32; refine (C6.out _).mono ?_; rintro e w9 ⟨rfl, hb9⟩)
              | fail)
          go_wp2_with fail
          go_roundw
          case rel => exact ⟨k + 1, by go_num, by omega, box_below (by assumption)⟩
          case measure => simp [intOf]; omega
        · obtain rfl : k = f.len := by omega
          have hki : ¬ ((f.len : Nat) : Int) < (f.len : Int) := by omega
          have hs6 : s.size ≤ 1000000 := by omega
          have hs9 : s.size ≤ 100000000 := by omega
          have P1 := Lib.hid (fun w2 (hb : Hid (Below w.heap.size w w2)) => ptstring_any f a cap w2 hl6 HSM.out (HS.out.below hb.out hb.out.size))
          have R1 := Lib.hid (fun w2 (hb : Hid (Below w.heap.size w w2)) => rtstring_any f a cap w2 hl6 (HS.out.below hb.out hb.out.size))
          have P2 := Lib.hid (fun w2 => (pvariable_any s w2 hs9).mono (fun _ _ h => outVar_one h))
          have R2 := Lib.hid (fun w2 => (rvariable_any s w2 hs9).mono (fun _ _ h => outVar_one h))
          obtain ⟨kv, hkv⟩ : ∃ kv, kv = varK s := ⟨_, rfl⟩
          obtain ⟨tv, htv⟩ : ∃ tv, tv = varT s := ⟨_, rfl⟩
          obtain ⟨ov, hov⟩ : ∃ ov, ov = okV s := ⟨_, rfl⟩
          obtain ⟨ss, hss⟩ : ∃ ss, ss = strS f := ⟨_, rfl⟩
          obtain ⟨sb, hsb⟩ : ∃ sb, sb = strB f := ⟨_, rfl⟩
          rw [← hss, ← hsb] at P1 R1
          rw [← hkv, ← htv, ← hov] at P2 R2
          clear hkv htv hov hss hsb hs9
          go_wp2_with (first
            | (go_at_call 33; refine (P1.out _ hbl).mono ?_; rintro e w4 ⟨rfl, hq⟩; have b4 := Lib.hid (hbl.out.trans (hq.mono hbl.out.size)); clear hq)
            | (go_at_call 34; refine (R1.out _ b4).mono ?_; rintro e w5 ⟨rfl, rfl⟩)
            | (go_at_call 35; refine (P2.out _).mono ?_; rintro e w6 ⟨rfl, hq6⟩; have b6 := Lib.hid (b4.out.trans (hq6.mono b4.out.size)); clear hq6)
            | (go_at_call 36; refine (R2.out _).mono ?_; rintro e w7 ⟨rfl, hq7⟩; have b7 := Lib.hid hq7; clear hq7)
            | fail)
          obtain ⟨X, hX⟩ : ∃ X, X = w7.alloc (.cells #[.int .i64 kv, .string tv, .slice none 0 0] 35) := ⟨_, rfl⟩
          have hbA : Below w.heap.size w (w6.alloc (.cells #[.int .i64 kv, .string tv, .slice none 0 0] 35)) := b6.out.alloc b6.out.size _
          have hb7 := hbA.trans (b7.out.mono hbA.size)
          have bX : Hid (Below w.heap.size w X) := Lib.hid (by rw [hX]; exact hb7.alloc hb7.size _)
          have HX1 : Hid (Box X w6.heap.size kv tv none 0 0) := Lib.hid (by rw [hX]; exact ((Box.new w6 kv tv none 0 0).later b7.out).later ((Below.refl _ _).alloc (Nat.le_refl _) _))
          have HX2 : Hid (Box X w7.heap.size kv tv none 0 0) := Lib.hid (by rw [hX]; exact Box.new w7 kv tv none 0 0)
          rw [← hX]
          clear hX hbA hb7 b7
          have cX : Hid (Below X.heap.size X X) := Lib.hid (Below.refl _ _)
          have SX := Lib.hid (fun w2 (hb : Hid (Below X.heap.size X w2)) => HS.out.below (bX.out.trans (hb.out.mono bX.out.size)) (bX.out.trans (hb.out.mono bX.out.size)).size)
          have Q1 := Lib.hid (fun w2 (hb : Hid (Below X.heap.size X w2)) => pvariables_any f a cap w2 HC6.out HSM.out (SX.out w2 hb))
          have Q2 := Lib.hid (fun w2 (hb : Hid (Below X.heap.size X w2)) => rvariables_any f a cap w2 HC6.out HSM.out (SX.out w2 hb))
          have Q3 := Lib.hid (fun a1 a2 c1 c2 w2 h1 h2 => eqstr_any (namesF f []) a1 a2 c1 c2 w2 (by have h := names_len f []; have h2 := HC6.out; simp only [List.length_nil, Nat.zero_add] at h; omega) h1 h2)
          have Q4 := Lib.hid (fun w2 (hb : Hid (Below X.heap.size X w2)) => pcalls_any f a cap w2 HC6.out HSM.out (SX.out w2 hb))
          have Q5 := Lib.hid (fun w2 (hb : Hid (Below X.heap.size X w2)) => rcalls_any f a cap w2 (SX.out w2 hb))
          have Q6 := Lib.hid (fun w2 => pchars_any s w2 hs6)
          have Q7 := Lib.hid (fun w2 => rchars_any s w2 hs6)
          have Q8 := Lib.hid (fun a1 a2 c1 c2 w2 h1 h2 => equal_any (foC s.data.toList) (foC s.data.toList) a1 a2 c1 c2 w2 h1 h2)
          rw [eqF_self] at Q8
          have Q9 := Lib.hid (fun w2 => eq_ones kv tv w2)
          obtain ⟨L, hL⟩ : ∃ L, L = namesF f [] := ⟨_, rfl⟩
          obtain ⟨G, hG⟩ : ∃ G, G = foC s.data.toList := ⟨_, rfl⟩
          obtain ⟨cb, hcb⟩ : ∃ cb, cb = callsF f := ⟨_, rfl⟩
          rw [← hL] at Q1 Q2 Q3
          rw [← hG] at Q6 Q7 Q8
          rw [← hcb] at Q4 Q5
          clear hL hG hcb
          refine (Q1.out _ cX).mono ?_
          rintro e w8 ⟨a8, c8, rfl, hs8, hb8⟩
          have b8 := Lib.hid hb8.out
          have HS8 := Lib.hid hs8.out
          clear hs8 hb8
          go_wp2_with (first
            | (go_at_call 39; refine (Q2.out _ b8).mono ?_; rintro e w9 ⟨a9, c9, rfl, hs9, hb9⟩; have b9 := Lib.hid (b8.out.trans (hb9.out.mono b8.out.size)); have HS8' := Lib.hid (HS8.out.later hb9.out); have HS9 := Lib.hid hs9.out; clear hs9 hb9)
            | (go_at_call 37; refine (Q3.out _ _ _ _ _ HS8'.out HS9.out).mono ?_; rintro e w10 ⟨rfl, qn, hq⟩; have b10 := Lib.hid (show Below X.heap.size X w10 from by rw [hq]; exact below_drewN b9.out qn); clear hq)
            | (go_at_call 40; refine (Q4.out _ b10).mono ?_; rintro e w11 ⟨rfl, hq⟩; have b11 := Lib.hid (b10.out.trans (hq.mono b10.out.size)); clear hq)
            | (go_at_call 41; refine (Q5.out _ b11).mono ?_; rintro e w12 ⟨rfl, rfl⟩)
            | (go_at_call 42; refine (Q6.out _).mono ?_; rintro e w13 ⟨a13, c13, rfl, hs13, hq⟩; have b13 := Lib.hid (b11.out.trans (hq.mono b11.out.size)); have HS13 := Lib.hid (hs13.out.sl (fun b hb => hb.2)); clear hq hs13)
            | (go_at_call 43; refine (Q7.out _).mono ?_; rintro e w14 ⟨a14, c14, rfl, hs14, hq⟩; have b14 := Lib.hid (b13.out.trans (hq.mono b13.out.size)); have HS14 := Lib.hid (hs14.out.sl (fun b hb => hb.2)); have HS13' := Lib.hid (HS13.out.later hq); clear hq hs14)
            | (go_at_call 21; have hmark := b15; refine (Q9.out _).mono ?_; rintro e w16 ⟨rfl, hq⟩; have b16 := Lib.hid (b15.out.trans (hq.out.mono b15.out.size)); clear hq hmark)
            | (go_at_call 21; refine (Q8.out _ _ _ _ _ HS13'.out HS14.out).mono ?_; rintro e w15 ⟨rfl, hq⟩; have b15 := Lib.hid (b14.out.trans (hq.mono b14.out.size)); clear hq; obtain ⟨_, p0, p1, p2⟩ := HX1.out.later b15.out; obtain ⟨hg2, r0, r1, r2⟩ := HX2.out.later b15.out; have n0 := fun o => (World.cell?_of_block (heap_old w15 o w7.heap.size hg2)).trans r0; have n1 := fun o => (World.cell?_of_block (heap_old w15 o w7.heap.size hg2)).trans r1; have n2 := fun o => (World.cell?_of_block (heap_old w15 o w7.heap.size hg2)).trans r2)
            | (go_at_call 11; refine (AW.out _).mono ?_; rintro e w17 ⟨rfl, hq⟩; have b17 := Lib.hid (b16.out.trans (hq.mono b16.out.size)); clear hq)
            | fail)
          go_ret
          exact ⟨rfl, bX.out.trans (b17.out.mono bX.out.size)⟩
    · go_ret
      exact ⟨rfl, hb2.out.trans (hb3.mono hb2.out.size)⟩
end Go.Proofs.Ytajdpchojimigaa
