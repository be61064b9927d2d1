/- RopeSteps: the law. -/
import Derived.Test.YtamcobncfbjdmaaRZd
import Derived.Test.YtamcobncfbjdmaaRTh
import Derived.Test.YtamcobncfbjdmaaRZc
import Derived.Test.YtamcobncfbjdmaaRLA
import Derived.Deep.Slices
import Derived.Deep.Fields
import Derived.ChangeSame
import Derived.ChangeOld
import Derived.Carry
import Derived.KernelRfl
namespace Go.Proofs.Ytamcobncfbjdmaa
open Go.RowKit Go.Shelf Go.BigFrame
attribute [local go_sem] Oper.semAt_some

theorem keep6 {x : Nat} {v0 v1 v2 v3 v4 : Value} {w1 w2 : World} (hk : ∀ j u, w1.cell? ⟨x, j, none⟩ = some u → w2.cell? ⟨x, j, none⟩ = some u) (h : w1.cell? ⟨x, 0, none⟩ = some v0 ∧ w1.cell? ⟨x, 1, none⟩ = some v1 ∧ w1.cell? ⟨x, 2, none⟩ = some v2 ∧ w1.cell? ⟨x, 3, none⟩ = some v3 ∧ w1.cell? ⟨x, 4, none⟩ = some v4) :
    w2.cell? ⟨x, 0, none⟩ = some v0 ∧ w2.cell? ⟨x, 1, none⟩ = some v1 ∧ w2.cell? ⟨x, 2, none⟩ = some v2 ∧ w2.cell? ⟨x, 3, none⟩ = some v3 ∧ w2.cell? ⟨x, 4, none⟩ = some v4 :=
  ⟨hk 0 _ h.1, hk 1 _ h.2.1, hk 2 _ h.2.2.1, hk 3 _ h.2.2.2.1, hk 4 _ h.2.2.2.2⟩

set_option maxRecDepth 100000 in
set_option maxHeartbeats 25600000 in
theorem steps_any (p pl : Option Addr) (n c nl cl : Nat) (l : List Int) (ops : List OpD) (w : World) (hn : n = l.length) (hnl : nl = ops.length) (hq : SqL w p l) (hc : n ≤ c) (hz : p = none → c = 0) (ho : OpsAt w pl ops) (h500 : n ≤ 500) (h60 : nl ≤ 60) (hok : okL [l] ops = true) :
    Calls Try.prog 3 #[.slice p n c, .slice pl nl cl] w (fun r w' => r = .returned (.bool true) ∧ Hid (Below w.heap.size w w')) := by
  have CS' := small_any p pl n c nl cl l ops w hn hnl hq hc hz ho h500 h60
  rw [hok] at CS'
  have CS := Lib.hid CS'
  have CO : Hid (∀ w', Below w.heap.size w w' → Calls Try.prog 12 #[.slice p n c] w' (fun r w'' => ∃ a, r = .returned (.agg #[.pointer a]) ∧ Hid (Holds w'' a l) ∧ Hid (Below w'.heap.size w' w''))) := Lib.hid fun w' h => ofArg_any p n c l w' hn (hq.later h) hc (by omega)
  have HQ := Lib.hid hq
  have HO := Lib.hid ho
  have HN := Lib.hid (And.intro hn hnl)
  have HC := Lib.hid (And.intro hc hz)
  have HK := Lib.hid hok
  clear CS' hq ho hn hnl hc hz hok
  go_enter Try.func3, Try.ntmps3
  go_wp2_with (first
    | (go_at_call 12; refine (CO.out _ HB1.out).mono ?_; rintro r w2 ⟨a, rfl, HH2, HB2⟩)
    | (go_at_call 10; refine CS.out.mono ?_; rintro r w1 ⟨rfl, HB1⟩)
    | fail)
  have hbw : Below w.heap.size w w2 := bt HB1.out HB2.out
  go_loopw [5, 6, 22] (fun v5 v6 v22 wr => ∃ j : Nat, v22 = .int .i64 j ∧ j ≤ nl ∧ Hid (∃ ga, v5.ownBlock = some ga ∧ LA wr w.heap.size v5 (runL [l] (ops.take j)) ∧ LL (· ≠ ga) wr w.heap.size v6 (runL [l] (ops.take j)) ∧ v6.ownBlock ≠ some ga) ∧ Hid (Below w.heap.size w wr)) (fun _ _ i _ => nl - (intOf i).toNat)
  case atStart =>
    have hb3 := bt hbw (bx2 w2 (.cells #[.pointer a] 28) (.cells #[.slice p n c] 22))
    have ea : ((w2.alloc (.cells #[.pointer a] 28)).alloc (.cells #[.slice p n c] 22)).ownsRow w.heap.size 28 1 (.slice (some ⟨w2.heap.size, 0, none⟩) 1 1) 1 [.pointer a] := (World.ownsRow_lit w2 #[.pointer a] 1 hbw.size (by decide) rfl).alloc _
    have eb : ((w2.alloc (.cells #[.pointer a] 28)).alloc (.cells #[.slice p n c] 22)).ownsRow w.heap.size 22 1 (.slice (some ⟨w2.heap.size + 1, 0, none⟩) 1 1) 1 [.slice p n c] := by
      have := World.ownsRow_lit (base := w.heap.size) (e := 22) (size := 1) (w2.alloc (.cells #[.pointer a] 28)) #[.slice p n c] 1 (by rw [World.size_alloc]; exact Nat.le_succ_of_le hbw.size) (by decide) rfl
      rwa [World.size_alloc] at this
    refine ⟨0, rfl, Nat.zero_le _, Lib.hid ⟨w2.heap.size, rfl, ⟨_, 1, _, rfl, ea, fun i m hm => ?_⟩, ⟨_, 1, _, rfl, eb, fun i m hm => ?_⟩, fun e => by have := Option.some.inj e; simp at this⟩, Lib.hid hb3⟩
    · match i, hm with
      | 0, h =>
        obtain rfl : l = m := by simpa [runL] using h
        exact ⟨a, rfl, HH2.out.later (bx2 w2 _ _)⟩
      | i + 1, h => simp [runL] at h
    · match i, hm with
      | 0, h =>
        obtain rfl : l = m := by simpa [runL] using h
        refine ⟨p, n, c, rfl, HN.out.1, HC.out.1, HC.out.2, HQ.out.later hb3, by omega, fun hne b o s e => ?_⟩
        obtain ⟨x, hx⟩ : ∃ x, l[0]? = some x := by cases l with | nil => exact absurd rfl hne | cons x _ => exact ⟨x, rfl⟩
        obtain ⟨b', o', k1, k2, _⟩ := HQ.out 0 x hx
        rw [k1] at e
        cases e
        have := hbw.size
        exact ⟨by omega, by show b ≠ w2.heap.size; omega⟩
      | i + 1, h => simp [runL] at h
  case round =>
    clear HB1 HB2 HH2 hbw CS CO
    obtain ⟨j, rfl, hj, HRW, HBR⟩ := hrel
    by_cases hjn : j < nl
    · obtain ⟨⟨kd, rp, ot, fr, to⟩, hop⟩ : ∃ o, ops[j]? = some o := ⟨_, List.getElem?_eq_getElem (by rw [← HN.out.2]; exact hjn)⟩
      obtain ⟨ls, hls⟩ : ∃ ls, ls = runL [l] (ops.take j) := ⟨_, rfl⟩
      have hlen : ls.length = j + 1 := by rw [hls, runL_len, List.length_take, ← HN.out.2]; simp only [List.length_cons, List.length_nil]; omega
      have htk : ops.take (j + 1) = ops.take j ++ [(kd, rp, ot, fr, to)] := by rw [List.take_add_one, hop]; rfl
      obtain ⟨X, hX⟩ : ∃ X, X = stepL ls (kd, rp, ot, fr, to) := ⟨_, rfl⟩
      have HR1 : Hid (runL [l] (ops.take (j + 1)) = ls ++ [X]) := Lib.hid (by rw [htk, runL_app, ← hls, runL, runL, hX])
      have hXl : X.length ≤ 2000 := by
        have hk := HK.out
        rw [← List.take_append_drop (j + 1) ops, okL_app, Bool.and_eq_true, htk, okL_app, Bool.and_eq_true, ← hls, okL, okL, ← hX] at hk
        simpa using hk.1.2
      rw [← hls] at HRW
      obtain ⟨bo, oo, hpl, hbo, hk8, hr8, ho8, c0, c1, c2, c3, c4⟩ := (HO.out.later HBR.out) j kd rp ot fr to hop
      subst hpl
      obtain ⟨ga0, hga0, HA, HL, hgb0⟩ := HRW.out
      obtain ⟨ga, ca, rfl, hgaB, hga, hca⟩ := HA.cell
      obtain rfl : ga = ga0 := by simpa [Value.ownBlock] using hga0
      obtain ⟨gb, cb, rfl, hgb, hcb⟩ := HL.cell
      have hne : gb ≠ ga := fun e => hgb0 (by rw [e]; rfl)
      obtain ⟨N, hN⟩ : ∃ N, N = ls.length := ⟨_, rfl⟩
      rw [← hN]
      have HJ := Lib.hid hlen
      obtain ⟨m1, hm1⟩ : ∃ i, rp % N = i := ⟨_, rfl⟩
      obtain ⟨m2, hm2⟩ : ∃ i, ot % N = i := ⟨_, rfl⟩
      have hN1 : 1 ≤ N := by omega
      have hi1 : m1 < N := by rw [← hm1]; exact Nat.mod_lt _ (by omega)
      have hi2 : m2 < N := by rw [← hm2]; exact Nat.mod_lt _ (by omega)
      obtain ⟨r, hr⟩ : ∃ r, ls[m1]? = some r := ⟨_, List.getElem?_eq_getElem (by omega)⟩
      obtain ⟨s, hs⟩ : ∃ s, ls[m2]? = some s := ⟨_, List.getElem?_eq_getElem (by omega)⟩
      have hXm : mdl kd fr to r s = X := by
        rw [hX, stepL]
        simp only [← hN, hm1, hm2, List.getD_eq_getElem?_getD, hr, hs, Option.getD_some]
      obtain ⟨NX, hNX⟩ : ∃ N, N = X.length := ⟨_, rfl⟩
      obtain ⟨W1, hW1⟩ : ∃ W, W = wr.alloc (.cells #[.int .u8 (kd : Nat), .int .u8 (rp : Nat), .int .u8 (ot : Nat), .int .i64 fr, .int .i64 to] 33) := ⟨_, rfl⟩
      have hbW : Below wr.heap.size wr W1 := by rw [hW1]; exact BAo _ _
      have hsW : wr.heap.size < W1.heap.size := by rw [hW1]; simp
      have hlr : r.length ≤ 2000 ∧ s.length ≤ 2000 := by
        obtain ⟨_, _, _, _, e1, _, _, _, e2, _⟩ := hcb m1 r hr
        obtain ⟨_, _, _, _, e3, _, _, _, e4, _⟩ := hcb m2 s hs
        omega
      obtain ⟨pa, ka, qa⟩ := hca m1 r hr
      obtain ⟨pb, kb, qb⟩ := hca m2 s hs
      have CSt : Hid (∀ w', Below W1.heap.size W1 w' → Calls Try.prog 13 #[.slice (some ⟨ga, 0, none⟩) N ca, .agg #[.int .u8 (kd : Nat), .int .u8 (rp : Nat), .int .u8 (ot : Nat), .int .i64 fr, .int .i64 to]] w' (OutS X w')) := Lib.hid fun w' h => by
        have hb := bt hbW h
        have := step_any ga N ca kd rp ot m1 m2 fr to pa pb r s w' hN1 (by omega) (Nat.lt_of_lt_of_le hga hb.size) hr8 ho8 hm1 hm2 ((hb.cell (p := ⟨ga, m1, none⟩) hga).trans ka) ((hb.cell (p := ⟨ga, m2, none⟩) hga).trans kb) (qa.later hb) (qb.later hb) hlr.1 hlr.2
        rwa [hXm] at this
      have CMd : Hid (∀ (g2 : Nat) w', LL (· ≠ g2) w' w.heap.size (.slice (some ⟨gb, 0, none⟩) N cb) ls → g2 < w'.heap.size → Calls Try.prog 14 #[.slice (some ⟨gb, 0, none⟩) N cb, .agg #[.int .u8 (kd : Nat), .int .u8 (rp : Nat), .int .u8 (ot : Nat), .int .i64 fr, .int .i64 to]] w' (fun e w'' => ∃ p3 c3, e = .returned (.slice p3 NX c3) ∧ Hid (NX ≤ c3 ∧ (p3 = none → c3 = 0) ∧ SqL w'' p3 X ∧ (X ≠ [] → ∀ b o s, p3 = some ⟨b, o, s⟩ → b ≠ gb ∧ b ≠ g2)) ∧ Hid (Below w'.heap.size w' w''))) := Lib.hid fun g2 w' hLL hg2 => by
        obtain ⟨gb', cb', hv, hgb', hc'⟩ := hLL.cell
        obtain ⟨rfl, rfl⟩ : gb = gb' ∧ cb = cb' := by cases hv; exact ⟨rfl, rfl⟩
        obtain ⟨pr, nr, cr, k1, a1, a2, a3, a4, a5, a6⟩ := hc' m1 r hr
        obtain ⟨ps, ns, cs, k2, b1, b2, b3, b4, b5, b6⟩ := hc' m2 s hs
        have := model_any gb N cb kd rp ot m1 m2 nr ns cr cs fr to pr ps r s w' hN1 (by omega) hgb' hr8 ho8 hm1 hm2 k1 k2 a1 b1 a4 b4 a3 b3 a2 b2 a5 b5
        rw [hXm] at this
        refine this.mono fun e w'' ⟨p3, c3, h1, h2, h3, h4, h5⟩ => ⟨p3, c3, by rw [h1, hNX], Lib.hid ⟨by rw [hNX]; exact h2, h3.1, h4.out, fun hne b o s e => ?_⟩, h5⟩
        rcases h3.2 with ⟨rfl, rfl⟩ | hf
        · exact a6 hne b o s e
        · have := hf b o s e
          exact ⟨by omega, by omega⟩
      have HA1 := Lib.hid (HA.later hbW)
      have HL1 := Lib.hid (HL.later hbW)
      have HWe := Lib.hid hW1
      have HBW := Lib.hid hbW
      have HSW := Lib.hid hsW
      have HGS := Lib.hid (And.intro hga hgb)
      have HNE := Lib.hid hne
      have HNN := Lib.hid hN
      have HNX := Lib.hid hNX
      have HXL := Lib.hid hXl
      have hn1 := heap_alloc_new wr (.cells #[.int .u8 (kd : Nat), .int .u8 (rp : Nat), .int .u8 (ot : Nat), .int .i64 fr, .int .i64 to] 33)
      rw [← hW1] at hn1
      have hS0 : (W1.drew.cell? ⟨wr.heap.size, 0, none⟩ = some (.int .u8 (kd : Nat)) ∧ W1.drew.cell? ⟨wr.heap.size, 1, none⟩ = some (.int .u8 (rp : Nat)) ∧ W1.drew.cell? ⟨wr.heap.size, 2, none⟩ = some (.int .u8 (ot : Nat)) ∧ W1.drew.cell? ⟨wr.heap.size, 3, none⟩ = some (.int .i64 fr) ∧ W1.drew.cell? ⟨wr.heap.size, 4, none⟩ = some (.int .i64 to)) := ⟨by have : W1.drew.cell? ⟨wr.heap.size, 0, none⟩ = W1.cell? ⟨wr.heap.size, 0, none⟩ := rfl; rw [this]; simp [World.cell?, hn1], by have : W1.drew.cell? ⟨wr.heap.size, 1, none⟩ = W1.cell? ⟨wr.heap.size, 1, none⟩ := rfl; rw [this]; simp [World.cell?, hn1], by have : W1.drew.cell? ⟨wr.heap.size, 2, none⟩ = W1.cell? ⟨wr.heap.size, 2, none⟩ := rfl; rw [this]; simp [World.cell?, hn1], by have : W1.drew.cell? ⟨wr.heap.size, 3, none⟩ = W1.cell? ⟨wr.heap.size, 3, none⟩ := rfl; rw [this]; simp [World.cell?, hn1], by have : W1.drew.cell? ⟨wr.heap.size, 4, none⟩ = W1.cell? ⟨wr.heap.size, 4, none⟩ := rfl; rw [this]; simp [World.cell?, hn1]⟩
      have hji : (j : Int) < (nl : Int) := by omega
      have hj0 : (0 : Int) ≤ (j : Int) := by omega
      have hwj : IntKind.i64.wrap ((j : Int) + 1) = (j : Int) + 1 := IntWalk.i64_in _ (by omega)
      rw [← hN] at hga0
      clear hop hls hlen htk hX hXl hXm hca hcb hgb0 hga0 hgaB hga hgb hne hN hm1 hm2 hN1 hi1 hi2 hr hs hNX hbW hsW hlr ka qa kb qb HA HL HRW hk8 hr8 ho8 hbo hn1 hW1
      go_wp2
      rw [← HWe.out]
      rename_i KB hKB
      refine wp_region_held_drew (S := fun w' => (w'.cell? ⟨wr.heap.size, 0, none⟩ = some (.int .u8 (kd : Nat)) ∧ w'.cell? ⟨wr.heap.size, 1, none⟩ = some (.int .u8 (rp : Nat)) ∧ w'.cell? ⟨wr.heap.size, 2, none⟩ = some (.int .u8 (ot : Nat)) ∧ w'.cell? ⟨wr.heap.size, 3, none⟩ = some (.int .i64 fr) ∧ w'.cell? ⟨wr.heap.size, 4, none⟩ = some (.int .i64 to))) (by kernel_rfl) hS0 (fun hHeld => ?_)
      have HS := Lib.hid hHeld
      clear hHeld hS0 c0 c1 c2 c3 c4
      refine wpAnyH_take (i := 0) (v := .slice (some ⟨ga, 0, none⟩) N ca) rfl (by kernel_rfl) (by kernel_rfl) (by kernel_rfl) (fun _ _ _ h => h) (Or.inl ⟨by rfl, by intro w hS; obtain ⟨z0, z1, z2, z3, z4⟩ := hS; go_simp⟩) HS.out ?_
      go_simp
      refine wpAnyH_take (i := 1) (v := .slice (some ⟨ga, 0, none⟩) N ca) rfl (by kernel_rfl) (by kernel_rfl) (by kernel_rfl) (fun _ _ _ h => h) (Or.inl ⟨by rfl, by intro w hS; obtain ⟨z0, z1, z2, z3, z4⟩ := hS; go_simp⟩) HS.out ?_
      go_simp
      refine wpAnyH_take (i := 2) (v := .agg #[.int .u8 (kd : Nat), .int .u8 (rp : Nat), .int .u8 (ot : Nat), .int .i64 fr, .int .i64 to]) rfl (by kernel_rfl) (by kernel_rfl) (by kernel_rfl) (fun _ _ _ h => h) (Or.inl ⟨by rfl, by intro w hS; obtain ⟨z0, z1, z2, z3, z4⟩ := hS; go_simp⟩) HS.out ?_
      go_simp
      refine wpAnyH_take (i := 6) (v := .slice (some ⟨gb, 0, none⟩) N cb) rfl (by kernel_rfl) (by kernel_rfl) (by kernel_rfl) (fun _ _ _ h => h) (Or.inl ⟨by rfl, by intro w hS; obtain ⟨z0, z1, z2, z3, z4⟩ := hS; go_simp⟩) HS.out ?_
      go_simp
      refine wpAnyH_take (i := 7) (v := .slice (some ⟨gb, 0, none⟩) N cb) rfl (by kernel_rfl) (by kernel_rfl) (by kernel_rfl) (fun _ _ _ h => h) (Or.inl ⟨by rfl, by intro w hS; obtain ⟨z0, z1, z2, z3, z4⟩ := hS; go_simp⟩) HS.out ?_
      go_simp
      refine wpAnyH_take (i := 8) (v := .agg #[.int .u8 (kd : Nat), .int .u8 (rp : Nat), .int .u8 (ot : Nat), .int .i64 fr, .int .i64 to]) rfl (by kernel_rfl) (by kernel_rfl) (by kernel_rfl) (fun _ _ _ h => h) (Or.inl ⟨by rfl, by intro w hS; obtain ⟨z0, z1, z2, z3, z4⟩ := hS; go_simp⟩) HS.out ?_
      go_simp
      refine wpAnyH_ready (rs := [3]) (by kernel_rfl) (by simp) ?_
      refine AllReadyH.cons rfl (fun K hK => ?_) AllReadyH.nil
      go_simp
      go_wp2_with (first | (go_at_call 13; refine (CSt.out _ (Below.refl _ _).drew).mono ?_; rintro r1 w5 ⟨c5, rfl, HH5, HB5⟩) | fail)
      have HB15 : Hid (Below W1.heap.size W1 w5) := Lib.hid (bt (Below.refl _ W1).drew HB5.out)
      have hS := keep6 (fun j u h => (HB5.out.cell (p := ⟨wr.heap.size, j, none⟩) HSW.out).trans h) HS.out
      refine hK.out _ _ hS (fun _ => ?_)
      clear hK K
      replace HS := Lib.hid hS
      clear hS
      have HXw5 : Hid (wr.heap.size < w5.heap.size) := Lib.hid (by have := HB15.out.size; have := HSW.out; omega)
      have HWw5 : Hid (Below w.heap.size w w5) := Lib.hid (bt (bt HBR.out HBW.out) HB15.out)
      refine wpAnyH_ready (rs := [4]) (by kernel_rfl) (by simp) ?_
      refine AllReadyH.cons rfl (fun K hK => ?_) AllReadyH.nil
      go_simp
      have hS := keep6 (fun j u h => ((BAo w5 (.cells #[.pointer c5] 28)).cell (p := ⟨wr.heap.size, j, none⟩) HXw5.out).trans h) HS.out
      refine hK.out _ _ hS (fun _ => ?_)
      clear hK K
      replace HS := Lib.hid hS
      clear hS
      obtain ⟨w6, hw6⟩ : ∃ W, W = w5.alloc (.cells #[.pointer c5] 28) := ⟨_, rfl⟩
      have Hw6e := Lib.hid hw6
      have HBw6 : Hid (Below w5.heap.size w5 w6) := Lib.hid (by rw [hw6]; exact BAo _ _)
      have HSw6 : Hid (w.heap.size ≤ w6.heap.size ∧ wr.heap.size < w6.heap.size) := Lib.hid ⟨by have := HBw6.out.size; have := HWw5.out.size; omega, by have := HBw6.out.size; have := HXw5.out; omega⟩
      rw [← hw6] at HS ⊢
      have HNw6 : Hid (∀ (j : Nat) (u : Value), [.pointer c5][j]? = some u → w6.cell? ((⟨w5.heap.size, 0, none⟩ : Addr).add j) = some u) := Lib.hid (by rw [hw6]; exact one_new _ _ _)
      clear hw6
      have hNN := HNN.out
      subst hNN
      have HA6 := Lib.hid ((HA1.out.later HB15.out).later HBw6.out)
      have HL6 := Lib.hid ((HL1.out.later HB15.out).later HBw6.out)
      have HH6 := Lib.hid (HH5.out.later HBw6.out)
      have HI := Lib.hid (info_parts Try.infoRope)
      have HI2 := Lib.hid (info_parts Try.infoSl)
      obtain ⟨i0, hi, hz0, hz1, hz2⟩ := HI.out
      obtain ⟨ga', ca', xs, hv, hown, h3⟩ := HA6.out
      obtain ⟨rfl, rfl⟩ : ga = ga' ∧ ca = ca' := by cases hv; exact ⟨rfl, rfl⟩
      have HOW := Lib.hid hown
      have H3 := Lib.hid h3
      clear hown h3 hv
      refine wpAnyH_ready (rs := [5]) (by kernel_rfl) (by simp) ?_
      refine AllReadyH.cons rfl (fun K hK => ?_) AllReadyH.nil
      refine step_append_lies _ rfl (.tmp 26) (.tmp 30) 30 rfl w.heap.size 28 i0 (.agg #[.pointer none]) 1 8 Try.underlying30 hi hz0 hz1 hz2 rfl (by decide) _ _ xs rfl HOW.out ⟨w5.heap.size, 0, none⟩ 1 1 [.pointer c5] rfl rfl HNw6.out (by intro u hu; simp at hu; subst hu; rfl) (by decide) (by unfold maxLen; have := HJ.out; omega) (by have := HJ.out; omega) HSw6.out.1 _ rfl ?_
      intro g2 ca2 w7 hO7 hg7 hl7 hlt7
      have HG7 : Hid (w6.grownBy w7 (some ga)) := Lib.hid hg7
      have hl7' : ga = g2 ∨ g2 = w6.heap.size := hl7.imp (fun e => by cases e; rfl) id
      have hls0 : ls ≠ [] := fun e => by have := HJ.out; rw [e] at this; simp at this
      have hA7 : LA w7 w.heap.size (.slice (some ⟨g2, 0, none⟩) (ls.length + 1) ca2) (ls ++ [X]) := LA.snoc hls0 HOW.out H3.out hO7 hg7 HH6.out
      have hL7 : LL (· ≠ g2) w7 w.heap.size (.slice (some ⟨gb, 0, none⟩) ls.length cb) ls := LL.row HL6.out hg7 hl7' (fun e => HNE.out (Option.some.inj e))
      have hg26 : g2 ≠ gb := by rcases hl7' with rfl | rfl <;> have := HGS.out.2 <;> have := HSw6.out.2 <;> have := HNE.out <;> omega
      have HA7 := Lib.hid hA7
      have HL7 := Lib.hid hL7
      have HGG := Lib.hid hg26
      have HLT := Lib.hid hlt7
      have HW7 : Hid (Below w.heap.size w w7) := Lib.hid ((bt HWw5.out HBw6.out).grown hg7 (bt HWw5.out HBw6.out).size (fun k e => by cases e; exact (HOW.out.lt ga rfl).1))
      have hgs7 := hg7.size
      have HXw7 : Hid (wr.heap.size < w7.heap.size) := Lib.hid (by have := HSw6.out.2; omega)
      have hS := keep6 (fun j u h => hg7.cell h (fun e => by have e2 : wr.heap.size = ga := (by first | exact Option.some.inj e | exact (Option.some.inj e).symm); have := HGS.out.1; omega)) HS.out
      refine hK.out _ _ hS (fun _ => ?_)
      clear hK K
      replace HS := Lib.hid hS
      clear hS hO7 hg7 hl7 hl7' hlt7 hA7 hL7 hg26 hgs7 hi hz0 hz1 hz2
      go_simp
      refine wpAnyH_ready (rs := [9]) (by kernel_rfl) (by simp) ?_
      refine AllReadyH.cons rfl (fun K hK => ?_) AllReadyH.nil
      go_simp
      go_wp2_with (first | (go_at_call 14; refine (CMd.out g2 _ HL7.out HLT.out).mono ?_; rintro r1 w8 ⟨p3, c3, rfl, HM, HB8⟩) | fail)
      have hS := keep6 (fun j u h => (HB8.out.cell (p := ⟨wr.heap.size, j, none⟩) HXw7.out).trans h) HS.out
      refine hK.out _ _ hS (fun _ => ?_)
      clear hK K
      replace HS := Lib.hid hS
      clear hS
      have HXw8 : Hid (wr.heap.size < w8.heap.size) := Lib.hid (by have := HB8.out.size; have := HXw7.out; omega)
      have HWw8 : Hid (Below w.heap.size w w8) := Lib.hid (bt HW7.out HB8.out)
      refine wpAnyH_ready (rs := [10]) (by kernel_rfl) (by simp) ?_
      refine AllReadyH.cons rfl (fun K hK => ?_) AllReadyH.nil
      go_simp
      have hS := keep6 (fun j u h => ((BAo w8 (.cells #[.slice p3 NX c3] 22)).cell (p := ⟨wr.heap.size, j, none⟩) HXw8.out).trans h) HS.out
      refine hK.out _ _ hS (fun _ => ?_)
      clear hK K
      replace HS := Lib.hid hS
      clear hS
      obtain ⟨w9, hw9⟩ : ∃ W, W = w8.alloc (.cells #[.slice p3 NX c3] 22) := ⟨_, rfl⟩
      have Hw9e := Lib.hid hw9
      have HBw9 : Hid (Below w8.heap.size w8 w9) := Lib.hid (by rw [hw9]; exact BAo _ _)
      have HSw9 : Hid (w.heap.size ≤ w9.heap.size ∧ wr.heap.size < w9.heap.size) := Lib.hid ⟨by have := HBw9.out.size; have := HWw8.out.size; omega, by have := HBw9.out.size; have := HXw8.out; omega⟩
      rw [← hw9] at HS ⊢
      have HNw9 : Hid (∀ (j : Nat) (u : Value), [.slice p3 NX c3][j]? = some u → w9.cell? ((⟨w8.heap.size, 0, none⟩ : Addr).add j) = some u) := Lib.hid (by rw [hw9]; exact one_new _ _ _)
      clear hw9
      have HA9 := Lib.hid ((HA7.out.later HB8.out).later HBw9.out)
      have HL9 := Lib.hid ((HL7.out.later HB8.out).later HBw9.out)
      obtain ⟨i0, hi, hz0, hz1, hz2⟩ := HI2.out
      obtain ⟨gb', cb', ys, hv, hown, h5⟩ := HL9.out
      obtain ⟨rfl, rfl⟩ : gb = gb' ∧ cb = cb' := by cases hv; exact ⟨rfl, rfl⟩
      have HOX := Lib.hid hown
      have H5 := Lib.hid h5
      clear hown h5 hv
      refine wpAnyH_ready (rs := [11]) (by kernel_rfl) (by simp) ?_
      refine AllReadyH.cons rfl (fun K hK => ?_) AllReadyH.nil
      refine step_append_lies _ rfl (.tmp 32) (.tmp 36) 31 rfl w.heap.size 22 i0 (.slice none 0 0) 1 24 Try.underlying31 hi hz0 hz1 hz2 rfl (by decide) _ _ ys rfl HOX.out ⟨w8.heap.size, 0, none⟩ 1 1 [.slice p3 NX c3] rfl rfl HNw9.out (by intro u hu; simp at hu; subst hu; rfl) (by decide) (by unfold maxLen; have := HJ.out; omega) (by have := HJ.out; omega) HSw9.out.1 _ rfl ?_
      intro g3 cb3 w10 hO10 hg10 hl10 hlt10
      have hl10' : gb = g3 ∨ g3 = w9.heap.size := hl10.imp (fun e => by cases e; rfl) id
      have hM := HM.out
      have hL10 : LL (· ≠ g2) w10 w.heap.size (.slice (some ⟨g3, 0, none⟩) (ls.length + 1) cb3) (ls ++ [X]) := LL.snoc HOX.out H5.out hO10 hg10 hl10' HNX.out hM.1 hM.2.1 (hM.2.2.1.later HBw9.out) (by rw [HNX.out]; exact HXL.out) hM.2.2.2
      obtain ⟨l0, hl0⟩ : ∃ l0, ls[0]? = some l0 := ⟨_, List.getElem?_eq_getElem (by have := HJ.out; omega)⟩
      have hu : ∃ p0 n0 c0, w9.cell? ⟨gb, 0, none⟩ = some (.slice p0 n0 c0) := by
        obtain ⟨p0, n0, c0, k0, _⟩ := H5.out 0 l0 hl0
        exact ⟨p0, n0, c0, (HOX.out.cellAt 0 (by have := HJ.out; omega)).trans k0⟩
      obtain ⟨p0, n0, c0, hu⟩ := hu
      have hA10 : LA w10 w.heap.size (.slice (some ⟨g2, 0, none⟩) (ls.length + 1) ca2) (ls ++ [X]) := LA.row HA9.out hg10 hu (fun i e => by cases e) (fun e => HGG.out (Option.some.inj e))
      have hg32 : g3 ≠ g2 := by rcases hl10' with rfl | rfl <;> have := HGG.out <;> have := HLT.out <;> have := HB8.out.size <;> have := HBw9.out.size <;> omega
      have HW10 : Hid (Below w.heap.size w w10) := Lib.hid ((bt HWw8.out HBw9.out).grown hg10 (bt HWw8.out HBw9.out).size (fun k e => by cases e; exact (HOX.out.lt gb rfl).1))
      have HEND : Hid (∃ ga, (Value.slice (some ⟨g2, 0, none⟩) (ls.length + 1) ca2).ownBlock = some ga ∧ LA w10 w.heap.size (.slice (some ⟨g2, 0, none⟩) (ls.length + 1) ca2) (ls ++ [X]) ∧ LL (· ≠ ga) w10 w.heap.size (.slice (some ⟨g3, 0, none⟩) (ls.length + 1) cb3) (ls ++ [X]) ∧ (Value.slice (some ⟨g3, 0, none⟩) (ls.length + 1) cb3).ownBlock ≠ some ga) := Lib.hid ⟨g2, rfl, hA10, hL10, fun e => hg32 (Option.some.inj e)⟩
      have hS := keep6 (fun j u h => hg10.cell h (fun e => by have e2 : wr.heap.size = gb := (by first | exact Option.some.inj e | exact (Option.some.inj e).symm); have := HGS.out.2; omega)) HS.out
      refine hK.out _ _ hS (fun _ => ?_)
      clear hK K
      replace HS := Lib.hid hS
      clear hS hO10 hg10 hl10 hl10' hlt10 hM hL10 hl0 hu hA10 hg32 hi hz0 hz1 hz2
      go_simp
      refine wpAnyH_take (i := 12) (v := .slice (some ⟨g2, 0, none⟩) (ls.length + 1) ca2) rfl (by kernel_rfl) (by kernel_rfl) (by kernel_rfl) (fun _ _ _ h => h) (Or.inl ⟨by rfl, by intro w hS; obtain ⟨z0, z1, z2, z3, z4⟩ := hS; go_simp⟩) HS.out ?_
      go_simp
      refine wpAnyH_take (i := 13) (v := .slice (some ⟨g3, 0, none⟩) (ls.length + 1) cb3) rfl (by kernel_rfl) (by kernel_rfl) (by kernel_rfl) (fun _ _ _ h => h) (Or.inl ⟨by rfl, by intro w hS; obtain ⟨z0, z1, z2, z3, z4⟩ := hS; go_simp⟩) HS.out ?_
      go_simp
      refine wpAnyH_done (by kernel_rfl) ?_ _
      refine hKB _ _ ?_
      clear hKB
      go_wp2
      go_roundw
      case rel => exact ⟨j + 1, by go_num, by omega, Lib.hid (by rw [HR1.out]; exact HEND.out), HW10⟩
      case measure => simp [intOf]; omega
    · obtain rfl : j = nl := by omega
      have hall : ops.take j = ops := by rw [HN.out.2, List.take_length]
      rw [hall] at HRW
      obtain ⟨ls, hls⟩ : ∃ ls, ls = runL [l] ops := ⟨_, rfl⟩
      rw [← hls] at HRW
      have hlen : ls.length ≤ 100 := by rw [hls, runL_len, ← HN.out.2]; simp only [List.length_cons, List.length_nil]; omega
      clear hall hls hjn
      obtain ⟨ga0, hga0, HA, HL, hgb0⟩ := HRW.out
      obtain ⟨ga, ca, rfl, hgaB, hga, hca⟩ := HA.cell
      obtain rfl : ga = ga0 := by simpa [Value.ownBlock] using hga0
      obtain ⟨gb, cb, rfl, hgb, hcb⟩ := HL.cell
      obtain ⟨N, hN⟩ : ∃ N, N = ls.length := ⟨_, rfl⟩
      rw [← hN]
      have HCA := Lib.hid hca
      have HCB := Lib.hid hcb
      have HGS := Lib.hid (And.intro hga hgb)
      have HNN := Lib.hid hN
      have HNB : Hid (N ≤ 1000000) := Lib.hid (by omega)
      clear hga0 HA HL hgb0 hgaB hga hgb hca hcb hN HRW hlen
      rename World => Z
      go_wp2
      go_loopw [41] (fun v wq => ∃ i : Nat, v = .int .i64 i ∧ i ≤ N ∧ Hid (Below Z.heap.size Z wq)) (fun i _ => N - (intOf i).toNat)
      case atStart => exact ⟨0, rfl, Nat.zero_le _, Lib.hid (Below.refl _ _)⟩
      case round =>
        obtain ⟨i, rfl, hi, HBQ⟩ := hrel
        by_cases hin : i < N
        · obtain ⟨m, hm⟩ : ∃ m, ls[i]? = some m := ⟨_, List.getElem?_eq_getElem (by rw [← HNN.out]; exact hin)⟩
          obtain ⟨pa, ka, qa⟩ := HCA.out i m hm
          obtain ⟨pb, nb, cb2, kb, e1, e2, e3, e4, e5, _⟩ := HCB.out i m hm
          have hS0 : wr.drew.cell? ⟨ga, i, none⟩ = some (.pointer pa) ∧ wr.drew.cell? ⟨gb, i, none⟩ = some (.slice pb nb cb2) ∧ Hid (Below Z.heap.size Z wr.drew) := ⟨(HBQ.out.drew.cell (p := ⟨ga, i, none⟩) HGS.out.1).trans ka, (HBQ.out.drew.cell (p := ⟨gb, i, none⟩) HGS.out.2).trans kb, Lib.hid HBQ.out.drew⟩
          have CA : Hid (∀ w', Below Z.heap.size Z w' → Calls Try.prog 15 #[.agg #[.pointer pa], .slice pb nb cb2] w' (fun r w'' => r = .returned (.bool true) ∧ Hid (Below w'.heap.size w' w''))) := Lib.hid fun w' h => by
            have := alike_any pb cb2 pa m w' (qa.later h) (by omega) (e4.later h)
            rwa [← e1] at this
          have hii : (i : Int) < (N : Int) := by omega
          have hi0 : (0 : Int) ≤ (i : Int) := by omega
          have hwi : IntKind.i64.wrap ((i : Int) + 1) = (i : Int) + 1 := IntWalk.i64_in _ (by have := HNB.out; omega)
          clear hm ka qa kb e1 e2 e3 e4 e5
          go_wp2
          rename_i KC hKC
          go_region_held3 (fun w' => w'.cell? ⟨ga, i, none⟩ = some (.pointer pa) ∧ w'.cell? ⟨gb, i, none⟩ = some (.slice pb nb cb2) ∧ Hid (Below Z.heap.size Z w'))
            (first | exact hS0 | (obtain ⟨s1, s2, s3⟩ := (by assumption : _ ∧ _ ∧ Hid (Below Z.heap.size Z _)); exact ⟨(HB9.out.cell (p := ⟨ga, i, none⟩) (Nat.lt_of_lt_of_le HGS.out.1 s3.out.size)).trans s1, (HB9.out.cell (p := ⟨gb, i, none⟩) (Nat.lt_of_lt_of_le HGS.out.2 s3.out.size)).trans s2, Lib.hid (bt s3.out HB9.out)⟩) | assumption)
            (first
              | (go_at_call 15; refine (CA.out _ (Hid.out (And.right (And.right (by assumption))))).mono ?_; rintro r1 w9 ⟨rfl, HB9⟩)
              | fail)
          all_goals
            have HBZ := Lib.hid (Hid.out (And.right (And.right (by assumption : _ ∧ _ ∧ Hid (Below Z.heap.size Z w9)))))
            refine hKC _ _ ?_
            clear hKC
            go_wp2
            go_roundw
            case rel => exact ⟨i + 1, by go_num, by omega, HBZ⟩
            case measure => simp [intOf]; omega
        · obtain rfl : i = N := by omega
          have AW := Lib.hid (awake_any wr)
          go_wp2_with (first
            | (go_at_call 11; refine AW.out.mono ?_; rintro r1 w9 ⟨rfl, HB9⟩)
            | fail)
          go_ret
          exact ⟨rfl, Lib.hid (bt (bt HBR.out HBQ.out) HB9.out)⟩
end Go.Proofs.Ytamcobncfbjdmaa

namespace Go.Proofs.Ytamcobncfbjdmaa
open Go.RowKit Go.ChangeShapes Go.WideShapes Go.Deep

section
variable {H : Type} {enc : TypeId × Value → H} {P : Program} {w : World} {base : Nat} {spare : Nat → Bool} {held : Bool}
theorem slice_fields {t e : TypeId} {fs : Array Field} {fuel : Nat} {cs : List Value} {x : DataW H × List MemPlace} (ht : P.underlying t = some (.slice e)) (he : P.underlying e = some (.struct fs))
    (hone : oneCellFields P fs = true) (hC : P.cellsOf e = fs.size) (h : DataW.trod enc P w base spare held fuel t cs = some x) :
    (cs = [.slice none 0 0] ∧ x = (.nil, [])) ∨
    ∃ (a : Addr) (len cap m : Nat) (D : Nat → DataW H) (R : List (DataW H)), cs = [.slice (some a) len cap] ∧ len ≤ cap ∧ cap ≤ maxLen ∧ m = (if spare a.block then cap else len) ∧
      x.1 = .slice ((List.range len).map D) R ∧
      ∀ i, i < m → ∃ (ys : List (DataW H × List MemPlace)) (n : Nat), D i = .agg (ys.map (·.1)) ∧
        ∀ (j : Nat) (f : Field), fs[j]? = some f → ∃ (v : Value) (y : DataW H × List MemPlace), w.cell? (a.add (i * fs.size + j)) = some v ∧ ys[j]? = some y ∧ DataW.trod enc P w base spare held n f.type [v] = some y := by
  rcases open_slice ht h with h0 | ⟨a, len, cap, m, n, D, Pl, hcs, hb, hl, hm, hmm, hx, hi⟩
  · exact .inl h0
  · refine .inr ⟨a, len, cap, m, D, _, hcs, hl, hm, hmm, by rw [hx], fun i him => ?_⟩
    obtain ⟨cs', hc, ht'⟩ := hi i him
    rw [hC] at hc
    obtain ⟨ys, n', hn', hy, hlen, hyl, hf⟩ := DataW.trod_struct he ht'
    obtain ⟨_, hcl, hat⟩ := World.cells?_some hc
    simp only [Prod.mk.injEq] at hy
    refine ⟨ys, n', hy.1, fun j f hj => ?_⟩
    obtain ⟨ho, hk⟩ := hone_of hone j f hj
    have hjl : j < fs.size := (Array.getElem?_eq_some_iff.1 hj).1
    have hcell := hat j hjl
    have hv : cs'[j]? = some (cs'[j]'(by omega)) := List.getElem?_eq_getElem (by omega)
    have h1 := hf j f hj
    rw [ho, hk] at h1
    have hone' : (cs'.drop j).take 1 = [cs'[j]'(by omega)] := by
      rw [List.drop_eq_getElem_cons (by omega)]
      rfl
    rw [hone'] at h1
    have hys : ys[j]? = some (ys[j]'(by omega)) := List.getElem?_eq_getElem (by omega)
    refine ⟨_, _, ?_, hys, h1.trans hys⟩
    rw [← Go.Deep.add_add, hcell, hv]
end

theorem list_of {β : Type} (Pr : Nat → β → Prop) : ∀ n, (∀ i, i < n → ∃ o, Pr i o) → ∃ L : List β, L.length = n ∧ ∀ i o, L[i]? = some o → Pr i o
  | 0, _ => ⟨[], rfl, fun i o h => by simp at h⟩
  | n + 1, h => by
    obtain ⟨L, hl, hp⟩ := list_of Pr n (fun i hi => h i (by omega))
    obtain ⟨o, ho⟩ := h n (by omega)
    refine ⟨L ++ [o], by simp [hl], fun i q hq => ?_⟩
    by_cases hi : i < L.length
    · rw [List.getElem?_append_left hi] at hq
      exact hp i q hq
    · have hi2 : i < L.length + 1 := by have := (List.getElem?_eq_some_iff.1 hq).1; simpa using this
      obtain rfl : i = L.length := by omega
      rw [List.getElem?_append_right (Nat.le_refl _), Nat.sub_self] at hq
      obtain rfl : o = q := by simpa using hq
      rw [hl]
      exact ho

theorem opsAt_of {H : Type} {enc : TypeId × Value → H} {W : World} {a : Option Addr} {len cap : Nat} {d : DataW H} {ps : List MemPlace} (h : DataW.Trod enc Try.prog W 0 (fun _ => true) true 23 (.slice a len cap) d ps) :
    ∃ ops : List OpD, ops.length = len ∧ OpsAt W a ops := by
  have hlt := trod_blocks h
  obtain ⟨fuel, hf⟩ := h
  rcases slice_fields Try.underlying23 Try.underlying33 (by kernel_rfl) (by kernel_rfl) hf with ⟨hcs, _⟩ | ⟨a', len', cap', m, D, R, hcs, hl, hm, hmm, hxx, hfd⟩
  · simp [Value.cells] at hcs
    obtain ⟨rfl, rfl, rfl⟩ := hcs
    exact ⟨[], rfl, fun j _ _ _ _ _ hj => by simp at hj⟩
  · simp [Value.cells] at hcs
    obtain ⟨rfl, rfl, rfl⟩ := hcs
    simp only [if_true] at hmm
    subst hmm
    by_cases hl0 : len = 0
    · subst hl0
      exact ⟨[], rfl, fun j _ _ _ _ _ hj => by simp at hj⟩
    · obtain ⟨b, o, spot⟩ := a'
      have hspot : spot = none := by
        obtain ⟨ys, n', _, hj⟩ := hfd 0 (by omega)
        obtain ⟨v, y, hc, _⟩ := hj 0 _ rfl
        simpa [Addr.add] using World.cell?_spot hc
      subst hspot
      have hb : b < W.heap.size := by
        obtain ⟨ys, n', _, hj⟩ := hfd 0 (by omega)
        obtain ⟨v, y, hc, _⟩ := hj 0 _ rfl
        have := World.block_lt_of_cell? W _ hc
        rwa [show ((⟨b, o, none⟩ : Addr).add _).block = b from by unfold Addr.add; split <;> simp_all] at this
      have hadd : ∀ j, (⟨b, o, none⟩ : Addr).add j = ⟨b, o + j, none⟩ := fun j => by unfold Addr.add; split <;> simp_all
      obtain ⟨ops, h1, h2⟩ := list_of (fun i (q : OpD) => q.1 < 256 ∧ q.2.1 < 256 ∧ q.2.2.1 < 256 ∧ W.cell? ⟨b, o + i * 5, none⟩ = some (.int .u8 (q.1 : Nat)) ∧ W.cell? ⟨b, o + i * 5 + 1, none⟩ = some (.int .u8 (q.2.1 : Nat)) ∧ W.cell? ⟨b, o + i * 5 + 2, none⟩ = some (.int .u8 (q.2.2.1 : Nat)) ∧ W.cell? ⟨b, o + i * 5 + 3, none⟩ = some (.int .i64 q.2.2.2.1) ∧ W.cell? ⟨b, o + i * 5 + 4, none⟩ = some (.int .i64 q.2.2.2.2)) len (fun i hi => by
        obtain ⟨ys, n', hD, hj⟩ := hfd i (by omega)
        obtain ⟨v0, y0, hc0, _, ht0⟩ := hj 0 _ rfl
        obtain ⟨v1, y1, hc1, _, ht1⟩ := hj 1 _ rfl
        obtain ⟨v2, y2, hc2, _, ht2⟩ := hj 2 _ rfl
        obtain ⟨v3, y3, hc3, _, ht3⟩ := hj 3 _ rfl
        obtain ⟨v4, y4, hc4, _, ht4⟩ := hj 4 _ rfl
        obtain ⟨k0, e0, _, w0⟩ := DataW.trod_int Try.underlying5 ht0
        obtain ⟨k1, e1, _, w1⟩ := DataW.trod_int Try.underlying5 ht1
        obtain ⟨k2, e2, _, w2⟩ := DataW.trod_int Try.underlying5 ht2
        obtain ⟨k3, e3, _, _⟩ := DataW.trod_int Try.underlying3 ht3
        obtain ⟨k4, e4, _, _⟩ := DataW.trod_int Try.underlying3 ht4
        simp only [List.cons.injEq, and_true] at e0 e1 e2 e3 e4
        subst e0 e1 e2 e3 e4
        rw [hadd] at hc0 hc1 hc2 hc3 hc4
        have b0 : 0 ≤ k0 ∧ k0 ≤ 255 := by simpa [Lit.wf, IntKind.min, IntKind.max, IntKind.signed, IntKind.bits] using w0
        have b1 : 0 ≤ k1 ∧ k1 ≤ 255 := by simpa [Lit.wf, IntKind.min, IntKind.max, IntKind.signed, IntKind.bits] using w1
        have b2 : 0 ≤ k2 ∧ k2 ≤ 255 := by simpa [Lit.wf, IntKind.min, IntKind.max, IntKind.signed, IntKind.bits] using w2
        have z0 : ((k0.toNat : Nat) : Int) = k0 := Int.toNat_of_nonneg b0.1
        have z1 : ((k1.toNat : Nat) : Int) = k1 := Int.toNat_of_nonneg b1.1
        have z2 : ((k2.toNat : Nat) : Int) = k2 := Int.toNat_of_nonneg b2.1
        refine ⟨(k0.toNat, k1.toNat, k2.toNat, k3, k4), ?_⟩
        refine ⟨by show k0.toNat < 256; omega, by show k1.toNat < 256; omega, by show k2.toNat < 256; omega, ?_, ?_, ?_, ?_, ?_⟩
        · show _ = some (Value.int .u8 ((k0.toNat : Nat) : Int))
          rw [z0]; exact hc0
        · show _ = some (Value.int .u8 ((k1.toNat : Nat) : Int))
          rw [z1]; exact hc1
        · show _ = some (Value.int .u8 ((k2.toNat : Nat) : Int))
          rw [z2]; exact hc2
        · exact hc3
        · exact hc4)
      refine ⟨ops, h1, fun j kd rp ot fr to hj => ⟨b, o, rfl, hb, ?_⟩⟩
      exact h2 j (kd, rp, ot, fr, to) hj
end Go.Proofs.Ytamcobncfbjdmaa

namespace Go.Proofs.Ytamcobncfbjdmaa
open Go.RowKit Go.ChangeShapes Go.WideShapes Go.Deep

theorem lawSteps_any (p pl : Option Addr) (n c nl cl : Nat) (l : List Int) (ops : List OpD) (w : World) (hn : n = l.length) (hnl : nl = ops.length) (hq : SqL w p l) (hc : n ≤ c) (hz : p = none → c = 0) (ho : OpsAt w pl ops) :
    Calls Try.prog 3 #[.slice p n c, .slice pl nl cl] w (fun r w' => r = .returned (.bool true) ∧ Below w.heap.size w w') := by
  have AW := Lib.hid (fun w => awake_any w)
  by_cases h : n ≤ 500 ∧ nl ≤ 60
  · by_cases hok : okL [l] ops = true
    · exact (steps_any p pl n c nl cl l ops w hn hnl hq hc hz ho h.1 h.2 hok).mono fun r w' h => ⟨h.1, h.2.out⟩
    · have CS' := small_any p pl n c nl cl l ops w hn hnl hq hc hz ho h.1 h.2
      rw [show okL [l] ops = false from by simpa using hok] at CS'
      have CS := Lib.hid CS'
      clear CS' hq ho hn hnl hc hz hok h
      go_enter Try.func3, Try.ntmps3
      go_wp2_with (first
        | (go_at_call 10; refine CS.out.mono ?_; rintro r w1 ⟨rfl, HB1⟩)
        | (go_at_call 11; refine (AW.out _).mono ?_; rintro r w2 ⟨rfl, HB2⟩)
        | fail)
      go_ret
      exact ⟨rfl, bt HB1.out HB2.out⟩
  · have CS := Lib.hid (smallNo_any p pl n c nl cl w (by omega))
    clear hq ho hn hnl hc hz h
    go_enter Try.func3, Try.ntmps3
    go_wp2_with (first
      | (go_at_call 10; refine CS.out.mono ?_; rintro r w1 ⟨rfl, HB1⟩)
      | (go_at_call 11; refine (AW.out _).mono ?_; rintro r w2 ⟨rfl, HB2⟩)
      | fail)
    go_ret
    subst HB1
    exact ⟨rfl, HB2.out⟩
end Go.Proofs.Ytamcobncfbjdmaa
