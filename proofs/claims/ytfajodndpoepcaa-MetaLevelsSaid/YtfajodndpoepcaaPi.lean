/- The law on pieces: the walk. -/
import Derived.Test.YtfajodndpoepcaaIn
import Derived.Test.YtfajodndpoepcaaVg
namespace Go.Proofs.Ytfajodndpoepcaa
open Go.RowKit TmM

theorem Sl.slS {n : Nat} {S : Nat → Prop} {w : World} {a : Option Addr} {cap : Nat} {f : Fo} (h : Sl n w a cap f) (hS : ∀ b, b < n → S b) : SlS S w a cap f :=
  ⟨h.1, h.2.1, h.2.2.1, h.2.2.2.elim .inl (fun ⟨b, o, zs, ha, hlt, hc, hz⟩ => .inr ⟨b, o, zs, ha, hS b hlt, hc, hz.repsS hS⟩)⟩
theorem Put.ofSl {n : Nat} {w : World} {v : Value} {a : Option Addr} {cap : Nat} {f : Fo} (h : Sl n w a cap f) (hn : n ≤ w.heap.size) (hv : ∀ k, v.ownBlock = some k → n ≤ k) : Put (fun b => 0 ≤ b ∧ b < w.heap.size ∧ v.ownBlock ≠ some b) w a cap f :=
  Put.of (h.slS (fun b hb => ⟨Nat.zero_le _, by omega, fun e => by have := hv b e; omega⟩))

/-- append behind a guard that lets it by. -/
theorem wpList_append_guarded {base : Nat} {w : World} {v : Value} {G H : Fo} {ad : Option Addr} {c m : Nat} {ops : Array Oper} {rest : List Oper} {o : Oper} {a : Act} {Q : Exit → Act → World → Prop} (hw : Region.wanted o (yielded ops a.tmps) = true) (s x : Operand) (ho : o.op = .call { callee := .builtin .append, args := #[s, x], argTypes := #[22, 22] })
    (hB : Built base w v G) (hs : a.eval s = v) (hx : a.eval x = .slice ad m c) (hm : m = H.len) (hp : Put (fun b => base ≤ b ∧ b < w.heap.size ∧ v.ownBlock ≠ some b) w ad c H) (hl : G.len + H.len ≤ 8000000)
    (h : ∀ v' w', Built base w' v' (G.app H) → w.grownBy w' v.ownBlock → (v'.ownBlock = v.ownBlock ∨ v'.ownBlock = some w.heap.size) → wpList Try.prog ops Q rest (a.put o.dst v') w') : wpList Try.prog ops Q (o :: rest) a w :=
  wpList_step fun _ hK => by
    rw [if_pos hw]
    exact wp_append_built s x ho hB hs hx hm hp hl fun v' w' h1 h2 h3 => hK _ _ (h v' w' h1 h2 h3)

/-- a list of the call's own, in a block from n on. -/
def Mine (n : Nat) (w : World) (v : Value) (G : Fo) : Prop := Built 0 w v G ∧ ∀ k, v.ownBlock = some k → n ≤ k
theorem Mine.empty {n m : Nat} {w : World} (hm : m = w.heap.size) (hn : n ≤ w.heap.size) : Mine n (w.alloc (.cells #[] 35)) (.slice (some ⟨m, 0, none⟩) 0 0) .nil := by
  subst hm
  exact ⟨Built.lit (base := 0) (m := 0) (xs := []) (G := .nil) (S := fun _ => False) rfl rfl rfl (fun _ h => h.elim) (by decide) (Nat.zero_le _), fun k hk => by simp [Value.ownBlock] at hk; omega⟩
theorem Mine.next {n : Nat} {w w' : World} {v v' : Value} {G G' : Fo} (h : Mine n w v G) (hB : Built 0 w' v' G') (hat : v'.ownBlock = v.ownBlock ∨ v'.ownBlock = some w.heap.size) (hn : n ≤ w.heap.size) : Mine n w' v' G' :=
  ⟨hB, fun k hk => by
    rcases hat with e | e
    · rw [e] at hk; exact h.2 k hk
    · rw [e] at hk; cases hk; exact hn⟩
theorem Mine.below {n : Nat} {w0 w w' : World} {v : Value} {G : Fo} (h : Mine n w v G) (hb : Below n w0 w) (hg : w.grownBy w' v.ownBlock) (hn : n ≤ w.heap.size) : Below n w0 w' := hb.grown hg hn h.2

set_option maxHeartbeats 6400000 in
set_option maxRecDepth 100000 in
theorem lawPieces_any (f g : Fo) (a a' : Option Addr) (cap cap' : Nat) (w : World) (hs : Sl w.heap.size w a cap f) (hs' : Sl w.heap.size w a' cap' g) :
    Calls Try.prog 7 #[.slice a f.len cap, .slice a' g.len cap'] w (OutV w (.bool true)) := by
  have SM := Lib.hid (small_any f a cap 600 w (by decide) (by decide) hs)
  have SM' := Lib.hid (small_any g a' cap' 600 w (by decide) (by decide) hs')
  have HS := Lib.hid hs
  have HS' := Lib.hid hs'
  clear hs hs'
  go_enter Try.func7, Try.ntmps7
  go_wp2_with fail
  refine SM.out.mono ?_
  rintro e w1 ⟨r, rfl, hr, rfl⟩
  cases r
  · clear hr SM SM'
    go_wp2_with fail
    refine (awake_any _).mono ?_
    rintro e w2 ⟨rfl, hb2⟩
    go_wp2
    go_ret
    exact ⟨rfl, hb2⟩
  go_wp2_with fail
  refine SM'.out.mono ?_
  rintro e w1 ⟨r', rfl, hr', rfl⟩
  cases r'
  · clear hr hr' SM SM'
    go_wp2_with fail
    refine (awake_any _).mono ?_
    rintro e w2 ⟨rfl, hb2⟩
    go_wp2
    go_ret
    exact ⟨rfl, hb2⟩
  have hc := (hr.out (by trivial)).1
  have hsm := (hr.out (by trivial)).2
  have hc' := (hr'.out (by trivial)).1
  have hsm' := (hr'.out (by trivial)).2
  rw [show (600 : Int).toNat = 600 from rfl] at hc hc'
  have P1 := Lib.hid (pUp_any f a cap w (by omega) hsm HS.out)
  have P2 := Lib.hid (fun w' (h : Below w.heap.size w w') => pUp_any g a' cap' w' (by omega) hsm' (HS'.out.later h))
  have HCC := Lib.hid (And.intro hc hc')
  have HSM := Lib.hid ((small_app f g).2 ⟨hsm, hsm'⟩)
  obtain ⟨V1, hV1⟩ : ∃ V, V = (upR f).1 := ⟨_, rfl⟩
  obtain ⟨q1, hq1⟩ : ∃ q, q = (upR f).2 := ⟨_, rfl⟩
  obtain ⟨V2, hV2⟩ : ∃ V, V = (upR g).1 := ⟨_, rfl⟩
  obtain ⟨q2, hq2⟩ : ∃ q, q = (upR g).2 := ⟨_, rfl⟩
  unfold OutUp at P1 P2
  rw [← hV1, ← hq1] at P1
  rw [← hV2, ← hq2] at P2
  obtain ⟨m1, hm1⟩ : ∃ m, m = V1.len := ⟨_, rfl⟩
  obtain ⟨m2, hm2⟩ : ∃ m, m = V2.len := ⟨_, rfl⟩
  rw [← hm1] at P1
  rw [← hm2] at P2
  have H1 := Lib.hid (And.intro hV1 (And.intro hq1 hm1))
  have H2 := Lib.hid (And.intro hV2 (And.intro hq2 hm2))
  clear hr hr' SM SM' hc hsm hc' hsm' hV1 hq1 hm1 hV2 hq2 hm2
  go_wp2_with fail
  refine P1.out.mono ?_
  rintro e w2 ⟨a2, cap2, rfl, hs2, hb2⟩
  go_wp2_with fail
  refine (P2.out w2 hb2).mono ?_
  rintro e w3 ⟨a3, cap3, rfl, hs3, hb3⟩
  have hb23 := hb2.trans (hb3.mono hb2.size)
  have HV1 := Lib.hid ((hs2.out.sl (fun b hb => hb.2)).later hb3)
  have HV2 := Lib.hid (hs3.out.sl (fun b hb => hb.2))
  clear hs2 hs3 hb2 hb3 P1 P2
  by_cases h1 : q1 = 0
  · by_cases h2 : q2 = 0
    · subst h1 h2
      have k1 := upR_ok H1.out.2.1.symm
      have k2 := upR_ok H2.out.2.1.symm
      have HUV : Hid (upR (f.app g) = (V1.app V2, 0)) := Lib.hid (by rw [upR_pieces H1.out.2.1.symm H2.out.2.1.symm HCC.out.1 HCC.out.2, H1.out.1, H2.out.1, k1.2.2, k2.2.2])
      have HEQ : Hid (eqF V1 V2 = eqF f g) := Lib.hid (by rw [H1.out.1, H2.out.1, k1.2.2, k2.2.2]; exact up_eqF (wrong_form k1.1).2.2 (wrong_form k2.1).2.2)
      have HLL := Lib.hid (show f.len ≤ 600 ∧ g.len ≤ 600 from ⟨Nat.le_trans (Fo.len_le_count f) HCC.out.1, Nat.le_trans (Fo.len_le_count g) HCC.out.2⟩)
      have HVL := Lib.hid (show V1.len ≤ 4000 ∧ V2.len ≤ 4000 from by
        rw [H1.out.1, H2.out.1, k1.2.2, k2.2.2]
        exact ⟨Nat.le_trans (Fo.len_le_count _) (fits_parts k1.2.1).1, Nat.le_trans (Fo.len_le_count _) (fits_parts k2.2.1).1⟩)
      have HS3 := Lib.hid (HS.out.later hb23)
      have HS3' := Lib.hid (HS'.out.later hb23)
      have Q0 := Lib.hid ((Below.refl w3.heap.size w3).alloc (Nat.le_refl _) (.cells #[] 35))
      have M0 := Lib.hid (Mine.empty (n := w3.heap.size) (w := w3) rfl (Nat.le_refl _))
      have HB23 := Lib.hid hb23
      have P3 := Lib.hid (fun a cap w (h : Sl w.heap.size w a cap (f.app g)) => pUp_any (f.app g) a cap w (by rw [Fo.count_app]; have := HCC.out; omega) HSM.out h)
      obtain ⟨m6, hm6⟩ : ∃ m, m = (V1.app V2).len := ⟨_, rfl⟩
      obtain ⟨m5, hm5⟩ : ∃ m, m = (f.app g).len := ⟨_, rfl⟩
      unfold OutUp at P3
      rw [HUV.out, ← hm5] at P3
      simp only at P3
      rw [← hm6] at P3
      have HM5 := Lib.hid hm5
      have HM6 := Lib.hid hm6
      clear k1 k2 hm5 hm6 hb23
      go_wp2_with (first
        | (at_builtin; refine wpList_append_built (base := 0) (G := .nil) (H := f) rfl (.tmp 38) (.tmp 39) rfl M0.out.1 rfl rfl rfl (Put.ofSl (HS3.out.below Q0.out (Nat.le_refl _)) Q0.out.size M0.out.2) (by have := HLL.out; simp only [Fo.len_nil]; omega) ?_; intro v4 w4 hB4 hgrow4 hat4; have M4 := Lib.hid (M0.out.next hB4 hat4 Q0.out.size); have Q4 := Lib.hid (M0.out.below Q0.out hgrow4 Q0.out.size); clear hB4 hgrow4 hat4)
        | (at_builtin; refine wpList_append_built (base := 0) (G := f) (H := g) rfl (.tmp 40) (.tmp 41) rfl M4.out.1 rfl rfl rfl (Put.ofSl (HS3'.out.below Q4.out (Nat.le_refl _)) Q4.out.size M4.out.2) (by have := HLL.out; omega) ?_; intro v5 w5 hB5 hgrow5 hat5; have M5 := Lib.hid (M4.out.next hB5 hat5 Q4.out.size); have Q5 := Lib.hid (M4.out.below Q4.out hgrow5 Q4.out.size); obtain ⟨a5, m5', cap5, hv5, hm5', hs5⟩ := hB5.slm; rw [← HM5.out] at hm5'; subst hm5' hv5; clear hB5 hgrow5 hat5)
        | fail)
      refine (P3.out a5 cap5 w5 (hs5.sl (fun b hb => hb.2))).mono ?_
      rintro e w6 ⟨a6, cap6, rfl, hs6, hb6⟩
      have Q6 := Lib.hid (Q5.out.trans (hb6.mono Q5.out.size))
      have HS6 := Lib.hid (hs6.out.sl (n := w6.heap.size) (fun b hb => hb.2))
      have HT1 := Lib.hid (HV1.out.below Q6.out (Nat.le_refl _))
      have HT2 := Lib.hid (HV2.out.below Q6.out (Nat.le_refl _))
      have R0 := Lib.hid (Q6.out.alloc Q6.out.size (.cells #[] 35))
      have N0 := Lib.hid (Mine.empty (n := w6.heap.size) (w := w6) rfl (Nat.le_refl _))
      have HM1 := Lib.hid H1.out.2.2
      have HM2 := Lib.hid H2.out.2.2
      clear M0 M4 M5 Q0 Q4 Q5 hs5 P3 hs6 hb6
      go_wp2_with (first
        | (at_builtin; refine wpList_append_guarded (base := 0) (G := .nil) (H := V1) (by rfl) (.tmp 50) (.tmp 51) rfl N0.out.1 rfl rfl HM1.out (Put.ofSl (n := w3.heap.size) (HT1.out.below ((Below.refl _ _).alloc Q6.out.size _) (Nat.le_refl _)) R0.out.size (fun k hk => Nat.le_trans Q6.out.size (N0.out.2 k hk))) (by have := HVL.out; simp only [Fo.len_nil]; omega) ?_; intro v7 w7 hB7 hgrow7 hat7; have N7 := Lib.hid (N0.out.next hB7 hat7 (by simp)); have R7 := Lib.hid (R0.out.grown hgrow7 R0.out.size (fun k hk => Nat.le_trans Q6.out.size (N0.out.2 k hk))); have Z7 := Lib.hid (N0.out.below ((Below.refl w6.heap.size w6).alloc (Nat.le_refl _) _) hgrow7 (by simp)); clear hB7 hgrow7 hat7)
        | (at_builtin; refine wpList_append_guarded (base := 0) (G := V1) (H := V2) (by rfl) (.tmp 52) (.tmp 53) rfl N7.out.1 rfl rfl HM2.out (Put.ofSl (n := w3.heap.size) (HV2.out.below R7.out (Nat.le_refl _)) R7.out.size (fun k hk => Nat.le_trans Q6.out.size (N7.out.2 k hk))) (by have := HVL.out; omega) ?_; intro v8 w8 hB8 hgrow8 hat8; have Z8 := Lib.hid (N7.out.below Z7.out hgrow8 Z7.out.size); obtain ⟨a8, m8, cap8, hv8, hm8, hs8⟩ := hB8.slm; rw [← HM6.out] at hm8; subst hm8 hv8; clear hB8 hgrow8 hat8)
        | fail)
      have E1 : Hid (Calls Try.prog 13 #[.slice a6 m8 cap6, .slice a8 m8 cap8] w8 (OutV w8 (.bool true))) := Lib.hid (by
        rw [HM6.out]
        have h := equal_any (V1.app V2) (V1.app V2) a6 a8 cap6 cap8 w8 (HS6.out.later Z8.out) (hs8.sl (fun b hb => hb.2))
        rw [eqF_self] at h
        exact h)
      have T1 := Lib.hid (HT1.out.below (Below.refl w3.heap.size w6) Q6.out.size)
      have T2 := Lib.hid (HT2.out.below (Below.refl w3.heap.size w6) Q6.out.size)
      have T3 := Lib.hid (HS3.out.below Q6.out Q6.out.size)
      have T4 := Lib.hid (HS3'.out.below Q6.out Q6.out.size)
      obtain ⟨r, hr9⟩ : ∃ r, r = eqF f g := ⟨_, rfl⟩
      have HR9 := Lib.hid hr9
      clear hr9 N0 N7 R0 R7 Z7 hs8
      refine E1.out.mono ?_
      rintro e w9 ⟨rfl, hb9⟩
      have Z9 := Lib.hid (Z8.out.trans (hb9.mono Z8.out.size))
      have E2 : Hid (Calls Try.prog 13 #[.slice a2 m1 cap2, .slice a3 m2 cap3] w9 (OutV w9 (.bool r))) := Lib.hid (by
        rw [HM1.out, HM2.out, HR9.out, ← HEQ.out]
        exact equal_any V1 V2 a2 a3 cap2 cap3 w9 (T1.out.later Z9.out) (T2.out.later Z9.out))
      clear hb9 E1
      go_wp2_with fail
      refine E2.out.mono ?_
      rintro e w10 ⟨rfl, hb10⟩
      have Z10 := Lib.hid (Z9.out.trans (hb10.mono Z9.out.size))
      have E3 : Hid (Calls Try.prog 13 #[.slice a f.len cap, .slice a' g.len cap'] w10 (OutV w10 (.bool r))) := Lib.hid (by
        rw [HR9.out]
        exact equal_any f g a a' cap cap' w10 (T3.out.later Z10.out) (T4.out.later Z10.out))
      clear hb10 E2
      go_wp2_with fail
      refine E3.out.mono ?_
      rintro e w11 ⟨rfl, hb11⟩
      have Z11 := Lib.hid (Z10.out.trans (hb11.mono Z10.out.size))
      clear hb11 E3
      go_wp2_with fail
      refine (awake_any _).mono ?_
      rintro e w12 ⟨rfl, hb12⟩
      have Z12 := Z11.out.trans (hb12.mono Z11.out.size)
      have B6 := HB23.out.trans (Q6.out.mono HB23.out.size)
      go_wp2
      go_ret
      exact ⟨rfl, B6.trans (Z12.mono B6.size)⟩
    · have e2 : (q2 == 0) = false := by simpa using h2
      subst h1
      clear h2
      go_wp2_with fail
      refine (awake_any _).mono ?_
      rintro e w5 ⟨rfl, hb5⟩
      go_wp2
      go_ret
      exact ⟨rfl, hb23.trans (hb5.mono hb23.size)⟩
  · have e1 : (q1 == 0) = false := by simpa using h1
    clear h1
    go_wp2_with fail
    refine (awake_any _).mono ?_
    rintro e w5 ⟨rfl, hb5⟩
    go_wp2
    go_ret
    exact ⟨rfl, hb23.trans (hb5.mono hb23.size)⟩
end Go.Proofs.Ytfajodndpoepcaa
