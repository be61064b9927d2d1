/- The law of orders and copies. -/
import Derived.Test.YtajdpchojimigaaTe
import Derived.Test.YtajdpchojimigaaCj
import Derived.Test.YtajdpchojimigaaYj
namespace Go.Proofs.Ytajdpchojimigaa
open Go.RowKit Go.Shelf TmM

/-- the test at two expressions. -/
theorem small2e_any (f g : Fo) (a a' : Option Addr) (cap cap' : Nat) (v : Int) (w : World) (hl : f.len ≤ 140737488355327) (hl' : g.len ≤ 140737488355327) (hrc : Reach f) (hrc' : Reach g) (hs : Sl w.heap.size w a cap f) (hs' : Sl w.heap.size w a' cap' g) (hv0 : 0 ≤ v) (hv1 : v ≤ 9000) :
    Calls Try.prog 10 #[.int .i64 v, .slice (some ⟨w.heap.size, 0, none⟩) 2 2] (w.alloc (.cells #[.slice a f.len cap, .slice a' g.len cap'] 22)) (fun e w' => ∃ ok : Bool, e = .returned (.bool ok) ∧ Hid (Below w.heap.size w w') ∧ Hid (ok = true → ((f.count + g.count : Nat) : Int) ≤ v ∧ Small f ∧ Small g)) := by
  have hb : Below w.heap.size w (w.alloc (.cells #[.slice a f.len cap, .slice a' g.len cap'] 22)) := (Below.refl _ _).alloc (Nat.le_refl _) _
  refine (smallL_any [(a, cap, f), (a', cap', g)] w.heap.size v _ (by simp) (by simp) ?_ ?_ hv0 hv1).mono ?_
  · intro j x hj
    match j, hj with
    | 0, hj =>
      obtain rfl : (a, cap, f) = x := by simpa using hj
      rw [World.cell?_alloc_at _ _ _ _ rfl]; rfl
    | 1, hj =>
      obtain rfl : (a', cap', g) = x := by simpa using hj
      rw [World.cell?_alloc_at _ _ _ _ rfl]; rfl
  · intro x hx
    rw [List.mem_cons, List.mem_singleton] at hx
    rcases hx with rfl | rfl
    · exact ⟨hl, hrc, hs.below hb hb.size⟩
    · exact ⟨hl', hrc', hs'.below hb hb.size⟩
  · rintro e w' ⟨i, rfl, hb', hf⟩
    refine ⟨_, rfl, Lib.hid (hb.trans (hb'.out.mono (by simp))), Lib.hid (fun h => ?_)⟩
    obtain ⟨h1, h2⟩ := hf.out (by simp at h; omega)
    exact ⟨by simpa [sumC] using h1, h2 (a, cap, f) (by simp), h2 (a', cap', g) (by simp)⟩

theorem sk_arg {n : Nat} {w : World} {a : Option Addr} {cap : Nat} {f : Fo} (h : SlS (fun b => n ≤ b ∧ b < w.heap.size ∧ Fro w b) w a cap f) (hsm : Small f) : f = .nil ∨ ∃ b o, a = some ⟨b, o, none⟩ ∧ n ≤ b ∧ SkR n 1000000 w f b o := by
  rcases h.2.2.2 with h0 | ⟨b, o, zs, ha, hb, hc, hz⟩
  · exact .inl h0
  · exact .inr ⟨b, o, ha, hb.1, sk_of (S := fun b => n ≤ b ∧ b < w.heap.size ∧ Fro w b) (fun b hb => ⟨hb.1, hb.2.2⟩) hb.2.2 hz hc hsm⟩

set_option maxHeartbeats 25600000 in
set_option maxRecDepth 100000 in
theorem lawOrders_any (f g : Fo) (a a' : Option Addr) (cap cap' : Nat) (w : World) (hl : f.len ≤ 140737488355327) (hl' : g.len ≤ 140737488355327) (hrc : Reach f) (hrc' : Reach g) (hs : Sl w.heap.size w a cap f) (hs' : Sl w.heap.size w a' cap' g) :
    Calls Try.prog 4 #[.slice a f.len cap, .slice a' g.len cap'] w (OutV w (.bool true)) := by
  have S := Lib.hid (small2e_any f g a a' cap cap' 2000 w hl hl' hrc hrc' hs hs' (by decide) (by decide))
  have HS := Lib.hid hs
  have HS' := Lib.hid hs'
  have AW := Lib.hid (fun w => awake_any w)
  clear hrc hrc' hs hs'
  go_enter Try.func4, Try.ntmps4
  go_wp2_with (first
    | (go_at_call 10; refine S.out.mono ?_; rintro e w2 ⟨ok, rfl, hb2, hf2⟩)
    | (go_at_call 11; refine (AW.out _).mono ?_; rintro e w3 ⟨rfl, hb3⟩)
    | fail)
  · go_ret
    exact ⟨rfl, hb2.out.trans (hb3.mono hb2.out.size)⟩
  · have h0 : (!ok) = false := by assumption
    obtain ⟨hc, hsf, hsg⟩ := hf2.out (by simpa using h0)
    have hcf : f.count ≤ 2000 := by omega
    have hc6 : f.count ≤ 1000000 := by omega
    have HSF := Lib.hid hsf
    have A1 := Lib.hid (fun w2 (hb : Hid (Below w.heap.size w w2)) => HS.out.below hb.out hb.out.size)
    have A2 := Lib.hid (fun w2 (hb : Hid (Below w.heap.size w w2)) => HS'.out.below hb.out hb.out.size)
    have P1 := Lib.hid (fun w2 (hb : Hid (Below w.heap.size w w2)) => pequal_any f g a a' cap cap' w2 (A1.out w2 hb) (A2.out w2 hb))
    have R1 := Lib.hid (fun w2 (hb : Hid (Below w.heap.size w w2)) => equal_any f g a a' cap cap' w2 (A1.out w2 hb) (A2.out w2 hb))
    have P2 := Lib.hid (fun w2 (hb : Hid (Below w.heap.size w w2)) => pcompare_any f g a a' cap cap' w2 hsf hsg (A1.out w2 hb) (A2.out w2 hb))
    have R2 := Lib.hid (fun w2 (hb : Hid (Below w.heap.size w w2)) => compare_n f.count f g a a' cap cap' w2 (Nat.le_refl _) (A1.out w2 hb) (A2.out w2 hb))
    have T1 := Lib.hid (fun w2 (hb : Hid (Below w.heap.size w w2)) => twin_any f a cap w2 hc6 (A1.out w2 hb))
    have C1 := Lib.hid (fun w2 (hb : Hid (Below w.heap.size w w2)) => copy_any f a cap w2 hc6 (A1.out w2 hb))
    have E1 := Lib.hid (fun a1 a2 c1 c2 w2 h1 h2 => equal_any f f a1 a2 c1 c2 w2 h1 h2)
    rw [eqF_self] at E1
    have SP := Lib.hid (fun a1 c1 n w2 h => sp_all f.count f a1 c1 n 1000000 w2 (Nat.le_refl _) (by omega) (by omega) h)
    obtain ⟨q, hq⟩ : ∃ q, q = eqF f g := ⟨_, rfl⟩
    obtain ⟨z, hz⟩ : ∃ z, z = cmpF f g := ⟨_, rfl⟩
    rw [← hq] at P1 R1
    rw [← hz] at P2 R2
    clear hq hz hc hsf hsg hcf hc6 h0 hf2
    refine (P1.out _ hb2).mono ?_
    rintro e w4 ⟨rfl, hq4⟩
    have b4 := Lib.hid (hb2.out.trans (hq4.mono hb2.out.size))
    clear hq4
    go_wp2_with (first
      | (go_at_call 21; have hmark := b9; refine (E1.out _ _ _ _ _ (A1.out _ b9) HK9.out).mono ?_; rintro e w10 ⟨rfl, hq⟩; have b10 := Lib.hid (b9.out.trans (hq.mono b9.out.size)); clear hq hmark)
      | (go_at_call 21; have hmark := b7; refine (E1.out _ _ _ _ _ (HZ7.out.sl (fun b hb => hb.2.1)) HK7.out).mono ?_; rintro e w8 ⟨rfl, hq⟩; have b8 := Lib.hid (b7.out.trans (hq.mono b7.out.size)); have c8 := Lib.hid (c7.out.trans (hq.mono c7.out.size)); have HZ8 := Lib.hid (HZ7.out.mono (S' := fun b => w6.heap.size ≤ b ∧ b < w8.heap.size ∧ Fro w8 b) (fun b hb => ⟨hb.1, Nat.lt_of_lt_of_le hb.2.1 hq.size, hb.2.2.of_block (hq.block b hb.2.1)⟩) (fun b hb => hq.block b hb.2.1)); clear hq hmark)
      | (go_at_call 21; refine (R1.out _ b4).mono ?_; rintro e w5 ⟨rfl, hq⟩; have b5 := Lib.hid (b4.out.trans (hq.mono b4.out.size)); clear hq)
      | (go_at_call 22; refine (P2.out _ b5).mono ?_; rintro e v5 ⟨rfl, hq⟩; have d5 := Lib.hid (b5.out.trans (hq.mono b5.out.size)); clear hq)
      | (go_at_call 23; refine (R2.out _ d5).mono ?_; rintro e u5 ⟨rfl, hq⟩; have e5 := Lib.hid (d5.out.trans (hq.below.mono d5.out.size)); clear hq)
      | (go_at_call 24; refine (T1.out _ e5).mono ?_; rintro e w6 ⟨a6, c6, rfl, hs6, hq⟩; have b6 := Lib.hid (e5.out.trans (hq.mono e5.out.size)); have HK6 := Lib.hid (hs6.out.sl (fun b hb => hb.2)); clear hq hs6)
      | (go_at_call 25; refine (C1.out _ b6).mono ?_; rintro e w7 ⟨a7, c7', rfl, hs7, hq⟩; have b7 := Lib.hid (b6.out.trans (hq.mono b6.out.size)); have c7 := Lib.hid hq; have HZ7 := Lib.hid hs7.out; have HK7 := Lib.hid (HK6.out.later hq); clear hq hs7)
      | (go_at_call 26; refine (SP.out _ _ w6.heap.size _ (sk_arg HZ8.out HSF.out)).mono ?_; rintro e w9 ⟨rfl, hq, _⟩; have c9 := Lib.hid (c8.out.trans hq.out); have b9 := Lib.hid (b6.out.trans (c9.out.mono b6.out.size)); have HK9 := Lib.hid (HK6.out.below c9.out c9.out.size); clear hq)
      | (go_at_call 11; refine (AW.out _).mono ?_; rintro e w11 ⟨rfl, hq⟩; have b11 := Lib.hid (b10.out.trans (hq.mono b10.out.size)); clear hq)
      | fail)
    go_ret
    exact ⟨rfl, b11.out⟩
end Go.Proofs.Ytajdpchojimigaa
