/- The law's own test of the size of expressions. -/
import Derived.Test.YtajdpchojimigaaSm
namespace Go.Proofs.Ytajdpchojimigaa
open Go.RowKit Go.Shelf TmM

theorem cnt_all (N : Nat) : CntOk N := by
  induction N using Nat.strongRecOn with
  | _ N ih => exact cnt_step N ih

/-- an expression with where it lies. -/
abbrev Ex := Option Addr × Nat × Fo
def Args (w : World) (g : Nat) (L : List Ex) : Prop := ∀ j x, L[j]? = some x → w.cell? ⟨g, j, none⟩ = some (.slice x.1 x.2.2.len x.2.1)
def sumC : List Ex → Nat
  | [] => 0
  | x :: L => x.2.2.count + sumC L
theorem sumC_snoc (L : List Ex) (x : Ex) : sumC (L ++ [x]) = sumC L + x.2.2.count := by
  induction L with
  | nil => simp [sumC]
  | cons y L ih => simp only [List.cons_append, sumC, ih]; omega

def OutC2 (lb : Nat) (f : Fo) (v : Int) (w : World) (e : Ending) (w' : World) : Prop :=
  ∃ (ok : Bool) (r : Int), e = .returned (.bool (!ok)) ∧ Hid (Boxed w' lb 3 (.int .i64 r)) ∧ Hid (KpC lb (lb + 1) w w') ∧ Hid (Below lb w w') ∧ Hid (ok = true → 0 ≤ r ∧ (f.count : Int) ≤ v - r ∧ Small f)

set_option maxHeartbeats 3200000 in
theorem small2_any (f : Fo) (a : Option Addr) (cap lb cb : Nat) (v : Int) (w : World) (hl : f.len ≤ 140737488355327) (hrc : Reach f) (hv0 : 0 ≤ v) (hv1 : v ≤ 9000) (hlc : lb + 1 ≤ cb) (hlb : Boxed w lb 3 (.int .i64 v)) (hcb : Boxed w cb 59 (cntV lb cb)) (hs : Sl lb w a cap f) :
    Calls Try.prog 55 #[.slice a f.len cap, .pointer (some ⟨cb, 0, none⟩)] w (OutC2 lb f v w) := by
  have S := Lib.hid (cnt_all f.count f a cap lb cb v 0 w (Nat.le_refl _) hl hrc (by omega) hv1 (by omega) (by omega) hlc hlb hcb hs)
  have c0 := hcb.cell
  clear hrc hlb hcb hs
  go_enter Try.func55, Try.ntmps55
  go_wp2_with (first
    | (go_at_call 53; refine S.out.mono ?_; rintro e W3 ⟨ok, r, rfl, hb3, hk3, hl3, hf3⟩)
    | fail)
  go_ret
  exact ⟨ok, r, rfl, hb3, hk3, hl3, hf3⟩

/-- what the search for an expression that is too large leaves. -/
def OutIx (lb : Nat) (L : List Ex) (v : Int) (w : World) (e : Ending) (w' : World) : Prop :=
  ∃ i : Int, e = .returned (.int .i64 i) ∧ Hid (KpC lb (lb + 1) w w') ∧ Hid (Below lb w w') ∧ Hid (i < 0 → (sumC L : Int) ≤ v ∧ ∀ x ∈ L, Small x.2.2)

set_option maxHeartbeats 6400000 in
set_option maxRecDepth 100000 in
theorem ixf_any (L : List Ex) (g lb cb : Nat) (v : Int) (w : World) (hL : L.length ≤ 100) (hg : g < lb) (ha : Args w g L) (hx : ∀ x ∈ L, x.2.2.len ≤ 140737488355327 ∧ Reach x.2.2 ∧ Sl lb w x.1 x.2.1 x.2.2) (hv0 : 0 ≤ v) (hv1 : v ≤ 9000) (hlc : lb + 1 ≤ cb) (hlb : Boxed w lb 3 (.int .i64 v)) (hcb : Boxed w cb 59 (cntV lb cb)) :
    Calls Try.prog 84 #[.slice (some ⟨g, 0, none⟩) L.length L.length, .func (.func 55) #[] #[.pointer (some ⟨cb, 0, none⟩)]] w (OutIx lb L v w) := by
  have HA := Lib.hid ha
  have HX := Lib.hid hx
  have HLB := Lib.hid hlb
  have HCB := Lib.hid hcb
  clear ha hx hlb hcb
  go_enter Try.func84, Try.ntmps84
  go_wp2_with fail
  go_loopw [8] (fun i wr => ∃ (k : Nat) (r : Int), i = .int .i64 k ∧ k ≤ L.length ∧ 0 ≤ r ∧ r ≤ 9000 ∧ Hid (Boxed wr lb 3 (.int .i64 r)) ∧ Hid (KpC lb (lb + 1) w wr) ∧ Hid (Below lb w wr) ∧ Hid ((sumC (L.take k) : Int) ≤ v - r ∧ ∀ x ∈ L.take k, Small x.2.2)) (fun i _ => L.length - (intOf i).toNat)
  case atStart => exact ⟨0, v, rfl, Nat.zero_le _, hv0, hv1, HLB, Lib.hid (KpC.refl _ _ _), Lib.hid (Below.refl _ _), Lib.hid ⟨by simp [sumC], by simp⟩⟩
  case round =>
    obtain ⟨k, r, rfl, hk, hr0, hr1, hbx, hkp, hbl, hsm⟩ := hrel
    by_cases hkl : k < L.length
    · have hki : (k : Int) < (L.length : Int) := by omega
      obtain ⟨x, hxk⟩ : ∃ x, L[k]? = some x := ⟨_, List.getElem?_eq_getElem hkl⟩
      have hc := HA.out k x hxk
      obtain ⟨hl, hrc, hsl⟩ := HX.out x (List.mem_of_getElem? hxk)
      have y0 := hkp.out.cell (.inl hg) hc
      have S := Lib.hid (small2_any x.2.2 x.1 x.2.1 lb cb r wr hl hrc hr0 hr1 hlc hbx.out (boxed_kp HCB.out hkp.out hlc) (hsl.kp hkp.out (Nat.le_refl _)))
      have HT := Lib.hid (show L.take (k + 1) = L.take k ++ [x] from by rw [List.take_add_one, hxk]; rfl)
      obtain ⟨xa, xc, xf⟩ := x
      simp only at y0 S
      clear hc hl hrc hsl hxk
      go_wp2_with (first
        | (go_at_call 55; refine S.out.mono ?_; rintro e W3 ⟨ok, r3, rfl, hb3, hk3, hl3, hf3⟩)
        | fail)
      · go_ret
        exact ⟨_, rfl, Lib.hid (hkp.out.trans hk3.out), Lib.hid (hbl.out.trans hl3.out), Lib.hid (fun h => by omega)⟩
      · rename_i h0
        have hok : ok = true := by simpa using h0
        obtain ⟨q0, q1, q2⟩ := hf3.out hok
        have hsm' := hsm.out
        refine ⟨⟨k + 1, r3, by go_num, by omega, q0, by omega, hb3, Lib.hid (hkp.out.trans hk3.out), Lib.hid (hbl.out.trans hl3.out), Lib.hid ?_⟩, ?_⟩
        · rw [HT.out, sumC_snoc]
          refine ⟨by simp only; omega, fun y hy => ?_⟩
          rw [List.mem_append, List.mem_singleton] at hy
          rcases hy with hy | rfl
          · exact hsm'.2 y hy
          · exact q2
        · simp [intOf]; omega
    · obtain rfl : k = L.length := by omega
      have hki : ¬ ((L.length : Nat) : Int) < (L.length : Int) := by omega
      have HF := Lib.hid (show (sumC L : Int) ≤ v ∧ ∀ x ∈ L, Small x.2.2 from by
        have h := hsm.out
        rw [List.take_length] at h
        exact ⟨by omega, h.2⟩)
      go_wp2
      go_ret
      exact ⟨-1, rfl, hkp, hbl, Lib.hid (fun _ => HF.out)⟩

def OutCf (lb : Nat) (L : List Ex) (v : Int) (w : World) (e : Ending) (w' : World) : Prop :=
  ∃ i : Int, e = .returned (.bool (decide (0 ≤ i))) ∧ Hid (KpC lb (lb + 1) w w') ∧ Hid (Below lb w w') ∧ Hid (i < 0 → (sumC L : Int) ≤ v ∧ ∀ x ∈ L, Small x.2.2)

set_option maxHeartbeats 3200000 in
theorem cf_any (L : List Ex) (g lb cb : Nat) (v : Int) (w : World) (hL : L.length ≤ 100) (hg : g < lb) (ha : Args w g L) (hx : ∀ x ∈ L, x.2.2.len ≤ 140737488355327 ∧ Reach x.2.2 ∧ Sl lb w x.1 x.2.1 x.2.2) (hv0 : 0 ≤ v) (hv1 : v ≤ 9000) (hlc : lb + 1 ≤ cb) (hlb : Boxed w lb 3 (.int .i64 v)) (hcb : Boxed w cb 59 (cntV lb cb)) :
    Calls Try.prog 54 #[.slice (some ⟨g, 0, none⟩) L.length L.length, .func (.func 55) #[] #[.pointer (some ⟨cb, 0, none⟩)]] w (OutCf lb L v w) := by
  have S := Lib.hid (ixf_any L g lb cb v w hL hg ha hx hv0 hv1 hlc hlb hcb)
  clear ha hx hlb hcb
  go_enter Try.func54, Try.ntmps54
  go_wp2_with (first
    | (go_at_call 84; refine S.out.mono ?_; rintro e W3 ⟨i, rfl, hk3, hl3, hf3⟩)
    | fail)
  go_ret
  exact ⟨i, rfl, hk3, hl3, hf3⟩

/-- what the test leaves. -/
def OutSm (L : List Ex) (v : Int) (w : World) (e : Ending) (w' : World) : Prop :=
  ∃ i : Int, e = .returned (.bool (!decide (0 ≤ i))) ∧ Hid (Below w.heap.size w w') ∧ Hid (i < 0 → (sumC L : Int) ≤ v ∧ ∀ x ∈ L, Small x.2.2)

set_option maxHeartbeats 6400000 in
set_option maxRecDepth 100000 in
theorem smallL_any (L : List Ex) (g : Nat) (v : Int) (w : World) (hL : L.length ≤ 100) (hg : g < w.heap.size) (ha : Args w g L) (hx : ∀ x ∈ L, x.2.2.len ≤ 140737488355327 ∧ Reach x.2.2 ∧ Sl w.heap.size w x.1 x.2.1 x.2.2) (hv0 : 0 ≤ v) (hv1 : v ≤ 9000) :
    Calls Try.prog 10 #[.int .i64 v, .slice (some ⟨g, 0, none⟩) L.length L.length] w (OutSm L v w) := by
  obtain ⟨W0, hW0⟩ : ∃ W0, W0 = (w.alloc (.cells #[.int .i64 v] 3)).alloc (.cells #[cntV w.heap.size (w.heap.size + 1)] 59) := ⟨_, rfl⟩
  have hb1 : Below w.heap.size w W0 := by rw [hW0]; exact ((Below.refl _ w).alloc (Nat.le_refl _) _).alloc (by simp) _
  have b3 : Boxed W0 w.heap.size 3 (.int .i64 v) := by rw [hW0]; exact (Boxed.new w 3 (.int .i64 v)).alloc _
  have b2 : Boxed W0 (w.heap.size + 1) 59 (cntV w.heap.size (w.heap.size + 1)) := by
    rw [hW0]
    have h := Boxed.new (w.alloc (.cells #[.int .i64 v] 3)) 59 (cntV w.heap.size (w.heap.size + 1))
    simpa using h
  have S := Lib.hid (cf_any L g w.heap.size (w.heap.size + 1) v _ hL hg (fun j x hj => (hb1.cell (p := ⟨g, j, none⟩) hg).trans (ha j x hj)) (fun x h => ⟨(hx x h).1, (hx x h).2.1, (hx x h).2.2.below hb1 (Nat.le_refl _)⟩) hv0 hv1 (Nat.le_refl _) b3 b2)
  have HB1 := Lib.hid hb1
  rw [hW0] at S HB1
  clear ha hx hW0 b2 b3 hb1
  have s0 := fun (a : Addr) (u : World) => run_store Try.prog u a (.func (.func 53) #[] #[.pointer (some ⟨w.heap.size, 0, none⟩), .pointer (some ⟨w.heap.size + 1, 0, none⟩)]) .plain rfl
  go_enter Try.func10, Try.ntmps10
  go_wp2_with (first
    | (go_at_call 54; refine S.out.mono ?_; rintro e W3 ⟨i, rfl, hk3, hl3, hf3⟩)
    | fail)
  go_ret
  exact ⟨i, rfl, Lib.hid (HB1.out.trans hl3.out), hf3⟩
end Go.Proofs.Ytajdpchojimigaa
