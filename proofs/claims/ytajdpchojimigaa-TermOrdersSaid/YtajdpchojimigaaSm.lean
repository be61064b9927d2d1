/- The law's own test of the size of expressions: the closure that counts. -/
import Derived.Test.YtajdpchojimigaaPs
namespace Go.Proofs.Ytajdpchojimigaa
open Go.RowKit Go.Shelf TmM

/-- what a real process can hold. -/
def Reach : Fo → Prop
  | .nil => True
  | .cons _ t c r => t.size ≤ 140737488355327 ∧ c.len ≤ 140737488355327 ∧ Reach c ∧ Reach r
theorem Reach.drop {n : Nat} : ∀ {f : Fo}, Reach f → Reach (f.drop n) := by
  induction n with
  | zero => intro f h; rwa [Fo.drop_zero]
  | succ n ih => intro f h; cases f with
    | nil => trivial
    | cons k t c r => exact ih (f := r) h.2.2.2
theorem Reach.at {f : Fo} (h : Reach f) {n : Nat} {k t c r} (hd : f.drop n = .cons k t c r) : t.size ≤ 140737488355327 ∧ c.len ≤ 140737488355327 ∧ Reach c := by
  have := h.drop (n := n)
  rw [hd] at this
  exact ⟨this.1, this.2.1, this.2.2.1⟩
theorem small_take_succ {f : Fo} {n : Nat} {k t c g} (hd : f.drop n = .cons k t c g) (h : Small (f.take n)) (ht : t.size ≤ 1000000) (hc : Small c) : Small (f.take (n + 1)) := by
  rw [Fo.take_succ hd, small_app]
  exact ⟨h, ht, hc, trivial⟩

/-- the function that counts, with its two variables. -/
abbrev cntV (lb cb : Nat) : Value := .func (.func 53) #[] #[.pointer (some ⟨lb, 0, none⟩), .pointer (some ⟨cb, 0, none⟩)]
def OutCnt (lb : Nat) (f : Fo) (v : Int) (w : World) (e : Ending) (w' : World) : Prop :=
  ∃ (ok : Bool) (r : Int), e = .returned (.bool ok) ∧ Hid (Boxed w' lb 3 (.int .i64 r)) ∧ Hid (KpC lb (lb + 1) w w') ∧ Hid (Below lb w w') ∧ Hid (ok = true → 0 ≤ r ∧ (f.count : Int) ≤ v - r ∧ Small f)

theorem boxed_kp {n0 n1 b : Nat} {t : TypeId} {v : Value} {w w' : World} (h : Boxed w b t v) (hk : KpC n0 n1 w w') (hb : n1 ≤ b) : Boxed w' b t v := hk.2 b _ (.inr hb) h rfl
theorem kp_set {lb : Nat} {w : World} {v : Value} : KpC lb (lb + 1) w (w.setCell ⟨lb, 0, none⟩ v) := by
  refine ⟨by simp [World.setCell], fun i o hi ho _ => ?_⟩
  rw [Below.heap_setCell _ _ _ _ (by simp; omega)]
  exact ho

def CntOk (N : Nat) : Prop := ∀ (f : Fo) (a : Option Addr) (cap lb cb : Nat) (v d : Int) (w : World), f.count ≤ N → f.len ≤ 140737488355327 → Reach f → -200000000000000 ≤ v → v ≤ 9000 → 0 ≤ d → d ≤ 151 → lb + 1 ≤ cb → Boxed w lb 3 (.int .i64 v) → Boxed w cb 59 (cntV lb cb) → Sl lb w a cap f →
    Calls Try.prog 53 #[.slice a f.len cap, .int .i64 d, .pointer (some ⟨lb, 0, none⟩), .pointer (some ⟨cb, 0, none⟩)] w (OutCnt lb f v w)

set_option maxHeartbeats 12800000 in
set_option maxRecDepth 100000 in
theorem cnt_step (N : Nat) (ih : ∀ M, M < N → CntOk M) : CntOk N := by
  intro f a cap lb cb v d w hc hl hrc hv0 hv1 hd0 hd1 hlc hlb hcb hs
  obtain ⟨b, o, hab, hbw, HCX⟩ := base_of hs
  have hcap := hs.cap
  have hcm : f.len ≤ 9223372036854775807 := by omega
  have c0 := hlb.cell
  have g0 := hlb.frozen
  have HLB := Lib.hid hlb
  have HCB := Lib.hid hcb
  have HIH := Lib.hid ih
  have HC := Lib.hid hc
  have HRC := Lib.hid hrc
  have HAB := Lib.hid hab
  have HBW := Lib.hid hbw
  have hll := hlb.lt
  have HB1 := Lib.hid ((Below.refl lb w).setCell (p := ⟨lb, 0, none⟩) (Nat.le_refl _) (.int .i64 (v - (f.len : Int))))
  have HX1 := Lib.hid (show Boxed (w.setCell ⟨lb, 0, none⟩ (.int .i64 (v - (f.len : Int)))) lb 3 (.int .i64 (v - (f.len : Int))) from hlb.set _)
  clear ih hc hrc hab hbw hs hlb hcb hcap
  by_cases hneg : v - (f.len : Int) < 0
  · go_enter Try.func53, Try.ntmps53
    go_wp2
    go_ret
    exact ⟨false, _, rfl, HX1, Lib.hid kp_set, HB1, Lib.hid (fun h => by cases h)⟩
  · have hnn : 0 ≤ v - (f.len : Int) := by omega
    by_cases hdeep : 150 < d
    · go_enter Try.func53, Try.ntmps53
      go_wp2
      go_ret
      exact ⟨false, _, rfl, HX1, Lib.hid kp_set, HB1, Lib.hid (fun h => by cases h)⟩
    · go_enter Try.func53, Try.ntmps53
      go_wp2
      go_loopw [21] (fun i wr => ∃ (k : Nat) (vk : Int), i = .int .i64 k ∧ k ≤ f.len ∧ 0 ≤ vk ∧ vk ≤ 9000 ∧ Hid (Boxed wr lb 3 (.int .i64 vk)) ∧ Hid (KpC lb (lb + 1) w wr) ∧ Hid (Below lb w wr) ∧ Hid (((f.take k).count : Int) - k ≤ v - f.len - vk) ∧ Hid (Small (f.take k))) (fun i _ => f.len - (intOf i).toNat)
      case atStart => exact ⟨0, v - (f.len : Int), rfl, Nat.zero_le _, hnn, by omega, HX1, Lib.hid kp_set, HB1, Lib.hid (by rw [Fo.take_zero]; simp [Fo.count]), Lib.hid (by rw [Fo.take_zero]; trivial)⟩
      case round =>
        obtain ⟨k, vk, rfl, hk, hvk0, hvk1, hbx, hkp, hbl, hcn, hsm⟩ := hrel
        by_cases hkl : k < f.len
        · have hki : (k : Int) < (f.len : Int) := by omega
          obtain rfl := HAB.out (by omega)
          have hb := HBW.out (by omega)
          obtain ⟨kd, t, c, hd⟩ := Fo.drop_at hkl
          obtain ⟨x0, x1, ac, capc, x2, hsc⟩ := HCX.out k kd t c _ hd
          have hck := Fo.count_kid hd
          obtain ⟨hrt, hrl, hrk⟩ := HRC.out.at hd
          have y0 : wr.cell? ⟨b, o + k * 3, none⟩ = some (.int .i64 kd) := hkp.out.cell (.inl hb) x0
          have y1 : wr.cell? ⟨b, o + k * 3 + 1, none⟩ = some (.string t) := hkp.out.cell (.inl hb) x1
          have y2 : wr.cell? ⟨b, o + k * 3 + 2, none⟩ = some (.slice ac c.len capc) := hkp.out.cell (.inl hb) x2
          have hz := hbl.out.size
          have hlr : lb < wr.heap.size := by omega
          have z0 := hbx.out.cell
          have zf := hbx.out.frozen
          have zc := (boxed_kp HCB.out hkp.out hlc).cell
          have hcbl := (boxed_kp HCB.out hkp.out hlc).lt
          obtain ⟨W, hW⟩ : ∃ W, W = (wr.setCell ⟨lb, 0, none⟩ (.int .i64 (vk - (t.size : Int) / 100))).alloc (.cells #[.int .i64 kd, .string t, .slice ac c.len capc] 35) := ⟨_, rfl⟩
          have hbW : Boxed W lb 3 (.int .i64 (vk - (t.size : Int) / 100)) := by rw [hW]; exact (hbx.out.set _).alloc _
          have hkW : KpC lb (lb + 1) wr W := by rw [hW]; exact kp_set.trans (KpC.alloc _ _)
          have hlW : Below lb wr W := by rw [hW]; exact ((Below.refl lb wr).setCell (p := ⟨lb, 0, none⟩) (Nat.le_refl _) _).alloc (by simp [World.setCell]; omega) _
          have hcW : Boxed W cb 59 (cntV lb cb) := boxed_kp (boxed_kp HCB.out hkp.out hlc) hkW hlc
          have hcc := hcW.cell
          rw [hW] at hcc
          have hbx2 : W.cell? ⟨wr.heap.size, 2, none⟩ = some (.slice ac c.len capc) := by
            rw [hW, show wr.heap.size = (wr.setCell ⟨lb, 0, none⟩ (.int .i64 (vk - (t.size : Int) / 100))).heap.size by simp [World.setCell], World.cell?_alloc_at _ _ _ _ rfl]
            rfl
          rw [hW] at hbx2
          have S := Lib.hid (HIH.out c.count (Nat.lt_of_lt_of_le hck HC.out) c ac capc lb cb (vk - (t.size : Int) / 100) (d + 1) W (Nat.le_refl _) hrl hrk (by omega) (by omega) (by omega) (by omega) hlc hbW hcW ((hsc.kp hkp.out (Nat.le_refl _)).kp hkW (Nat.le_refl _)))
          have HKW := Lib.hid ((hkp.out).trans hkW)
          have HLW := Lib.hid ((hbl.out).trans hlW)
          rw [hW] at S HKW HLW
          have HD := Lib.hid hd
          clear hW hbW hkW hlW hcW hd x0 x1 x2 hsc hck hrl hrk
          go_wp2_with (first
            | (go_at_call 53; refine S.out.mono ?_; rintro e W3 ⟨ok, r, rfl, hb3, hk3, hl3, hf3⟩)
            | fail)
          · go_ret
            exact ⟨false, r, rfl, hb3, Lib.hid (HKW.out.trans hk3.out), Lib.hid (HLW.out.trans hl3.out), Lib.hid (fun h => by cases h)⟩
          · rename_i h0
            have hok : ok = true := by simpa using h0
            obtain ⟨hr0, hr1, hr2⟩ := hf3.out hok
            have HT1 : (f.take (k + 1)).count = (f.take k).count + c.count + 1 := by rw [Fo.take_succ HD.out, Fo.count_app]; simp [Fo.count]; omega
            have hq : 0 ≤ (t.size : Int) / 100 := by omega
            have hcn' := hcn.out
            have ht : t.size ≤ 1000000 := by omega
            refine ⟨⟨k + 1, r, by go_num, by omega, hr0, by omega, hb3, Lib.hid (HKW.out.trans hk3.out), Lib.hid (HLW.out.trans hl3.out), Lib.hid (by rw [HT1]; omega), Lib.hid (small_take_succ HD.out hsm.out ht hr2)⟩, ?_⟩
            simp [intOf]; omega
        · obtain rfl : k = f.len := by omega
          have hki : ¬ ((f.len : Nat) : Int) < (f.len : Int) := by omega
          have HF := Lib.hid (show (f.count : Int) ≤ v - vk ∧ Small f from by
            have h1 := hcn.out
            have h2 := hsm.out
            rw [Fo.take_len] at h1 h2
            exact ⟨by omega, h2⟩)
          go_wp2
          go_ret
          exact ⟨true, vk, rfl, hbx, hkp, hbl, Lib.hid (fun _ => ⟨hvk0, HF.out⟩)⟩
end Go.Proofs.Ytajdpchojimigaa
