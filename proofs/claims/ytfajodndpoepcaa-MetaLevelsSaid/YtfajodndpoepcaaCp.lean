/- Copies of an expression: the program's. -/
import Derived.Test.YtfajodndpoepcaaPi
import Derived.WalkSpells
namespace Go.Proofs.Ytfajodndpoepcaa
open Go.RowKit TmM

/-- a list of the call's own, cell by cell: the kids of the first k terms are new, the others are as they were. -/
def Half (n gb : Nat) (w : World) (f : Fo) (k : Nat) : Prop :=
  ∃ ys zs, RepsS (fun b => n ≤ b ∧ b < w.heap.size ∧ b ≠ gb) w ys (f.take k) ∧ RepsS (fun b => b < w.heap.size ∧ b ≠ gb) w zs (f.drop k) ∧ Cells w gb 0 (ys ++ zs) ∧ (∀ j, w.frozen? ⟨gb, j, none⟩ = false) ∧ n ≤ gb ∧ gb < w.heap.size

/-- what Clone leaves. -/
def OutC (w : World) (f : Fo) (e : Ending) (w' : World) : Prop :=
  (f = .nil ∧ (∃ a cap, e = .returned (.slice a 0 cap) ∧ Hid (SlS (fun b => w.heap.size ≤ b ∧ b < w'.heap.size) w' a cap .nil)) ∧ Hid (Below w.heap.size w w')) ∨
  (0 < f.len ∧ ∃ gb cap, e = .returned (.slice (some ⟨gb, 0, none⟩) f.len cap) ∧ f.len ≤ cap ∧ cap ≤ 9223372036854775807 ∧ Hid (Half w.heap.size gb w' f 0) ∧ Hid (Below w.heap.size w w'))

theorem clone_out {w w' : World} {v : Value} {f : Fo} (hB : Built 0 w' v f) (hM : ∀ k, v.ownBlock = some k → w.heap.size ≤ k) (hb : Below w.heap.size w w') : OutC w f (.returned v) w' := by
  obtain ⟨xs, ho, hr, _⟩ := hB
  have hlen := hr.length
  rcases ho.2 with ⟨rfl, h0⟩ | ⟨g, cap, cur, rfl, _, hg, hnc, hcm, hrest⟩
  · have hf : f = .nil := len0 h0
    subst hf
    exact .inl ⟨rfl, ⟨none, 0, rfl, Lib.hid SlS.nil⟩, Lib.hid hb⟩
  · have hgn : w.heap.size ≤ g := hM g rfl
    have hgl : g < w'.heap.size := (Array.getElem?_eq_some_iff.1 hg).1
    have hfz := ho.frozenAt
    have hca := ho.cellAt
    by_cases h0 : f.len = 0
    · have hf : f = .nil := len0 h0
      subst hf
      exact .inl ⟨rfl, ⟨some ⟨g, 0, none⟩, cap, rfl, Lib.hid ⟨Nat.zero_le _, hcm, by simp, .inl rfl⟩⟩, Lib.hid hb⟩
    · refine .inr ⟨by omega, g, cap, rfl, hnc, by unfold maxLen at hcm; omega, Lib.hid ⟨[], xs, by rw [Fo.take_zero]; rfl, ?_, ?_, hfz, hgn, hgl⟩, Lib.hid hb⟩
      · rw [Fo.drop_zero]
        exact hr.mono (fun b hb => ⟨hb.2.1, fun e => hb.2.2 (by rw [e]; rfl)⟩) (fun _ _ => rfl)
      · intro j hj
        simp only [List.nil_append] at hj ⊢
        rw [Nat.zero_add]
        exact hca j (by omega)

set_option maxHeartbeats 3200000 in
theorem clone_any (f : Fo) (a : Option Addr) (cap : Nat) (w : World) (hl : f.len ≤ 7000000) (hs : Sl w.heap.size w a cap f) :
    Calls Try.prog 52 #[.slice a f.len cap] w (OutC w f) := by
  obtain ⟨m, hm⟩ : ∃ m, m = f.len := ⟨_, rfl⟩
  rw [← hm]
  have HM := Lib.hid hm
  have HS := Lib.hid hs
  clear hm hs
  cases a with
  | none =>
    have hnil : ∀ (w : World), (binOp .eql 22 (.slice none m cap) (.slice none 0 0)).run Try.prog w = .ok (.bool true) w := fun (w : World) => Lib.run_eql_slice_nil (P := Try.prog) w 22 35 none m cap 0 0 Try.underlying22
    have hf : f = .nil := len0 (by have := HS.out.1; have := HS.out.2.2.1 rfl; omega)
    have HF := Lib.hid hf
    clear hf
    go_enter Try.func52, Try.ntmps52
    go_wp2
    go_ret
    exact .inl ⟨HF.out, ⟨none, 0, rfl, Lib.hid SlS.nil⟩, Lib.hid (Below.refl _ _)⟩
  | some p =>
    have hnil : ∀ (w : World), (binOp .eql 22 (.slice (some p) m cap) (.slice none 0 0)).run Try.prog w = .ok (.bool false) w := fun (w : World) => Lib.run_eql_slice_nil (P := Try.prog) w 22 35 (some p) m cap 0 0 Try.underlying22
    have hM := Mine.empty (n := w.heap.size) (m := w.heap.size) (w := w) rfl (Nat.le_refl _)
    have hbA : Below w.heap.size w (w.alloc (.cells #[] 35)) := (Below.refl _ _).alloc (Nat.le_refl _) _
    have hsA : Sl w.heap.size (w.alloc (.cells #[] 35)) (some p) cap f := HS.out.below hbA (Nat.le_refl _)
    have HP := Lib.hid (Put.ofSl (v := .slice (some ⟨w.heap.size, 0, none⟩) 0 0) hsA (by simp) hM.2)
    have HMM := Lib.hid hM
    have HBA := Lib.hid hbA
    clear hM hbA hsA
    go_enter Try.func52, Try.ntmps52
    go_wp2_with (first | (at_builtin; refine wpList_append_built rfl (.tmp 5) (.tmp 6) rfl HMM.out.1 rfl rfl HM.out HP.out (by simp; omega) ?_; intro v6 w6 hB6 hgrow6 hat6) | fail)
    go_ret
    have hmi := HMM.out.next hB6 hat6 (by simp)
    exact clone_out hmi.1 hmi.2 (HBA.out.grown hgrow6 (by simp) HMM.out.2)

theorem len_take (n : Nat) (f : Fo) (h : n ≤ f.len) : (f.take n).len = n := by
  have h1 := congrArg Fo.len (Fo.take_app_drop n f)
  rw [Fo.len_app, Fo.len_drop] at h1
  omega

theorem Half.at {n gb k : Nat} {w : World} {f : Fo} {kd : Int} {t : ByteArray} {c r : Fo} (h : Half n gb w f k) (hk : k ≤ f.len) (hd : f.drop k = .cons kd t c r) :
    ∃ ac capc, w.cell? ⟨gb, k * 3 + 2, none⟩ = some (.slice ac c.len capc) ∧ Sl w.heap.size w ac capc c ∧ w.frozen? ⟨gb, k * 3 + 2, none⟩ = false := by
  obtain ⟨ys, zs, hy, hz, hc, hf, _, _⟩ := h
  rw [hd] at hz
  obtain ⟨ac, capc, zs', rfl, hs, _⟩ := hz
  have hl := hy.length
  rw [len_take k f hk] at hl
  refine ⟨ac, capc, ?_, SlS.sl (S := fun b => b < w.heap.size ∧ b ≠ gb) hs (fun b hb => hb.1), hf _⟩
  have := hc (k * 3 + 2) (by simp; omega)
  rw [Nat.zero_add] at this
  rw [this, List.getElem?_append_right (by omega), show k * 3 + 2 - ys.length = 2 by omega]
  rfl

theorem Half.next {n gb k cap2 : Nat} {w w2 : World} {f : Fo} {kd : Int} {t : ByteArray} {c r : Fo} {a2 : Option Addr} (h : Half n gb w f k) (hk : k ≤ f.len) (hd : f.drop k = .cons kd t c (f.drop (k + 1)))
    (hn : n ≤ w.heap.size) (hs : SlS (fun b => w.heap.size ≤ b ∧ b < w2.heap.size) w2 a2 cap2 c) (hb : Below w.heap.size w w2) (_ : r = r) : Half n gb (w2.setCell ⟨gb, k * 3 + 2, none⟩ (.slice a2 c.len cap2)) f (k + 1) := by
  obtain ⟨ys, zs, hy, hz, hc, hf, hng, hgl⟩ := h
  rw [hd] at hz
  obtain ⟨ac, capc, zs', rfl, _, hz'⟩ := hz
  have hl := hy.length
  rw [len_take k f hk] at hl
  have hsz : (w2.setCell ⟨gb, k * 3 + 2, none⟩ (.slice a2 c.len cap2)).heap.size = w2.heap.size := by simp [World.setCell]
  have hheap : ∀ b, b < w.heap.size → b ≠ gb → (w2.setCell ⟨gb, k * 3 + 2, none⟩ (.slice a2 c.len cap2)).heap[b]? = w.heap[b]? := fun b h1 h2 => (Below.heap_setCell _ _ _ _ h2).trans (hb.block b h1)
  have hone : RepsS (fun b => n ≤ b ∧ b < (w2.setCell ⟨gb, k * 3 + 2, none⟩ (.slice a2 c.len cap2)).heap.size ∧ b ≠ gb) (w2.setCell ⟨gb, k * 3 + 2, none⟩ (.slice a2 c.len cap2)) [.int .i64 kd, .string t, .slice a2 c.len cap2] (.cons kd t c .nil) :=
    RepsS.one (hs.mono (fun b hb' => ⟨by omega, by rw [hsz]; exact hb'.2, by omega⟩) (fun b hb' => Below.heap_setCell _ _ _ _ (by simp; omega)))
  have hys := hy.mono (S' := fun b => n ≤ b ∧ b < (w2.setCell ⟨gb, k * 3 + 2, none⟩ (.slice a2 c.len cap2)).heap.size ∧ b ≠ gb) (w' := w2.setCell ⟨gb, k * 3 + 2, none⟩ (.slice a2 c.len cap2)) (fun b hb' => ⟨hb'.1, by rw [hsz]; have := hb.size; omega, hb'.2.2⟩) (fun b hb' => hheap b hb'.2.1 hb'.2.2)
  refine ⟨ys ++ [.int .i64 kd, .string t, .slice a2 c.len cap2], zs', by rw [Fo.take_succ hd]; exact RepsS.app hone hys, hz'.mono (fun b hb' => ⟨by rw [hsz]; have := hb.size; omega, hb'.2⟩) (fun b hb' => hheap b hb'.1 hb'.2), ?_, fun j => ?_, hng, by rw [hsz]; have := hb.size; omega⟩
  · intro j hj
    have hold : ∀ j, j < (ys ++ (.int .i64 kd :: .string t :: .slice ac c.len capc :: zs')).length → w2.cell? ⟨gb, 0 + j, none⟩ = (ys ++ (.int .i64 kd :: .string t :: .slice ac c.len capc :: zs'))[j]? := fun j hj => (hb.cell (p := ⟨gb, 0 + j, none⟩) hgl).trans (hc j hj)
    by_cases e : j = k * 3 + 2
    · subst e
      rw [Nat.zero_add, World.cell?_setCell_same w2 _ _ (v := .slice a2 c.len cap2) (u := .slice ac c.len capc)]
      · rw [List.append_assoc, List.getElem?_append_right (by omega), show k * 3 + 2 - ys.length = 2 by omega]
        rfl
      · have := hold (k * 3 + 2) (by simp; omega)
        rw [Nat.zero_add] at this
        rw [this, List.getElem?_append_right (by omega), show k * 3 + 2 - ys.length = 2 by omega]
        rfl
    · rw [World.cell?_setCell_other w2 _ _ _ (fun h => e (by have := congrArg Addr.off h; simp at this; omega)), hold j (by simpa using hj)]
      by_cases h1 : j < ys.length
      · rw [List.getElem?_append_left h1, List.append_assoc, List.getElem?_append_left h1]
      · rw [List.append_assoc, List.getElem?_append_right (by omega), List.getElem?_append_right (by omega)]
        match hq : j - ys.length with
        | 0 => rfl
        | 1 => rfl
        | 2 => omega
        | _ + 3 => rfl
  · rw [World.frozen?_setCell]
    cases hz2 : w2.frozen? ⟨gb, j, none⟩ with
    | false => rfl
    | true => rw [hb.frozen (p := ⟨gb, j, none⟩) hgl, hf j] at hz2; cases hz2

theorem Half.done {n gb cap : Nat} {w : World} {f : Fo} (h : Half n gb w f f.len) (h1 : f.len ≤ cap) (h2 : cap ≤ maxLen) : SlS (fun b => n ≤ b ∧ b < w.heap.size) w (some ⟨gb, 0, none⟩) cap f := by
  obtain ⟨ys, zs, hy, hz, hc, _, hng, hgl⟩ := h
  rw [Fo.drop_len] at hz
  obtain rfl : zs = [] := hz
  rw [Fo.take_len] at hy
  rw [List.append_nil] at hc
  exact ⟨h1, h2, by simp, .inr ⟨gb, 0, ys, rfl, ⟨hng, hgl⟩, hc, hy.mono (fun b hb => ⟨hb.1, hb.2.1⟩) (fun _ _ => rfl)⟩⟩

set_option maxHeartbeats 6400000 in
set_option maxRecDepth 100000 in
theorem copy_n (N : Nat) (hN : N ≤ 1000001) : ∀ (f : Fo) (a : Option Addr) (cap : Nat) (w : World), f.count < N → Sl w.heap.size w a cap f →
    Calls Try.prog 36 #[.slice a f.len cap] w (OutF w f) := by
  induction N with
  | zero => exact fun f a cap w hc _ => absurd hc (Nat.not_lt_zero _)
  | succ N ih =>
    intro f a cap w hc hs
    have hlen := Fo.len_le_count f
    have CL := Lib.hid (clone_any f a cap w (by omega) hs)
    have HIH := Lib.hid (ih (by omega))
    have HC := Lib.hid hc
    obtain ⟨m, hm⟩ : ∃ m, m = f.len := ⟨_, rfl⟩
    have HM := Lib.hid hm
    have hmb : m ≤ 1000001 := by omega
    rw [← hm] at CL ⊢
    clear ih hs hm hlen hc
    go_enter Try.func36, Try.ntmps36
    go_wp2_with fail
    refine CL.out.mono ?_
    rintro e w1 (⟨hf, ⟨a1, cap1, rfl, hs1⟩, hb1⟩ | ⟨h0, gb, cap1, rfl, hc1, hc2, hh, hb1⟩)
    · have HF := Lib.hid hf
      clear hf CL HM
      go_wp2_with fail
      go_loopw [9] (fun i wr => i = .int .i64 0 ∧ wr = w1) (fun _ _ => 0)
      case atStart => exact ⟨rfl, rfl⟩
      case round =>
        obtain ⟨rfl, rfl⟩ := hrel
        go_wp2
        go_ret
        refine ⟨a1, cap1, ?_, ?_, hb1.out⟩
        · rw [HF.out]; rfl
        · rw [HF.out]; exact hs1
    · rw [← HM.out]
      have hcm : m ≤ cap1 := by rw [HM.out]; exact hc1
      have H0 := Lib.hid h0
      clear CL h0 hc1
      go_wp2_with fail
      go_loopw [9] (fun i wr => ∃ k : Nat, i = .int .i64 k ∧ k ≤ m ∧ Hid (Half w.heap.size gb wr f k) ∧ Hid (Below w.heap.size w wr)) (fun i _ => m - (intOf i).toNat)
      case atStart => exact ⟨0, rfl, Nat.zero_le _, hh, hb1⟩
      case round =>
        obtain ⟨k, rfl, hk, hH, hB⟩ := hrel
        by_cases hkl : k < m
        · have hkf : k < f.len := by rw [← HM.out]; exact hkl
          obtain ⟨kd, t, c, hd⟩ := Fo.drop_at hkf
          obtain ⟨ac, capc, c2, hsc, f2⟩ := hH.out.at (Nat.le_of_lt hkf) hd
          have hck := Fo.count_kid hd
          have S := Lib.hid (HIH.out c ac capc wr (by have := HC.out; omega) hsc)
          have HD := Lib.hid hd
          have HKF := Lib.hid (Nat.le_of_lt hkf)
          have hgl : gb < wr.heap.size := hH.out.choose_spec.choose_spec.2.2.2.2.2
          obtain ⟨mc, hmc⟩ : ∃ mc, mc = c.len := ⟨_, rfl⟩
          rw [← hmc] at S c2
          have HMC := Lib.hid hmc
          clear hd hsc hck hmc hkf
          go_wp2_with fail
          refine S.out.mono ?_
          rintro e w2 ⟨a2, cap2, rfl, hs2, hb2⟩
          rw [← HMC.out]
          have d2 := (hb2.cell (p := ⟨gb, k * 3 + 2, none⟩) hgl).trans c2
          have g2 := (hb2.frozen (p := ⟨gb, k * 3 + 2, none⟩) hgl).trans f2
          have HN := Lib.hid (hH.out.next HKF.out HD.out (hB.out.size) hs2.out hb2 (rfl : Fo.nil = Fo.nil))
          have hng : w.heap.size ≤ gb := hH.out.choose_spec.choose_spec.2.2.2.2.1
          have HBN := Lib.hid ((hB.out.trans (hb2.mono hB.out.size)).setCell (p := ⟨gb, k * 3 + 2, none⟩) hng (.slice a2 c.len cap2))
          rw [← HMC.out] at HN HBN
          go_wp2
          go_roundw
          case rel => exact ⟨k + 1, by go_num, by omega, HN, HBN⟩
          case measure => simp [intOf]; omega
        · have hkm : k = m := by omega
          have HX := Lib.hid (show SlS (fun b => w.heap.size ≤ b ∧ b < wr.heap.size) wr (some ⟨gb, 0, none⟩) cap1 f from by
            have hx := hH.out
            rw [hkm] at hx
            rw [HM.out] at hx hcm
            exact hx.done hcm (by unfold maxLen; omega))
          have hki : ¬ (k : Int) < (m : Int) := by omega
          clear hkm hkl
          go_wp2
          go_ret
          exact ⟨_, cap1, by rw [← HM.out]; rfl, HX, hB.out⟩

theorem copy_any (f : Fo) (a : Option Addr) (cap : Nat) (w : World) (hc : f.count ≤ 1000000) (hs : Sl w.heap.size w a cap f) :
    Calls Try.prog 36 #[.slice a f.len cap] w (OutF w f) := copy_n 1000001 (Nat.le_refl _) f a cap w (by omega) hs
end Go.Proofs.Ytfajodndpoepcaa
