/- Copies of an expression: the program's, in blocks that can be written. -/
import Derived.Test.YtajdpchojimigaaBa
import Derived.WalkSpells
import Derived.Deep.RegionHeld3
namespace Go.Proofs.Ytajdpchojimigaa
open Go.RowKit TmM

theorem len0 {c : Fo} (h : c.len = 0) : c = .nil := by cases c with
  | nil => rfl
  | cons k t c r => simp at h
theorem Sl.slS {n : Nat} {S : Nat → Prop} {w : World} {a : Option Addr} {cap : Nat} {f : Fo} (h : Sl n w a cap f) (hS : ∀ b, b < n → S b) : SlS S w a cap f :=
  ⟨h.1, h.2.1, h.2.2.1, h.2.2.2.elim .inl (fun ⟨b, o, zs, ha, hlt, hc, hz⟩ => .inr ⟨b, o, zs, ha, hS b hlt, hc, hz.repsS hS⟩)⟩
theorem Put.ofSl {n : Nat} {w : World} {v : Value} {a : Option Addr} {cap : Nat} {f : Fo} (h : Sl n w a cap f) (hn : n ≤ w.heap.size) (hv : ∀ k, v.ownBlock = some k → n ≤ k) : Put (fun b => 0 ≤ b ∧ b < w.heap.size ∧ v.ownBlock ≠ some b) w a cap f :=
  Put.of (h.slS (fun b hb => ⟨Nat.zero_le _, by omega, fun e => by have := hv b e; omega⟩))

/-- a list of the call's own, in a block from n on. -/
def Mine (n : Nat) (w : World) (v : Value) (G : Fo) : Prop := Built 0 w v G ∧ ∀ k, v.ownBlock = some k → n ≤ k
theorem Mine.empty {n m : Nat} {w : World} (hm : m = w.heap.size) (hn : n ≤ w.heap.size) : Mine n (w.alloc (.cells #[] 35)) (.slice (some ⟨m, 0, none⟩) 0 0) .nil := by
  subst hm
  exact ⟨Built.lit (base := 0) (m := 0) (xs := []) (G := .nil) (S := fun _ => False) rfl rfl rfl (fun _ h => h.elim) (by decide) (Nat.zero_le _), fun k hk => by simp [Value.ownBlock] at hk; omega⟩
theorem Mine.next {n : Nat} {w w' : World} {v v' : Value} {G G' : Fo} (h : Mine n w v G) (hB : Built 0 w' v' G') (hat : v'.ownBlock = v.ownBlock ∨ v'.ownBlock = some w.heap.size) (hn : n ≤ w.heap.size) : Mine n w' v' G' :=
  ⟨hB, fun k hk => by
    rcases hat with e | e
    · rw [e] at hk; exact h.2 k hk
    · rw [e] at hk; cases hk; exact hn⟩
theorem Mine.below {n : Nat} {w0 w w' : World} {v : Value} {G : Fo} (h : Mine n w v G) (hb : Below n w0 w) (hg : w.grownBy w' v.ownBlock) (hn : n ≤ w.heap.size) : Below n w0 w' := hb.grown hg hn h.2

/-- a block that can be written. -/
def Fro (w : World) (b : Nat) : Prop := ∀ j, w.frozen? ⟨b, j, none⟩ = false
theorem Fro.of_block {w w' : World} {b : Nat} (h : Fro w b) (hb : w'.heap[b]? = w.heap[b]?) : Fro w' b := fun j => (World.frozen?_of_block (a := ⟨b, j, none⟩) hb).trans (h j)
theorem Fro.set {w : World} {b : Nat} {a : Addr} {v : Value} (h : Fro w b) : Fro (w.setCell a v) b := fun j => by rw [World.frozen?_setCell]; exact h j
/-- what a copy leaves. -/
def OutZ (w : World) (G : Fo) (e : Ending) (w' : World) : Prop :=
  ∃ a cap, e = .returned (.slice a G.len cap) ∧ Hid (SlS (fun b => w.heap.size ≤ b ∧ b < w'.heap.size ∧ Fro w' b) w' a cap G) ∧ Below w.heap.size w w'

/-- a list of the call's own, cell by cell: the kids of the first k terms are new, the others are as they were. -/
def Half (n gb : Nat) (w : World) (f : Fo) (k : Nat) : Prop :=
  ∃ ys zs, RepsS (fun b => n ≤ b ∧ b < w.heap.size ∧ b ≠ gb ∧ Fro w b) w ys (f.take k) ∧ RepsS (fun b => b < w.heap.size ∧ b ≠ gb) w zs (f.drop k) ∧ Cells w gb 0 (ys ++ zs) ∧ (∀ j, w.frozen? ⟨gb, j, none⟩ = false) ∧ n ≤ gb ∧ gb < w.heap.size

/-- what Clone leaves. -/
def OutC (w : World) (f : Fo) (e : Ending) (w' : World) : Prop :=
  (f = .nil ∧ (∃ a cap, e = .returned (.slice a 0 cap) ∧ Hid (SlS (fun b => w.heap.size ≤ b ∧ b < w'.heap.size ∧ Fro w' b) w' a cap .nil)) ∧ Hid (Below w.heap.size w w')) ∨
  (0 < f.len ∧ ∃ gb cap, e = .returned (.slice (some ⟨gb, 0, none⟩) f.len cap) ∧ f.len ≤ cap ∧ cap ≤ 9223372036854775807 ∧ Hid (Half w.heap.size gb w' f 0) ∧ Hid (Below w.heap.size w w'))

theorem clone_out {w w' : World} {v : Value} {f : Fo} (hB : Built 0 w' v f) (hM : ∀ k, v.ownBlock = some k → w.heap.size ≤ k) (hb : Below w.heap.size w w') : OutC w f (.returned v) w' := by
  obtain ⟨xs, ho, hr, _⟩ := hB
  have hlen := hr.length
  rcases ho.2 with ⟨rfl, h0⟩ | ⟨g, cap, cur, rfl, _, hg, hnc, hcm, hrest⟩
  · have hf : f = .nil := len0 h0
    subst hf
    exact .inl ⟨rfl, ⟨none, 0, rfl, Lib.hid SlS.nil⟩, Lib.hid hb⟩
  · have hgn : w.heap.size ≤ g := hM g rfl
    have hgl : g < w'.heap.size := (Array.getElem?_eq_some_iff.1 hg).1
    have hfz := ho.frozenAt
    have hca := ho.cellAt
    by_cases h0 : f.len = 0
    · have hf : f = .nil := len0 h0
      subst hf
      exact .inl ⟨rfl, ⟨some ⟨g, 0, none⟩, cap, rfl, Lib.hid ⟨Nat.zero_le _, hcm, by simp, .inl rfl⟩⟩, Lib.hid hb⟩
    · refine .inr ⟨by omega, g, cap, rfl, hnc, by unfold maxLen at hcm; omega, Lib.hid ⟨[], xs, by rw [Fo.take_zero]; rfl, ?_, ?_, hfz, hgn, hgl⟩, Lib.hid hb⟩
      · rw [Fo.drop_zero]
        exact hr.mono (fun b hb => ⟨hb.2.1, fun e => hb.2.2 (by rw [e]; rfl)⟩) (fun _ _ => rfl)
      · intro j hj
        simp only [List.nil_append] at hj ⊢
        rw [Nat.zero_add]
        exact hca j (by omega)

set_option maxHeartbeats 3200000 in
theorem clone_any (f : Fo) (a : Option Addr) (cap : Nat) (w : World) (hl : f.len ≤ 7000000) (hs : Sl w.heap.size w a cap f) :
    Calls Try.prog 66 #[.slice a f.len cap] w (OutC w f) := by
  obtain ⟨m, hm⟩ : ∃ m, m = f.len := ⟨_, rfl⟩
  rw [← hm]
  have HM := Lib.hid hm
  have HS := Lib.hid hs
  clear hm hs
  cases a with
  | none =>
    have hnil : ∀ (w : World), (binOp .eql 22 (.slice none m cap) (.slice none 0 0)).run Try.prog w = .ok (.bool true) w := fun (w : World) => Lib.run_eql_slice_nil (P := Try.prog) w 22 35 none m cap 0 0 Try.underlying22
    have hf : f = .nil := len0 (by have := HS.out.1; have := HS.out.2.2.1 rfl; omega)
    have HF := Lib.hid hf
    clear hf
    go_enter Try.func66, Try.ntmps66
    go_wp2
    go_ret
    exact .inl ⟨HF.out, ⟨none, 0, rfl, Lib.hid SlS.nil⟩, Lib.hid (Below.refl _ _)⟩
  | some p =>
    have hnil : ∀ (w : World), (binOp .eql 22 (.slice (some p) m cap) (.slice none 0 0)).run Try.prog w = .ok (.bool false) w := fun (w : World) => Lib.run_eql_slice_nil (P := Try.prog) w 22 35 (some p) m cap 0 0 Try.underlying22
    have hM := Mine.empty (n := w.heap.size) (m := w.heap.size) (w := w) rfl (Nat.le_refl _)
    have hbA : Below w.heap.size w (w.alloc (.cells #[] 35)) := (Below.refl _ _).alloc (Nat.le_refl _) _
    have hsA : Sl w.heap.size (w.alloc (.cells #[] 35)) (some p) cap f := HS.out.below hbA (Nat.le_refl _)
    have HP := Lib.hid (Put.ofSl (v := .slice (some ⟨w.heap.size, 0, none⟩) 0 0) hsA (by simp) hM.2)
    have HMM := Lib.hid hM
    have HBA := Lib.hid hbA
    clear hM hbA hsA
    go_enter Try.func66, Try.ntmps66
    go_wp2_with (first | (at_builtin; refine wpList_append_built rfl (.tmp 5) (.tmp 6) rfl HMM.out.1 rfl rfl HM.out HP.out (by simp; omega) ?_; intro v6 w6 hB6 hgrow6 hat6) | fail)
    go_ret
    have hmi := HMM.out.next hB6 hat6 (by simp)
    exact clone_out hmi.1 hmi.2 (HBA.out.grown hgrow6 (by simp) HMM.out.2)

theorem len_take (n : Nat) (f : Fo) (h : n ≤ f.len) : (f.take n).len = n := by
  have h1 := congrArg Fo.len (Fo.take_app_drop n f)
  rw [Fo.len_app, Fo.len_drop] at h1
  omega

theorem Half.at {n gb k : Nat} {w : World} {f : Fo} {kd : Int} {t : ByteArray} {c r : Fo} (h : Half n gb w f k) (hk : k ≤ f.len) (hd : f.drop k = .cons kd t c r) :
    ∃ ac capc, w.cell? ⟨gb, k * 3 + 2, none⟩ = some (.slice ac c.len capc) ∧ Sl w.heap.size w ac capc c ∧ w.frozen? ⟨gb, k * 3 + 2, none⟩ = false := by
  obtain ⟨ys, zs, hy, hz, hc, hf, _, _⟩ := h
  rw [hd] at hz
  obtain ⟨ac, capc, zs', rfl, hs, _⟩ := hz
  have hl := hy.length
  rw [len_take k f hk] at hl
  refine ⟨ac, capc, ?_, SlS.sl (S := fun b => b < w.heap.size ∧ b ≠ gb) hs (fun b hb => hb.1), hf _⟩
  have := hc (k * 3 + 2) (by simp; omega)
  rw [Nat.zero_add] at this
  rw [this, List.getElem?_append_right (by omega), show k * 3 + 2 - ys.length = 2 by omega]
  rfl

theorem Half.next {n gb k cap2 : Nat} {w w2 : World} {f : Fo} {kd : Int} {t : ByteArray} {c r : Fo} {a2 : Option Addr} (h : Half n gb w f k) (hk : k ≤ f.len) (hd : f.drop k = .cons kd t c (f.drop (k + 1)))
    (hn : n ≤ w.heap.size) (hs : SlS (fun b => w.heap.size ≤ b ∧ b < w2.heap.size ∧ Fro w2 b) w2 a2 cap2 c) (hb : Below w.heap.size w w2) (_ : r = r) : Half n gb (w2.setCell ⟨gb, k * 3 + 2, none⟩ (.slice a2 c.len cap2)) f (k + 1) := by
  obtain ⟨ys, zs, hy, hz, hc, hf, hng, hgl⟩ := h
  rw [hd] at hz
  obtain ⟨ac, capc, zs', rfl, _, hz'⟩ := hz
  have hl := hy.length
  rw [len_take k f hk] at hl
  have hsz : (w2.setCell ⟨gb, k * 3 + 2, none⟩ (.slice a2 c.len cap2)).heap.size = w2.heap.size := by simp [World.setCell]
  have hheap : ∀ b, b < w.heap.size → b ≠ gb → (w2.setCell ⟨gb, k * 3 + 2, none⟩ (.slice a2 c.len cap2)).heap[b]? = w.heap[b]? := fun b h1 h2 => (Below.heap_setCell _ _ _ _ h2).trans (hb.block b h1)
  have hone : RepsS (fun b => n ≤ b ∧ b < (w2.setCell ⟨gb, k * 3 + 2, none⟩ (.slice a2 c.len cap2)).heap.size ∧ b ≠ gb ∧ Fro (w2.setCell ⟨gb, k * 3 + 2, none⟩ (.slice a2 c.len cap2)) b) (w2.setCell ⟨gb, k * 3 + 2, none⟩ (.slice a2 c.len cap2)) [.int .i64 kd, .string t, .slice a2 c.len cap2] (.cons kd t c .nil) :=
    RepsS.one (hs.mono (fun b hb' => ⟨by omega, by rw [hsz]; exact hb'.2.1, by omega, hb'.2.2.set⟩) (fun b hb' => Below.heap_setCell _ _ _ _ (by simp; omega)))
  have hys := hy.mono (S' := fun b => n ≤ b ∧ b < (w2.setCell ⟨gb, k * 3 + 2, none⟩ (.slice a2 c.len cap2)).heap.size ∧ b ≠ gb ∧ Fro (w2.setCell ⟨gb, k * 3 + 2, none⟩ (.slice a2 c.len cap2)) b) (w' := w2.setCell ⟨gb, k * 3 + 2, none⟩ (.slice a2 c.len cap2)) (fun b hb' => ⟨hb'.1, by rw [hsz]; have := hb.size; omega, hb'.2.2.1, hb'.2.2.2.of_block (hheap b hb'.2.1 hb'.2.2.1)⟩) (fun b hb' => hheap b hb'.2.1 hb'.2.2.1)
  refine ⟨ys ++ [.int .i64 kd, .string t, .slice a2 c.len cap2], zs', by rw [Fo.take_succ hd]; exact RepsS.app hone hys, hz'.mono (fun b hb' => ⟨by rw [hsz]; have := hb.size; omega, hb'.2⟩) (fun b hb' => hheap b hb'.1 hb'.2), ?_, fun j => ?_, hng, by rw [hsz]; have := hb.size; omega⟩
  · intro j hj
    have hold : ∀ j, j < (ys ++ (.int .i64 kd :: .string t :: .slice ac c.len capc :: zs')).length → w2.cell? ⟨gb, 0 + j, none⟩ = (ys ++ (.int .i64 kd :: .string t :: .slice ac c.len capc :: zs'))[j]? := fun j hj => (hb.cell (p := ⟨gb, 0 + j, none⟩) hgl).trans (hc j hj)
    by_cases e : j = k * 3 + 2
    · subst e
      rw [Nat.zero_add, World.cell?_setCell_same w2 _ _ (v := .slice a2 c.len cap2) (u := .slice ac c.len capc)]
      · rw [List.append_assoc, List.getElem?_append_right (by omega), show k * 3 + 2 - ys.length = 2 by omega]
        rfl
      · have := hold (k * 3 + 2) (by simp; omega)
        rw [Nat.zero_add] at this
        rw [this, List.getElem?_append_right (by omega), show k * 3 + 2 - ys.length = 2 by omega]
        rfl
    · rw [World.cell?_setCell_other w2 _ _ _ (fun h => e (by have := congrArg Addr.off h; simp at this; omega)), hold j (by simpa using hj)]
      by_cases h1 : j < ys.length
      · rw [List.getElem?_append_left h1, List.append_assoc, List.getElem?_append_left h1]
      · rw [List.append_assoc, List.getElem?_append_right (by omega), List.getElem?_append_right (by omega)]
        match hq : j - ys.length with
        | 0 => rfl
        | 1 => rfl
        | 2 => omega
        | _ + 3 => rfl
  · rw [World.frozen?_setCell]
    cases hz2 : w2.frozen? ⟨gb, j, none⟩ with
    | false => rfl
    | true => rw [hb.frozen (p := ⟨gb, j, none⟩) hgl, hf j] at hz2; cases hz2

theorem Half.done {n gb cap : Nat} {w : World} {f : Fo} (h : Half n gb w f f.len) (h1 : f.len ≤ cap) (h2 : cap ≤ maxLen) : SlS (fun b => n ≤ b ∧ b < w.heap.size ∧ Fro w b) w (some ⟨gb, 0, none⟩) cap f := by
  obtain ⟨ys, zs, hy, hz, hc, hfz, hng, hgl⟩ := h
  rw [Fo.drop_len] at hz
  obtain rfl : zs = [] := hz
  rw [Fo.take_len] at hy
  rw [List.append_nil] at hc
  exact ⟨h1, h2, by simp, .inr ⟨gb, 0, ys, rfl, ⟨hng, hgl, hfz⟩, hc, hy.mono (fun b hb => ⟨hb.1, hb.2.1, hb.2.2.2⟩) (fun _ _ => rfl)⟩⟩

set_option maxHeartbeats 6400000 in
set_option maxRecDepth 100000 in
theorem copy_n (N : Nat) (hN : N ≤ 1000001) : ∀ (f : Fo) (a : Option Addr) (cap : Nat) (w : World), f.count < N → Sl w.heap.size w a cap f →
    Calls Try.prog 25 #[.slice a f.len cap] w (OutZ w f) := by
  induction N with
  | zero => exact fun f a cap w hc _ => absurd hc (Nat.not_lt_zero _)
  | succ N ih =>
    intro f a cap w hc hs
    have hlen := Fo.len_le_count f
    have CL := Lib.hid (clone_any f a cap w (by omega) hs)
    have HIH := Lib.hid (ih (by omega))
    have HC := Lib.hid hc
    obtain ⟨m, hm⟩ : ∃ m, m = f.len := ⟨_, rfl⟩
    have HM := Lib.hid hm
    have hmb : m ≤ 1000001 := by omega
    rw [← hm] at CL ⊢
    clear ih hs hm hlen hc
    go_enter Try.func25, Try.ntmps25
    go_wp2_with fail
    refine CL.out.mono ?_
    rintro e w1 (⟨hf, ⟨a1, cap1, rfl, hs1⟩, hb1⟩ | ⟨h0, gb, cap1, rfl, hc1, hc2, hh, hb1⟩)
    · have HF := Lib.hid hf
      clear hf CL HM
      go_wp2_with fail
      go_loopw [9] (fun i wr => i = .int .i64 0 ∧ wr = w1) (fun _ _ => 0)
      case atStart => exact ⟨rfl, rfl⟩
      case round =>
        obtain ⟨rfl, rfl⟩ := hrel
        go_wp2
        go_ret
        refine ⟨a1, cap1, ?_, ?_, hb1.out⟩
        · rw [HF.out]; rfl
        · rw [HF.out]; exact hs1
    · rw [← HM.out]
      have hcm : m ≤ cap1 := by rw [HM.out]; exact hc1
      have H0 := Lib.hid h0
      clear CL h0 hc1
      go_wp2_with fail
      go_loopw [9] (fun i wr => ∃ k : Nat, i = .int .i64 k ∧ k ≤ m ∧ Hid (Half w.heap.size gb wr f k) ∧ Hid (Below w.heap.size w wr)) (fun i _ => m - (intOf i).toNat)
      case atStart => exact ⟨0, rfl, Nat.zero_le _, hh, hb1⟩
      case round =>
        obtain ⟨k, rfl, hk, hH, hB⟩ := hrel
        by_cases hkl : k < m
        · have hkf : k < f.len := by rw [← HM.out]; exact hkl
          obtain ⟨kd, t, c, hd⟩ := Fo.drop_at hkf
          obtain ⟨ac, capc, c2, hsc, f2⟩ := hH.out.at (Nat.le_of_lt hkf) hd
          have hck := Fo.count_kid hd
          have S := Lib.hid (HIH.out c ac capc wr (by have := HC.out; omega) hsc)
          have HD := Lib.hid hd
          have HKF := Lib.hid (Nat.le_of_lt hkf)
          have hgl : gb < wr.heap.size := hH.out.choose_spec.choose_spec.2.2.2.2.2
          obtain ⟨mc, hmc⟩ : ∃ mc, mc = c.len := ⟨_, rfl⟩
          rw [← hmc] at S c2
          have HMC := Lib.hid hmc
          clear hd hsc hck hmc hkf
          go_wp2_with fail
          refine S.out.mono ?_
          rintro e w2 ⟨a2, cap2, rfl, hs2, hb2⟩
          rw [← HMC.out]
          have d2 := (hb2.cell (p := ⟨gb, k * 3 + 2, none⟩) hgl).trans c2
          have g2 := (hb2.frozen (p := ⟨gb, k * 3 + 2, none⟩) hgl).trans f2
          have HN := Lib.hid (hH.out.next HKF.out HD.out (hB.out.size) hs2.out hb2 (rfl : Fo.nil = Fo.nil))
          have hng : w.heap.size ≤ gb := hH.out.choose_spec.choose_spec.2.2.2.2.1
          have HBN := Lib.hid ((hB.out.trans (hb2.mono hB.out.size)).setCell (p := ⟨gb, k * 3 + 2, none⟩) hng (.slice a2 c.len cap2))
          rw [← HMC.out] at HN HBN
          go_wp2
          go_roundw
          case rel => exact ⟨k + 1, by go_num, by omega, HN, HBN⟩
          case measure => simp [intOf]; omega
        · have hkm : k = m := by omega
          have HX := Lib.hid (show SlS (fun b => w.heap.size ≤ b ∧ b < wr.heap.size ∧ Fro wr b) wr (some ⟨gb, 0, none⟩) cap1 f from by
            have hx := hH.out
            rw [hkm] at hx
            rw [HM.out] at hx hcm
            exact hx.done hcm (by unfold maxLen; omega))
          have hki : ¬ (k : Int) < (m : Int) := by omega
          clear hkm hkl
          go_wp2
          go_ret
          exact ⟨_, cap1, by rw [← HM.out]; rfl, HX, hB.out⟩

theorem copy_any (f : Fo) (a : Option Addr) (cap : Nat) (w : World) (hc : f.count ≤ 1000000) (hs : Sl w.heap.size w a cap f) :
    Calls Try.prog 25 #[.slice a f.len cap] w (OutZ w f) := copy_n 1000001 (Nat.le_refl _) f a cap w (by omega) hs
end Go.Proofs.Ytajdpchojimigaa

namespace Go.Proofs.Ytajdpchojimigaa
open Go.RowKit TmM

theorem outF_kids {base : Nat} {w W w2 : World} {v : Value} {G H : Fo} {a : Option Addr} {cap : Nat} (hB : Built base w v G) (hw : Below w.heap.size w W) (hs : SlS (fun b => W.heap.size ≤ b ∧ b < w2.heap.size) w2 a cap H) :
    SlS (fun b => base ≤ b ∧ b < w2.heap.size ∧ v.ownBlock ≠ some b) w2 a cap H := by
  obtain ⟨xs, ho, hr, hb⟩ := hB
  refine hs.mono (fun b hb' => ⟨?_, hb'.2, fun hv => ?_⟩) (fun _ _ => rfl)
  · have := hw.size; omega
  · have := own_lt ho hv; have := hw.size; omega

def TwOk (N : Nat) : Prop := ∀ (f : Fo) (a : Option Addr) (cap : Nat) (w : World), f.count ≤ N → f.count ≤ 1000000 → Sl w.heap.size w a cap f → Calls Try.prog 24 #[.slice a f.len cap] w (OutF w f)

set_option maxHeartbeats 12800000 in
set_option maxRecDepth 100000 in
theorem tw_step (N : Nat) (ih : ∀ M, M < N → TwOk M) : TwOk N := by
  intro f a cap w hc hcm hs
  obtain ⟨b, o, hab, hbw, HCX⟩ := base_of hs
  have hcap := hs.cap
  have hfl := Fo.len_le_count f
  have HAB := Lib.hid hab
  have HBW := Lib.hid hbw
  have HIH := Lib.hid ih
  have HC := Lib.hid hc
  have HCM := Lib.hid hcm
  have hl6 : f.len ≤ 1000000 := by omega
  clear ih hs hab hbw hc hcm hfl hcap
  go_enter Try.func24, Try.ntmps24
  go_wp2_with fail
  go_loopw [3, 8] (fun u i wr => ∃ (v : Value) (k : Nat), u = v ∧ i = .int .i64 k ∧ k ≤ f.len ∧ Hid (Built w.heap.size wr v (f.take k)) ∧ Below w.heap.size w wr) (fun _ i _ => f.len - (intOf i).toNat)
  case atStart => exact ⟨_, 0, rfl, rfl, Nat.zero_le _, Lib.hid (by rw [Fo.take_zero]; exact Built.nil (Nat.le_refl _)), Below.refl _ _⟩
  case round =>
    obtain ⟨v, k, rfl, rfl, hk, hB, hbl⟩ := hrel
    by_cases hkl : k < f.len
    · have hki : (k : Int) < (f.len : Int) := by omega
      obtain rfl := HAB.out (by omega)
      have hb := HBW.out (by omega)
      obtain ⟨kd, t, c, hd⟩ := Fo.drop_at hkl
      obtain ⟨x0, x1, ac, capc, x2, hsc⟩ := HCX.out k kd t c _ hd
      have y0 := (hbl.cell (p := ⟨b, o + k * 3, none⟩) hb).trans x0
      have y1 := (hbl.cell (p := ⟨b, o + k * 3 + 1, none⟩) hb).trans x1
      have y2 := (hbl.cell (p := ⟨b, o + k * 3 + 2, none⟩) hb).trans x2
      have hck := Fo.count_kid hd
      obtain ⟨W, hW⟩ : ∃ W, W = wr.alloc (.cells #[.int .i64 kd, .string t, .slice ac c.len capc] 35) := ⟨_, rfl⟩
      have hbW : Below w.heap.size w W := by rw [hW]; exact hbl.alloc hbl.size _
      have hbrW : Below wr.heap.size wr W := by rw [hW]; exact (Below.refl _ _).alloc (Nat.le_refl _) _
      have hbx : Box W wr.heap.size kd t ac c.len capc := by rw [hW]; exact Box.new _ _ _ _ _ _
      have hbd : Below W.heap.size W W.drew := (Below.refl _ _).drew
      obtain ⟨gd, kx0, kx1, kx2⟩ := hbx.later hbd
      have HBXD := Lib.hid (hbx.later hbd)
      have hbrD : Below wr.heap.size wr W.drew := hbrW.drew
      have hbwD : Below w.heap.size w W.drew := hbW.drew
      have hne : u3.ownBlock ≠ some wr.heap.size := fun hv => by
        obtain ⟨xs, ho, _⟩ := hB.out
        exact absurd (own_lt ho hv) (Nat.lt_irrefl _)
      have HNE := Lib.hid hne
      have S := Lib.hid (HIH.out c.count (Nat.lt_of_lt_of_le hck HC.out) c ac capc W.drew (Nat.le_refl _) (by have := HCM.out; omega) (hsc.below hbwD hbwD.size))
      have HT := Lib.hid (Fo.take_succ hd)
      have HPL := Lib.hid (show (f.take k).len ≤ 1000001 from by
        have e := congrArg Fo.len (Fo.take_app_drop k f)
        rw [Fo.len_app, Fo.len_drop] at e
        omega)
      have HBRD := Lib.hid hbrD
      have HBWD := Lib.hid hbwD
      clear hd x0 x1 x2 hsc hck hbW hbrW hbx hbd hne hbrD hbwD
      go_wp2_with fail
      rw [← hW]
      clear hW
      go_region_held3 (fun w' => w'.cell? ⟨wr.heap.size, 0, none⟩ = some (.int .i64 kd) ∧ w'.cell? ⟨wr.heap.size, 1, none⟩ = some (.string t) ∧ w'.cell? ⟨wr.heap.size, 2, none⟩ = some (.slice ac c.len capc))
        (first | exact ⟨kx0, kx1, kx2⟩ | exact ⟨K9.out.2.1, K9.out.2.2.1, K9.out.2.2.2⟩ | exact ⟨K7.out.2.1, K7.out.2.2.1, K7.out.2.2.2⟩ | go_keep)
        (first
          | (refine step_append_built (by rfl) (.tmp 12) (.tmp 21) (by rfl) (hB7.out.push _) (by rfl) (by rfl) rfl (Put.push hk7.out (by simp)) (by have := HPL.out; simp only [Fo.len_cons, Fo.len_nil]; omega) ?_; intro v9 w9 hB9 hgrow9 hat9; have K9 := Lib.hid ((K7.out.later ((Below.refl _ _).alloc (Nat.le_refl _) _)).grown hgrow9 HNE.out))
          | (go_at_call 24; refine S.out.mono ?_; rintro e w7 ⟨a7, cap7, rfl, hs7, hb7⟩; have K7 := Lib.hid (HBXD.out.later hb7); have Q7 := Lib.hid (HBRD.out.trans (hb7.mono HBRD.out.size)); have hB7 := Lib.hid (hB.out.later Q7.out); have hk7 := Lib.hid (RepsS.one (k := kd) (t := t) (outF_kids hB.out HBRD.out hs7.out)))
          | fail)
      have hbn := below_push (hbl.trans (Q7.out.mono hbl.size)) hB7.out hgrow9
      have HX9 := Lib.hid (show Built w.heap.size w9 v9 (f.take (k + 1)) from by rw [HT.out]; exact hB9)
      clear hB9 hgrow9 hat9
      go_wp2_with fail
      go_roundw
      case rel => exact ⟨_, k + 1, rfl, by go_num, by omega, HX9, hbn⟩
      case measure => simp [intOf]; omega
    · obtain rfl : k = f.len := by omega
      have hki : ¬ ((f.len : Nat) : Int) < (f.len : Int) := by omega
      have HX := Lib.hid (show Built w.heap.size wr u3 f from by have := hB.out; rwa [Fo.take_len] at this)
      go_wp2
      go_ret
      exact outF_of HX.out hbl
theorem tw_all (N : Nat) : TwOk N := by
  induction N using Nat.strongRecOn with
  | _ N ih => exact tw_step N ih
theorem twin_any (f : Fo) (a : Option Addr) (cap : Nat) (w : World) (hc : f.count ≤ 1000000) (hs : Sl w.heap.size w a cap f) : Calls Try.prog 24 #[.slice a f.len cap] w (OutF w f) := tw_all f.count f a cap w (Nat.le_refl _) hc hs
end Go.Proofs.Ytajdpchojimigaa

namespace Go.Proofs.Ytajdpchojimigaa
open Go.RowKit TmM

/-- what a walk that writes kinds and texts needs of an expression. -/
def SkR (n m : Nat) (w : World) : Fo → Nat → Nat → Prop
  | .nil, _, _ => True
  | .cons _ _ c r, b, o => Fro w b ∧ (∃ x, w.cell? ⟨b, o, none⟩ = some (.int .i64 x)) ∧ (∃ s : ByteArray, w.cell? ⟨b, o + 1, none⟩ = some (.string s) ∧ s.size ≤ m) ∧
      (∃ a cap, w.cell? ⟨b, o + 2, none⟩ = some (.slice a c.len cap) ∧ (c = .nil ∨ ∃ b' o', a = some ⟨b', o', none⟩ ∧ n ≤ b' ∧ SkR n m w c b' o')) ∧ SkR n m w r b (o + 3)

theorem sk_of {n : Nat} {S : Nat → Prop} {w : World} (hS : ∀ b, S b → n ≤ b ∧ Fro w b) : ∀ {f : Fo} {zs : List Value} {b o : Nat}, Fro w b → RepsS S w zs f → Cells w b o zs → Small f → SkR n 1000000 w f b o
  | .nil, _, _, _, _, _, _, _ => trivial
  | .cons k t c r, zs, b, o, hb, ⟨a, cap, ys, hx, ⟨_, _, _, h4⟩, hr⟩, hc, ⟨ht, hsc, hsr⟩ => by
    subst hx
    refine ⟨hb, ⟨k, hc 0 (by simp)⟩, ⟨t, hc 1 (by simp), ht⟩, ⟨a, cap, hc 2 (by simp), ?_⟩, sk_of hS hb hr (fun j hj => ?_) hsr⟩
    · rcases h4 with h4 | ⟨b', o', zs', ha, hs', hc', hz'⟩
      · exact .inl h4
      · exact .inr ⟨b', o', ha, (hS b' hs').1, sk_of hS (hS b' hs').2 hz' hc' hsc⟩
    · have := hc (j + 3) (by simpa using hj)
      rw [show o + 3 + j = o + (j + 3) by omega, this]
      rfl

section
variable {n m : Nat} {w : World} {b0 j0 : Nat}
theorem SkR.le {m' : Nat} (hm : m ≤ m') : ∀ {f : Fo} {b o : Nat}, SkR n m w f b o → SkR n m' w f b o
  | .nil, _, _, _ => trivial
  | .cons _ _ _ _, _, _, ⟨h0, h1, ⟨s, h2, h2'⟩, ⟨a, cap, h3, h4⟩, h5⟩ => ⟨h0, h1, ⟨s, h2, by omega⟩, ⟨a, cap, h3, h4.imp id (fun ⟨b', o', ha, hn, hk⟩ => ⟨b', o', ha, hn, hk.le hm⟩)⟩, h5.le hm⟩
theorem cell_set_int {x0 y : Int} {a : Addr} {v : Value} (h : w.cell? ⟨b0, j0, none⟩ = some (.int .i64 x0)) (ha : w.cell? a = some v) : (w.setCell ⟨b0, j0, none⟩ (.int .i64 y)).cell? a = some v ∨ (a = ⟨b0, j0, none⟩ ∧ (w.setCell ⟨b0, j0, none⟩ (.int .i64 y)).cell? a = some (.int .i64 y) ∧ v = .int .i64 x0) := by
  by_cases e : a = ⟨b0, j0, none⟩
  · subst e
    rw [h] at ha
    exact .inr ⟨rfl, World.cell?_setCell_same w _ (v := .int .i64 y) (u := .int .i64 x0) h, by cases ha; rfl⟩
  · exact .inl ((World.cell?_setCell_other w _ _ _ (fun h => e h.symm)).trans ha)
theorem SkR.setInt {x0 y : Int} (h : w.cell? ⟨b0, j0, none⟩ = some (.int .i64 x0)) : ∀ {f : Fo} {b o : Nat}, SkR n m w f b o → SkR n m (w.setCell ⟨b0, j0, none⟩ (.int .i64 y)) f b o
  | .nil, _, _, _ => trivial
  | .cons _ _ _ _, _, _, ⟨h0, ⟨x, h1⟩, ⟨s, h2, h2'⟩, ⟨a, cap, h3, h4⟩, h5⟩ => by
    refine ⟨h0.set, ?_, ⟨s, ?_, h2'⟩, ⟨a, cap, ?_, h4.imp id (fun ⟨b', o', ha, hn, hk⟩ => ⟨b', o', ha, hn, hk.setInt h⟩)⟩, h5.setInt h⟩
    · rcases cell_set_int (y := y) h h1 with e | ⟨_, e, _⟩ <;> exact ⟨_, e⟩
    · rcases cell_set_int (y := y) h h2 with e | ⟨_, _, e⟩
      · exact e
      · cases e
    · rcases cell_set_int (y := y) h h3 with e | ⟨_, _, e⟩
      · exact e
      · cases e
theorem cell_set_str {x0 y : ByteArray} {a : Addr} {v : Value} (h : w.cell? ⟨b0, j0, none⟩ = some (.string x0)) (ha : w.cell? a = some v) : (w.setCell ⟨b0, j0, none⟩ (.string y)).cell? a = some v ∨ (a = ⟨b0, j0, none⟩ ∧ (w.setCell ⟨b0, j0, none⟩ (.string y)).cell? a = some (.string y) ∧ v = .string x0) := by
  by_cases e : a = ⟨b0, j0, none⟩
  · subst e
    rw [h] at ha
    exact .inr ⟨rfl, World.cell?_setCell_same w _ (v := .string y) (u := .string x0) h, by cases ha; rfl⟩
  · exact .inl ((World.cell?_setCell_other w _ _ _ (fun h => e h.symm)).trans ha)
theorem SkR.setStr {x0 y : ByteArray} (h : w.cell? ⟨b0, j0, none⟩ = some (.string x0)) (hy : y.size ≤ x0.size + 1) : ∀ {f : Fo} {b o : Nat}, SkR n m w f b o → SkR n (m + 1) (w.setCell ⟨b0, j0, none⟩ (.string y)) f b o
  | .nil, _, _, _ => trivial
  | .cons _ _ _ _, _, _, ⟨h0, ⟨x, h1⟩, ⟨s, h2, h2'⟩, ⟨a, cap, h3, h4⟩, h5⟩ => by
    refine ⟨h0.set, ⟨x, ?_⟩, ?_, ⟨a, cap, ?_, h4.imp id (fun ⟨b', o', ha, hn, hk⟩ => ⟨b', o', ha, hn, hk.setStr h hy⟩)⟩, h5.setStr h hy⟩
    · rcases cell_set_str (y := y) h h1 with e | ⟨_, _, e⟩
      · exact e
      · cases e
    · rcases cell_set_str (y := y) h h2 with e | ⟨_, e, hv⟩
      · exact ⟨s, e, by omega⟩
      · exact ⟨y, e, by cases hv; omega⟩
    · rcases cell_set_str (y := y) h h3 with e | ⟨_, _, e⟩
      · exact e
      · cases e
theorem SkR.step {x y : Int} {s u : ByteArray} {b1 j1 : Nat} (hc0 : w.cell? ⟨b0, j0, none⟩ = some (.int .i64 x)) (hc1 : w.cell? ⟨b1, j1, none⟩ = some (.string s)) (hu : u.size ≤ s.size + 1) {f : Fo} {b o : Nat} (h : SkR n m w f b o) :
    SkR n (m + 1) ((w.setCell ⟨b0, j0, none⟩ (.int .i64 y)).setCell ⟨b1, j1, none⟩ (.string u)) f b o :=
  (h.setInt (y := y) hc0).setStr ((cell_set_int (y := y) hc0 hc1).resolve_right (fun e => by cases e.2.2)) hu
theorem SkR.at : ∀ {k : Nat} {f : Fo} {b o : Nat} {kd : Int} {t : ByteArray} {c r : Fo}, SkR n m w f b o → f.drop k = .cons kd t c r → Fro w b ∧ (∃ x, w.cell? ⟨b, o + k * 3, none⟩ = some (.int .i64 x)) ∧ (∃ s : ByteArray, w.cell? ⟨b, o + k * 3 + 1, none⟩ = some (.string s) ∧ s.size ≤ m) ∧
      (∃ a cap, w.cell? ⟨b, o + k * 3 + 2, none⟩ = some (.slice a c.len cap) ∧ (c = .nil ∨ ∃ b' o', a = some ⟨b', o', none⟩ ∧ n ≤ b' ∧ SkR n m w c b' o'))
  | 0, .cons _ _ _ _, b, o, _, _, _, _, h, hd => by
    rw [Fo.drop_zero] at hd
    cases hd
    rw [Nat.zero_mul, Nat.add_zero]
    exact ⟨h.1, h.2.1, h.2.2.1, h.2.2.2.1⟩
  | k + 1, .cons _ _ _ r', b, o, _, _, _, _, h, hd => by
    have := SkR.at (k := k) (f := r') h.2.2.2.2 hd
    rw [show o + (k + 1) * 3 = o + 3 + k * 3 by omega]
    exact this
  | 0, .nil, _, _, _, _, _, _, _, hd => by simp [Fo.drop] at hd
  | _ + 1, .nil, _, _, _, _, _, _, _, hd => by simp [Fo.drop] at hd
end

/-- what spoiling leaves. -/
def OutSp (n d : Nat) (w : World) (e : Ending) (w' : World) : Prop := e = .returned (.tuple #[]) ∧ Hid (Below n w w') ∧ Hid (∀ m f b o, m + d ≤ 2000000 → SkR n m w f b o → SkR n (m + d) w' f b o)
def SpOk (N : Nat) : Prop := ∀ (f : Fo) (a : Option Addr) (cap n m : Nat) (w : World), f.count ≤ N → f.count ≤ 900000 → m + f.count ≤ 2000000 → (f = .nil ∨ ∃ b o, a = some ⟨b, o, none⟩ ∧ n ≤ b ∧ SkR n m w f b o) →
  Calls Try.prog 26 #[.slice a f.len cap] w (OutSp n f.count w)

set_option maxHeartbeats 12800000 in
set_option maxRecDepth 100000 in
theorem sp_step (N : Nat) (ih : ∀ M, M < N → SpOk M) : SpOk N := by
  intro f a cap n m w hc hcm hm hsk
  have hfl := Fo.len_le_count f
  have HIH := Lib.hid ih
  have HC := Lib.hid hc
  have HCM := Lib.hid hcm
  have HM := Lib.hid hm
  have HFL := Lib.hid hfl
  obtain ⟨L, hL⟩ : ∃ L, L = f.len := ⟨_, rfl⟩
  have hLm : L ≤ 900000 := by omega
  rw [← hL]
  have HL := Lib.hid hL
  have HSK := Lib.hid hsk
  clear ih hc hcm hm hfl hL hsk
  go_enter Try.func26, Try.ntmps26
  go_wp2_with fail
  go_loopw [5] (fun i wr => ∃ k : Nat, i = .int .i64 k ∧ k ≤ L ∧ Hid (Below n w wr) ∧ Hid (∀ m g b o, m + (f.take k).count ≤ 2000000 → SkR n m w g b o → SkR n (m + (f.take k).count) wr g b o)) (fun i _ => L - (intOf i).toNat)
  case atStart => exact ⟨0, rfl, Nat.zero_le _, Lib.hid (Below.refl _ _), Lib.hid (fun m g b o _ h => by rw [Fo.take_zero]; exact h)⟩
  case round =>
    obtain ⟨k, rfl, hk, hbl, hkeep⟩ := hrel
    by_cases hkl : k < L
    · have hki : (k : Int) < (L : Int) := by omega
      have hkf : k < f.len := by have := HL.out; omega
      obtain ⟨b, o, rfl, hnb, hs0⟩ := HSK.out.resolve_left (fun e => by rw [e] at hkf; simp at hkf)
      obtain ⟨kd, t, c, hd⟩ := Fo.drop_at hkf
      have hck := Fo.count_kid hd
      have htk : (f.take k).count + (c.count + (f.drop (k + 1)).count + 1) = f.count := by
        have e := congrArg Fo.count (Fo.take_app_drop k f)
        rw [Fo.count_app, hd] at e; exact e
      have ht1 : (f.take (k + 1)).count = (f.take k).count + c.count + 1 := by rw [Fo.take_succ hd, Fo.count_app]; simp [Fo.count]; omega
      have hmm : m + f.count ≤ 2000000 := HM.out
      have hs1 := hkeep.out m f b o (by omega) hs0
      obtain ⟨_, _, _, ac, capc, z2, hkid⟩ := hs1.at hd
      have S := Lib.hid (HIH.out c.count (Nat.lt_of_lt_of_le hck HC.out) c ac capc n (m + (f.take k).count) wr (Nat.le_refl _) (by have := HCM.out; omega) (by omega) hkid)
      have HD := Lib.hid hd
      have HS1 := Lib.hid hs1
      have HT1 := Lib.hid ht1
      have hle : m + (f.take k).count + c.count ≤ 2000000 := by omega
      have HLE := Lib.hid hle
      clear hd hs1 hs0 hck htk ht1 hmm hkid hle
      go_wp2_with fail
      refine S.out.mono ?_
      rintro e w2 ⟨rfl, hb2, hk2⟩
      have hs2 := hk2.out _ f b o HLE.out HS1.out
      obtain ⟨hfr, ⟨x, c0⟩, ⟨s, c1, hsz⟩, _⟩ := hs2.at HD.out
      have g0 := hfr (o + k * 3)
      have g1 := hfr (o + k * 3 + 1)
      have hsz2 : s.size ≤ 2000000 := by have := HLE.out; omega
      have C0 := Lib.hid c0
      have C1 := Lib.hid c1
      have h33 : (⟨#[33]⟩ : ByteArray).size = 1 := rfl
      clear hs2 hfr hsz
      go_wp2_with fail
      go_roundw
      case rel =>
        refine ⟨k + 1, by go_num, by omega, Lib.hid (((hbl.out.trans hb2.out).setCell (p := ⟨b, o + k * 3, none⟩) hnb _).setCell (p := ⟨b, o + k * 3 + 1, none⟩) hnb _), Lib.hid (fun m' g b' o' hm' hg => ?_)⟩
        rw [HT1.out] at hm' ⊢
        have h1 := hkeep.out m' g b' o' (by omega) hg
        have h2 := hk2.out _ g b' o' (by omega) h1
        rw [show m' + ((f.take k).count + c.count + 1) = m' + (f.take k).count + c.count + 1 by omega]
        exact h2.step C0.out C1.out (by rw [ByteArray.size_append]; omega)
      case measure => simp [intOf]; omega
    · obtain rfl : k = L := by omega
      have hki : ¬ ((k : Nat) : Int) < (k : Int) := by omega
      have HK2 := Lib.hid (show ∀ m g b o, m + f.count ≤ 2000000 → SkR n m w g b o → SkR n (m + f.count) wr g b o from by
        have h := hkeep.out
        rwa [HL.out, Fo.take_len] at h)
      go_wp2
      go_end0
      exact ⟨rfl, hbl, HK2⟩
theorem sp_all (N : Nat) : SpOk N := by
  induction N using Nat.strongRecOn with
  | _ N ih => exact sp_step N ih
end Go.Proofs.Ytajdpchojimigaa
