/- Copies of an expression: the reference's. -/
import Derived.Test.YtfajodndpoepcaaCp
import Derived.Test.YtfajodndpoepcaaRc
namespace Go.Proofs.Ytfajodndpoepcaa
open Go.RowKit TmM

theorem Built.empty {w : World} {n : Nat} (hn : n = w.heap.size) : Built w.heap.size (w.alloc (.cells #[] 35)) (.slice (some ⟨n, 0, none⟩) 0 0) .nil := by
  subst hn
  exact Built.lit (base := w.heap.size) (m := 0) (xs := []) (G := .nil) (S := fun _ => False) rfl rfl rfl (fun _ h => h.elim) (by decide) (Nat.le_refl _)

set_option maxHeartbeats 6400000 in
set_option maxRecDepth 100000 in
theorem rcopy_n (N : Nat) (hN : N ≤ 1000001) : ∀ (f : Fo) (a : Option Addr) (cap : Nat) (w : World), f.count < N → Sl w.heap.size w a cap f →
    Calls Try.prog 37 #[.slice a f.len cap] w (OutF w f) := by
  induction N with
  | zero => exact fun f a cap w hc _ => absurd hc (Nat.not_lt_zero _)
  | succ N ih =>
    intro f a cap w hc hs
    obtain ⟨b, o, hab, hbw, HCX⟩ := base_of hs
    have hcap := hs.cap
    unfold maxLen at hcap
    have hlen := Fo.len_le_count f
    have HAB := Lib.hid hab
    have HBW := Lib.hid hbw
    have HIH := Lib.hid (ih (by omega))
    have HC := Lib.hid hc
    have HL := Lib.hid (show f.len ≤ 1000001 by omega)
    clear ih hs hab hbw hc hlen
    have hbA : Below w.heap.size w (w.alloc (.cells #[] 35)) := (Below.refl _ _).alloc (Nat.le_refl _) _
    have HBA := Lib.hid hbA
    clear hbA
    go_enter Try.func37, Try.ntmps37
    go_wp2_with fail
    go_loopw [3, 4] (fun u i wr => ∃ (v : Value) (k : Nat), u = v ∧ i = .int .i64 k ∧ k ≤ f.len ∧ Hid (Built w.heap.size wr v (f.take k)) ∧ Below w.heap.size w wr) (fun _ i _ => f.len - (intOf i).toNat)
    case atStart => exact ⟨_, 0, rfl, rfl, Nat.zero_le _, Lib.hid (by rw [Fo.take_zero]; exact Built.empty rfl), HBA.out⟩
    case round =>
      obtain ⟨v, k, rfl, rfl, hk, hB, hbl⟩ := hrel
      by_cases hkl : k < f.len
      · obtain rfl := HAB.out (by omega)
        have hb := HBW.out (by omega)
        obtain ⟨kd, t, c, hd⟩ := Fo.drop_at hkl
        obtain ⟨c0, c1, ac, capc, c2, hsc⟩ := HCX.out k kd t c _ hd
        have e0 := (hbl.cell (p := ⟨b, o + k * 3, none⟩) hb).trans c0
        have e1 := (hbl.cell (p := ⟨b, o + k * 3 + 1, none⟩) hb).trans c1
        have hbw2 : b < wr.heap.size := Nat.lt_of_lt_of_le hb hbl.size
        have hck := Fo.count_kid hd
        have HT := Lib.hid (Fo.take_succ hd)
        have HPL := Lib.hid (show (f.take k).len ≤ 1000001 by rw [len_take k f hk]; exact Nat.le_trans hk HL.out)
        have HSC := Lib.hid (hsc.below hbl hbl.size)
        clear hd hsc c0 c1
        go_wp2_with fail
        go_region
        obtain ⟨X, hX⟩ : ∃ X, X = (wr.alloc (.cells #[.int .i64 kd, .string t, .slice none 0 0] 35)).drew := ⟨_, rfl⟩
        have hbX : Below wr.heap.size wr X := by rw [hX]; exact ((Below.refl _ _).alloc (Nat.le_refl _) _).drew
        have kX : Blk3 X wr.heap.size (.int .i64 kd) (.string t) (.slice none 0 0) := by rw [hX]; exact Blk3.new wr _ _ _
        rw [← hX]
        have d2 : X.cell? ⟨b, o + k * 3 + 2, none⟩ = some (.slice ac c.len capc) := (hbX.cell (p := ⟨b, o + k * 3 + 2, none⟩) hbw2).trans ((hbl.cell (p := ⟨b, o + k * 3 + 2, none⟩) hb).trans c2)
        have hbwX := hbl.trans (hbX.mono hbl.size)
        have HBX := Lib.hid (hB.out.later hbX)
        have HSX := Lib.hid (HSC.out.below hbX hbX.size)
        have hzX := kX.lt
        have KX := Lib.hid kX
        have HBR := Lib.hid hbX
        clear c2 e0 e1 hX hbX kX
        obtain ⟨mc, hmc⟩ : ∃ m, m = c.len := ⟨_, rfl⟩
        rw [← hmc] at d2
        have HMC := Lib.hid hmc
        clear hmc
        by_cases h0 : 0 < mc
        · have h0i : (0 : Int) < (mc : Int) := by omega
          have S := Lib.hid (HIH.out c ac capc X (by have := HC.out; omega) HSX.out)
          rw [← HMC.out] at S
          go_wp2_with fail
          refine S.out.mono ?_
          rintro e w2 ⟨a2, cap2, rfl, hs2, hb2⟩
          rw [← HMC.out]
          have hbw2' := hbwX.trans (hb2.mono hbwX.size)
          have hB2 := HBX.out.later hb2
          have hk2 := KX.out.later hb2 hzX
          obtain ⟨y0, y1, y2, y3, y4, y5⟩ := hk2.cells
          have hbr := HBR.out.trans (hb2.mono HBR.out.size)
          have hb3 : Below wr.heap.size wr (w2.setCell ⟨wr.heap.size, 2, none⟩ (.slice a2 mc cap2)) := hbr.setCell (p := ⟨wr.heap.size, 2, none⟩) (Nat.le_refl _) _
          have hbw3 : Below w.heap.size w (w2.setCell ⟨wr.heap.size, 2, none⟩ (.slice a2 mc cap2)) := hbl.trans (hb3.mono hbl.size)
          have hB3 := hB.out.later hb3
          have hs3 : SlS (fun b => X.heap.size ≤ b ∧ b < (w2.setCell ⟨wr.heap.size, 2, none⟩ (.slice a2 mc cap2)).heap.size) (w2.setCell ⟨wr.heap.size, 2, none⟩ (.slice a2 mc cap2)) a2 cap2 c :=
            hs2.out.mono (fun b hb => ⟨hb.1, by simp [World.setCell]; exact hb.2⟩) (fun b hb => Below.heap_setCell _ _ _ _ (by simp; have := hb.1; omega))
          have hr : RepsS (fun b => w.heap.size ≤ b ∧ b < (w2.setCell ⟨wr.heap.size, 2, none⟩ (.slice a2 mc cap2)).heap.size ∧ u3.ownBlock ≠ some b) (w2.setCell ⟨wr.heap.size, 2, none⟩ (.slice a2 mc cap2)) [.int .i64 kd, .string t, .slice a2 mc cap2] (.cons kd t c .nil) := by
            have := RepsS.one (k := kd) (t := t) (outF_kids hB.out HBR.out hs3)
            rwa [← HMC.out] at this
          clear hbr hb3 hs3
          go_wp2_with (first | (at_builtin; refine wpList_append_built rfl (.tmp 38) (.tmp 40) rfl (hB3.push _) rfl rfl rfl (Put.push hr (by simp)) (by have := HPL.out; simp only [Fo.len_cons, Fo.len_nil]; omega) ?_; intro v6 w6 hB6 hgrow6 hat6) | fail)
          have hbn := below_push hbw3 hB3 hgrow6
          have HX6 := Lib.hid (show Built w.heap.size w6 v6 (f.take (k + 1)) from by rw [HT.out]; exact hB6)
          go_roundw
          case rel => exact ⟨_, k + 1, rfl, by go_num, by omega, HX6, hbn⟩
          case measure => simp [intOf]; omega
        · have h0i : ¬ (0 : Int) < (mc : Int) := by omega
          have HN := Lib.hid (show c = .nil from len0 (by rw [← HMC.out]; omega))
          obtain ⟨y0, y1, y2, y3, y4, y5⟩ := KX.out.cells
          have hr : RepsS (fun b => w.heap.size ≤ b ∧ b < X.heap.size ∧ u3.ownBlock ≠ some b) X [.int .i64 kd, .string t, .slice none 0 0] (.cons kd t .nil .nil) := RepsS.one SlS.nil
          go_wp2_with (first | (at_builtin; refine wpList_append_built rfl (.tmp 38) (.tmp 40) rfl (HBX.out.push _) rfl rfl rfl (Put.push hr (by simp)) (by have := HPL.out; simp only [Fo.len_cons, Fo.len_nil]; omega) ?_; intro v6 w6 hB6 hgrow6 hat6) | fail)
          have hbn := below_push hbwX HBX.out hgrow6
          have HX6 := Lib.hid (show Built w.heap.size w6 v6 (f.take (k + 1)) from by rw [HT.out, HN.out]; exact hB6)
          go_roundw
          case rel => exact ⟨_, k + 1, rfl, by go_num, by omega, HX6, hbn⟩
          case measure => simp [intOf]; omega
      · obtain rfl : k = f.len := by omega
        have HX := Lib.hid (show Built w.heap.size wr u3 f from by have := hB.out; rwa [Fo.take_len] at this)
        go_wp2
        go_ret
        exact outF_of HX.out hbl
theorem rcopy_any (f : Fo) (a : Option Addr) (cap : Nat) (w : World) (hc : f.count ≤ 1000000) (hs : Sl w.heap.size w a cap f) :
    Calls Try.prog 37 #[.slice a f.len cap] w (OutF w f) := rcopy_n 1000001 (Nat.le_refl _) f a cap w (by omega) hs
end Go.Proofs.Ytfajodndpoepcaa
