/- The law's step: one operation on ropes. -/
import Derived.Test.YtamcobncfbjdmaaRZa
import Derived.Test.YtamcobncfbjdmaaRZc
import Derived.Test.YtamcobncfbjdmaaRTB
import Derived.Test.YtamcobncfbjdmaaRTe
import Derived.BigRegion
namespace Go.Proofs.Ytamcobncfbjdmaa
open Go.RowKit Go.Shelf Go.BigFrame
attribute [local go_sem] Oper.semAt_some

/-- a rope handed back. -/
def OutS (X : List Int) (w : World) (r : Ending) (w' : World) : Prop := ∃ c, r = .returned (.agg #[.pointer c]) ∧ Hid (Holds w' c X) ∧ Hid (Below w.heap.size w w')
theorem bx2 (W : World) (o o' : Obj) : Below W.heap.size W ((W.alloc o).alloc o') := ((Below.refl _ _).alloc (Nat.le_refl _) _).alloc (by simp) _
theorem bx2d (W : World) (o o' : Obj) : Below W.heap.size W ((W.alloc o).alloc o').drew := (bx2 W o o').drew
theorem B1D (W : World) (x y : Value) : Boxed ((W.alloc (.cells #[x] 28)).alloc (.cells #[y] 28)).drew W.heap.size 28 x ∧ Boxed ((W.alloc (.cells #[x] 28)).alloc (.cells #[y] 28)).drew (W.heap.size + 1) 28 y := box2 W _ _
theorem boxOn {X Y : World} {B : Nat} {t : TypeId} {v : Value} (h : Boxed X B t v) (hb : Below X.heap.size X Y) : Boxed Y B t v := (hb.block _ h.lt).trans h

set_option maxRecDepth 100000 in
set_option maxHeartbeats 12800000 in
theorem step_any (g N c kd rp ot i1 i2 : Nat) (fr to : Int) (ar az : Option Addr) (r s : List Int) (w : World) (hN : 1 ≤ N) (hNb : N ≤ 1000) (hg : g < w.heap.size) (hr0 : rp < 256) (hs0 : ot < 256) (hr1 : rp % N = i1) (hs1 : ot % N = i2) (k1 : w.cell? ⟨g, i1, none⟩ = some (.pointer ar)) (k2 : w.cell? ⟨g, i2, none⟩ = some (.pointer az)) (q1 : Holds w ar r) (q2 : Holds w az s) (b1 : r.length ≤ 2000) (b2 : s.length ≤ 2000) :
    Calls Try.prog 13 #[.slice (some ⟨g, 0, none⟩) N c, .agg #[.int .u8 (kd : Nat), .int .u8 (rp : Nat), .int .u8 (ot : Nat), .int .i64 fr, .int .i64 to]] w (OutS (mdl kd fr to r s) w) := by
  obtain ⟨W, hW⟩ : ∃ W, W = (w.alloc (.cells #[.int .u8 (kd : Nat), .int .u8 (rp : Nat), .int .u8 (ot : Nat), .int .i64 fr, .int .i64 to] 33)).alloc (.cells #[.pointer none] 28) := ⟨_, rfl⟩
  have hb : Below w.heap.size w W := by rw [hW]; exact ((Below.refl _ _).alloc (Nat.le_refl _) _).alloc (by simp) _
  have hsz : W.heap.size = w.heap.size + 2 := by rw [hW]; simp
  have hbs : w.heap.size < W.heap.size := by omega
  have KB := box2 w (.cells #[.int .u8 (kd : Nat), .int .u8 (rp : Nat), .int .u8 (ot : Nat), .int .i64 fr, .int .i64 to] 33) (.cells #[.pointer none] 28)
  rw [← hW] at KB
  have hn := KB.1
  have y0 : W.cell? ⟨w.heap.size, 0, none⟩ = some (.int .u8 (kd : Nat)) := by simp [World.cell?, hn]
  have y1 : W.cell? ⟨w.heap.size, 1, none⟩ = some (.int .u8 (rp : Nat)) := by simp [World.cell?, hn]
  have y2 : W.cell? ⟨w.heap.size, 2, none⟩ = some (.int .u8 (ot : Nat)) := by simp [World.cell?, hn]
  have y3 : W.cell? ⟨w.heap.size, 3, none⟩ = some (.int .i64 fr) := by simp [World.cell?, hn]
  have y4 : W.cell? ⟨w.heap.size, 4, none⟩ = some (.int .i64 to) := by simp [World.cell?, hn]
  have HR : Hid (Boxed W (w.heap.size + 1) 28 (.pointer none)) := Lib.hid KB.2
  have hgW : g < W.heap.size := Nat.lt_of_lt_of_le hg hb.size
  have l1 := (hb.cell (p := ⟨g, i1, none⟩) hg).trans k1
  have l2 := (hb.cell (p := ⟨g, i2, none⟩) hg).trans k2
  have hD : Below W.heap.size W W.drew := (Below.refl _ _).drew
  have hD1 : ∀ o, Below W.heap.size W (W.alloc o) := fun o => (Below.refl _ _).alloc (Nat.le_refl _) _
  have hD2 : ∀ o o', Below W.heap.size W ((W.alloc o).alloc o') := fun o o' => ((Below.refl _ _).alloc (Nat.le_refl _) _).alloc (by simp) _
  have y1D : W.drew.cell? ⟨w.heap.size, 1, none⟩ = some (.int .u8 (rp : Nat)) := (hD.cell (p := ⟨w.heap.size, 1, none⟩) hbs).trans y1
  have y1D1 : ∀ o, (W.alloc o).cell? ⟨w.heap.size, 1, none⟩ = some (.int .u8 (rp : Nat)) := fun o => ((hD1 o).cell (p := ⟨w.heap.size, 1, none⟩) hbs).trans y1
  have y1E1 : ∀ o, (W.alloc o).drew.cell? ⟨w.heap.size, 1, none⟩ = some (.int .u8 (rp : Nat)) := fun o => ((hD1 o).drew.cell (p := ⟨w.heap.size, 1, none⟩) hbs).trans y1
  have y1D2 : ∀ o o', ((W.alloc o).alloc o').cell? ⟨w.heap.size, 1, none⟩ = some (.int .u8 (rp : Nat)) := fun o o' => ((hD2 o o').cell (p := ⟨w.heap.size, 1, none⟩) hbs).trans y1
  have y1E2 : ∀ o o', ((W.alloc o).alloc o').drew.cell? ⟨w.heap.size, 1, none⟩ = some (.int .u8 (rp : Nat)) := fun o o' => ((hD2 o o').drew.cell (p := ⟨w.heap.size, 1, none⟩) hbs).trans y1
  have y2D : W.drew.cell? ⟨w.heap.size, 2, none⟩ = some (.int .u8 (ot : Nat)) := (hD.cell (p := ⟨w.heap.size, 2, none⟩) hbs).trans y2
  have y2D1 : ∀ o, (W.alloc o).cell? ⟨w.heap.size, 2, none⟩ = some (.int .u8 (ot : Nat)) := fun o => ((hD1 o).cell (p := ⟨w.heap.size, 2, none⟩) hbs).trans y2
  have y2E1 : ∀ o, (W.alloc o).drew.cell? ⟨w.heap.size, 2, none⟩ = some (.int .u8 (ot : Nat)) := fun o => ((hD1 o).drew.cell (p := ⟨w.heap.size, 2, none⟩) hbs).trans y2
  have y2D2 : ∀ o o', ((W.alloc o).alloc o').cell? ⟨w.heap.size, 2, none⟩ = some (.int .u8 (ot : Nat)) := fun o o' => ((hD2 o o').cell (p := ⟨w.heap.size, 2, none⟩) hbs).trans y2
  have y2E2 : ∀ o o', ((W.alloc o).alloc o').drew.cell? ⟨w.heap.size, 2, none⟩ = some (.int .u8 (ot : Nat)) := fun o o' => ((hD2 o o').drew.cell (p := ⟨w.heap.size, 2, none⟩) hbs).trans y2
  have l1D : W.drew.cell? ⟨g, i1, none⟩ = some (.pointer ar) := (hD.cell (p := ⟨g, i1, none⟩) hgW).trans l1
  have l1D1 : ∀ o, (W.alloc o).cell? ⟨g, i1, none⟩ = some (.pointer ar) := fun o => ((hD1 o).cell (p := ⟨g, i1, none⟩) hgW).trans l1
  have l1E1 : ∀ o, (W.alloc o).drew.cell? ⟨g, i1, none⟩ = some (.pointer ar) := fun o => ((hD1 o).drew.cell (p := ⟨g, i1, none⟩) hgW).trans l1
  have l1D2 : ∀ o o', ((W.alloc o).alloc o').cell? ⟨g, i1, none⟩ = some (.pointer ar) := fun o o' => ((hD2 o o').cell (p := ⟨g, i1, none⟩) hgW).trans l1
  have l1E2 : ∀ o o', ((W.alloc o).alloc o').drew.cell? ⟨g, i1, none⟩ = some (.pointer ar) := fun o o' => ((hD2 o o').drew.cell (p := ⟨g, i1, none⟩) hgW).trans l1
  have l2D : W.drew.cell? ⟨g, i2, none⟩ = some (.pointer az) := (hD.cell (p := ⟨g, i2, none⟩) hgW).trans l2
  have l2D1 : ∀ o, (W.alloc o).cell? ⟨g, i2, none⟩ = some (.pointer az) := fun o => ((hD1 o).cell (p := ⟨g, i2, none⟩) hgW).trans l2
  have l2E1 : ∀ o, (W.alloc o).drew.cell? ⟨g, i2, none⟩ = some (.pointer az) := fun o => ((hD1 o).drew.cell (p := ⟨g, i2, none⟩) hgW).trans l2
  have l2D2 : ∀ o o', ((W.alloc o).alloc o').cell? ⟨g, i2, none⟩ = some (.pointer az) := fun o o' => ((hD2 o o').cell (p := ⟨g, i2, none⟩) hgW).trans l2
  have l2E2 : ∀ o o', ((W.alloc o).alloc o').drew.cell? ⟨g, i2, none⟩ = some (.pointer az) := fun o o' => ((hD2 o o').drew.cell (p := ⟨g, i2, none⟩) hgW).trans l2
  have t1 : Int.tmod (rp : Int) (N : Int) = (i1 : Int) := by rw [← hr1, Int.tmod_eq_emod_of_nonneg (by omega)]; rfl
  have t2 : Int.tmod (ot : Int) (N : Int) = (i2 : Int) := by rw [← hs1, Int.tmod_eq_emod_of_nonneg (by omega)]; rfl
  have t1' : (rp : Int) % (N : Int) = (i1 : Int) := by rw [← hr1]; rfl
  have t2' : (ot : Int) % (N : Int) = (i2 : Int) := by rw [← hs1]; rfl
  have hi1 : i1 < N := by rw [← hr1]; exact Nat.mod_lt _ (by omega)
  have hi2 : i2 < N := by rw [← hs1]; exact Nat.mod_lt _ (by omega)
  have n0 : ¬ (N : Int) = 0 := by omega
  have n0' : ¬ N = 0 := by omega
  have v1 : (i1 : Int) < (N : Int) := by omega
  have v2 : (i2 : Int) < (N : Int) := by omega
  have v3 : (0 : Int) ≤ (i1 : Int) := by omega
  have v4 : (0 : Int) ≤ (i2 : Int) := by omega
  have w1 : IntKind.i64.wrap (rp : Int) = (rp : Int) := IntWalk.i64_in _ (by omega)
  have w2 : IntKind.i64.wrap (ot : Int) = (ot : Int) := IntWalk.i64_in _ (by omega)
  have Q1 := Lib.hid (q1.later hb)
  have Q2 := Lib.hid (q2.later hb)
  have HB := Lib.hid hb
  have HBS := Lib.hid hbs
  have HSZ := Lib.hid hsz
  have HW := Lib.hid hW
  have HLN := Lib.hid (And.intro b1 b2)
  have HY := Lib.hid (show _ ∧ _ ∧ _ from ⟨y0, y3, y4⟩)
  obtain ⟨F, hF0⟩ : ∃ F, F = cutF fr r.length := ⟨_, rfl⟩
  obtain ⟨T0, hT0⟩ : ∃ T, T = cutF to r.length := ⟨_, rfl⟩
  obtain ⟨T, hT⟩ : ∃ T, T = max T0 F := ⟨_, rfl⟩
  have hF1 : min (max fr 0) (r.length : Int) = (F : Int) := by rw [hF0, cutF]; omega
  have hT1 : min (max to 0) (r.length : Int) = (T0 : Int) := by rw [hT0, cutF]; omega
  obtain ⟨F', hF'⟩ : ∃ F', max fr 0 = F' := ⟨_, rfl⟩
  obtain ⟨T', hT'⟩ : ∃ T', max F' to = T' := ⟨_, rfl⟩
  have PE := parts_eq (l := r) hF' hT' hF1 hT1 hT.symm
  have e2 : r.take fr.toNat = r.take F := take_of_min (by omega)
  have e3 : r.drop fr.toNat = r.drop F := drop_of_min (by omega)
  obtain ⟨Xp, hXp⟩ : ∃ X, X = (r.take T).drop F := ⟨_, rfl⟩
  obtain ⟨Xr, hXr⟩ : ∃ X, X = r.take F ++ s ++ r.drop T := ⟨_, rfl⟩
  obtain ⟨Xa, hXa⟩ : ∃ X, X = r.take F := ⟨_, rfl⟩
  obtain ⟨Xb, hXb⟩ : ∃ X, X = r.drop F := ⟨_, rfl⟩
  obtain ⟨Xm, hXm⟩ : ∃ X, X = r.map (gF fr) := ⟨_, rfl⟩
  obtain ⟨Xj, hXj⟩ : ∃ X, X = r ++ s := ⟨_, rfl⟩
  have lab : Xb.length + Xa.length ≤ 4000 := by rw [hXa, hXb, List.length_take, List.length_drop]; omega
  have MX : Hid ((kd % 6 = 0 → mdl kd fr to r s = Xj) ∧ (kd % 6 = 1 → mdl kd fr to r s = Xb ++ Xa) ∧ (kd % 6 = 2 → mdl kd fr to r s = Xp) ∧ (kd % 6 = 3 → mdl kd fr to r s = Xr) ∧ (kd % 6 = 4 → mdl kd fr to r s = r) ∧ (kd % 6 = 5 → mdl kd fr to r s = Xm)) := Lib.hid (by
    refine ⟨fun h => ?_, fun h => ?_, fun h => ?_, fun h => ?_, fun h => ?_, fun h => ?_⟩ <;> unfold mdl <;> rw [h] <;> simp only [← hF0, ← hT0, ← hT] <;> first | exact hXj.symm | exact (by rw [hXa, hXb]) | exact hXp.symm | exact hXr.symm | rfl | exact hXm.symm)
  have CJ0 : Hid (∀ w', Below W.heap.size W w' → Calls Try.prog 29 #[.agg #[.pointer ar], .agg #[.pointer az]] w' (OutS Xj w')) := Lib.hid fun w' h => by rw [hXj]; exact pJoinI_any ar az r s w' ((q1.later hb).later h) ((q2.later hb).later h) (by omega)
  have CSp : Hid (∀ w', Below W.heap.size W w' → Calls Try.prog 16 #[.agg #[.pointer ar], .int .i64 fr] w' (fun r w'' => ∃ a1 a2, r = .returned (.tuple #[.agg #[.pointer a1], .agg #[.pointer a2]]) ∧ Hid (Holds w'' a1 Xa) ∧ Hid (Holds w'' a2 Xb) ∧ Hid (Below w'.heap.size w' w''))) := Lib.hid fun w' h => by
    have := pSplitI_any ar r fr w' ((q1.later hb).later h) (by omega)
    rwa [e2, e3, ← hXa, ← hXb] at this
  have CJ1 : Hid (∀ a1 a2 w', Holds w' a1 Xb → Holds w' a2 Xa → Calls Try.prog 29 #[.agg #[.pointer a1], .agg #[.pointer a2]] w' (OutS (Xb ++ Xa) w')) := Lib.hid fun a1 a2 w' h1 h2 => pJoinI_any a1 a2 Xb Xa w' h1 h2 (by omega)
  have CP : Hid (∀ w', Below W.heap.size W w' → Calls Try.prog 17 #[.agg #[.pointer ar], .int .i64 fr, .int .i64 to] w' (OutS Xp w')) := Lib.hid fun w' h => by
    have := pPartI_any ar r fr to F' T' w' ((q1.later hb).later h) (by omega) hF' hT'
    rw [PE.2.1, ← hXp] at this
    exact this
  have CR : Hid (∀ w', Below W.heap.size W w' → Calls Try.prog 19 #[.agg #[.pointer ar], .int .i64 fr, .int .i64 to, .agg #[.pointer az]] w' (OutS Xr w')) := Lib.hid fun w' h => by
    have := pReplaceI_any ar az r s fr to F' T' w' ((q1.later hb).later h) ((q2.later hb).later h) (by omega) (by omega) hF' hT'
    rw [PE.1, PE.2.2, ← hXr] at this
    exact this
  obtain ⟨nr, hnr⟩ : ∃ n, n = r.length := ⟨_, rfl⟩
  have CLi : Hid (∀ w', Below W.heap.size W w' → Calls Try.prog 33 #[.agg #[.pointer ar]] w' (fun e w'' => ∃ v, e = .returned v ∧ Hid (Sq encI w'' v r) ∧ Hid (Below w'.heap.size w' w''))) := Lib.hid fun w' h => by
    refine (pListC_any ar r w' ((q1.later hb).later h) (by omega)).mono ?_
    rintro e w'' ⟨g1, c1, rfl, hc1, hx, hg1, hbb⟩
    refine ⟨_, rfl, Lib.hid ?_, hbb⟩
    by_cases h0 : r = []
    · exact .inl ⟨h0, _, _, by rw [h0]; rfl⟩
    · exact .inr ⟨g1, 0, c1, rfl, hg1, hc1, List.length_pos_iff.2 h0, fun j x hj => by rw [Nat.zero_add]; exact hx.out j x hj⟩
  have COf : Hid (∀ v w', Sq encI w' v r → Calls Try.prog 12 #[v] w' (OutS r w')) := Lib.hid fun v w' h => by
    refine (pOfI_any v r w' h (by omega)).mono ?_
    rintro e w'' ⟨a, rfl, h1, h2⟩
    refine ⟨a, rfl, Lib.hid ⟨ofO r, h1.out, fun t e => ?_, ofO_list r⟩, h2⟩
    unfold ofO at e
    split at e
    · cases e
    · next h => cases e; exact bld_lv _ _ (Nat.le_refl _) (by cases r with | nil => exact absurd rfl h | cons => simp)
  have CM : Hid (∀ w', Below W.heap.size W w' → Calls Try.prog 48 #[.agg #[.pointer ar], fnF w.heap.size] w' (OutS Xm w')) := Lib.hid fun w' h => by
    rw [hXm]
    exact pMapI_any ar r w.heap.size fr w' ((q1.later hb).later h) (by omega) (Nat.lt_of_lt_of_le hbs h.size) ((h.cell (p := ⟨w.heap.size, 3, none⟩) hbs).trans y3)
  clear hF0 hT0 hT hF1 hT1 hF' hT' PE e2 e3 hXp hXr hXa hXb hXm hXj lab hnr
  clear hn KB hb hbs hsz k1 k2 q1 q2 hg hr0 hs0 hr1 hs1 hNb hN b1 b2 hD hD1 hD2 y0 y3 y4 y1 y2 l1 l2 hgW
  go_enter Try.func13, Try.ntmps13
  go_wp2
  rw [← HW.out]
  clear hW
  rename_i KA hKA
  refine Code.wp_mono (Q := fun e a' w' => match e with | .normal => ∃ B5 B6 : Nat, a' = { tmps := #[.slice (some ⟨g, 0, none⟩) N c, .agg #[.int .u8 (kd : Nat), .int .u8 (rp : Nat), .int .u8 (ot : Nat), .int .i64 fr, .int .i64 to], undef, .pointer (some ⟨w.heap.size, 0, none⟩), .pointer (some ⟨w.heap.size + 1, 0, none⟩), .pointer (some ⟨B5, 0, none⟩), .pointer (some ⟨B6, 0, none⟩), undef, undef, .slice (some ⟨g, 0, none⟩) N c, .pointer (some ⟨w.heap.size, 1, none⟩), .int .u8 (rp : Nat), .int .i64 (rp : Nat), .slice (some ⟨g, 0, none⟩) N c, .int .i64 N, .int .i64 i1, .pointer (some ⟨g, i1, none⟩), .agg #[.pointer ar], .slice (some ⟨g, 0, none⟩) N c, .pointer (some ⟨w.heap.size, 2, none⟩), .int .u8 (ot : Nat), .int .i64 (ot : Nat), .slice (some ⟨g, 0, none⟩) N c, .int .i64 N, .int .i64 i2, .pointer (some ⟨g, i2, none⟩), .agg #[.pointer az], undef, undef, undef, undef, undef, undef, undef, undef, undef, undef, undef, undef, undef, undef, undef, undef, undef, undef, undef, undef, undef, undef, undef, undef, undef, undef, undef, undef, undef, undef, undef, undef, undef, undef, undef, undef, undef, undef, undef, undef, undef, undef, undef, undef, undef], defers := [] } ∧ Hid (Boxed w' B5 28 (.pointer ar)) ∧ Hid (Boxed w' B6 28 (.pointer az)) ∧ Hid (Below W.heap.size W w') | _ => False) ?_ ?reg
  case reg =>
    clear hKA CJ0 CSp CJ1 CP CR CLi COf CM MX
    go_region
    · refine ⟨_, _, rfl, Lib.hid (B1D _ _ _).1, Lib.hid (B1D _ _ _).2, Lib.hid (bx2d _ _ _)⟩
    · refine ⟨_, _, rfl, Lib.hid (B1D _ _ _).2, Lib.hid (B1D _ _ _).1, Lib.hid (bx2d _ _ _)⟩
  clear y1D y1D1 y1E1 y1D2 y1E2 y2D y2D1 y2E1 y2D2 y2E2 l1D l1D1 l1E1 l1D2 l1E2 l2D l2D1 l2E1 l2D2 l2E2 t1 t2 t1' t2' hi1 hi2 v1 v2 v3 v4 w1 w2 n0 n0'
  intro e a' V h
  cases e with
  | normal => ?_
  | _ => exact h.elim
  obtain ⟨B5, B6, rfl, HB5, HB6, HVW⟩ := h
  have x5 := HB5.out.cell
  have x6 := HB6.out.cell
  have y0 := (HVW.out.cell (p := ⟨w.heap.size, 0, none⟩) HBS.out).trans HY.out.1
  have y3 := (HVW.out.cell (p := ⟨w.heap.size, 3, none⟩) HBS.out).trans HY.out.2.1
  have y4 := (HVW.out.cell (p := ⟨w.heap.size, 4, none⟩) HBS.out).trans HY.out.2.2
  refine hKA _ _ ?_
  clear hKA
  have hk : kd % 6 = 0 ∨ kd % 6 = 1 ∨ kd % 6 = 2 ∨ kd % 6 = 3 ∨ kd % 6 = 4 ∨ kd % 6 = 5 := by omega
  rcases hk with hk | hk | hk | hk | hk | hk
  · have t3 : (kd : Int) % 6 = 0 := by omega
    have t3' : Int.tmod (kd : Int) 6 = 0 := by rw [Int.tmod_eq_emod_of_nonneg (by omega)]; exact t3
    have hX := MX.out.1 hk
    clear hk
    go_wp2_with (first
      | (go_at_call 29; refine (CJ0.out _ HVW.out).mono ?_; rintro e1 w5 ⟨cc, rfl, HN1, HC1⟩; have HB1 := Lib.hid (bt HVW.out HC1.out); have zb := boxOn HR.out HB1.out; have zc := zb.cell; have zf := zb.frozen; clear zb)
      | fail)
    have z9 := (boxOn HR.out HB1.out).set (.pointer cc)
    have z4 := z9.cell
    refine bodyPost_ret (v := .agg #[.pointer cc]) (by simp [results, Try.results13, go_sem, z4]) rfl ?_
    rw [hX]
    exact ⟨cc, rfl, Lib.hid (HN1.out.box _ (boxOn HR.out HB1.out)), Lib.hid ((bt HB.out HB1.out).setCell (p := ⟨w.heap.size + 1, 0, none⟩) (by show w.heap.size ≤ w.heap.size + 1; omega) _)⟩
  · have t3 : (kd : Int) % 6 = 1 := by omega
    have t3' : Int.tmod (kd : Int) 6 = 1 := by rw [Int.tmod_eq_emod_of_nonneg (by omega)]; exact t3
    have hX := MX.out.2.1 hk
    clear hk
    go_wp2_with (first
      | (go_at_call 29; refine (CJ1.out _ _ _ (HNb.out.later (bx2 _ _ _)) (HNa.out.later (bx2 _ _ _))).mono ?_; rintro e1 w5 ⟨cc, rfl, HN1, HC1⟩; have HB1 := Lib.hid (bt (bt (bt HVW.out HCa.out) (bx2 _ _ _)) HC1.out); have zb := boxOn HR.out HB1.out; have zc := zb.cell; have zf := zb.frozen; clear zb)
      | (go_at_call 16; refine (CSp.out _ HVW.out).mono ?_; rintro e1 w5 ⟨a1, a2, rfl, HNa, HNb, HCa⟩; skip)
      | fail)
    have z9 := (boxOn HR.out HB1.out).set (.pointer cc)
    have z4 := z9.cell
    refine bodyPost_ret (v := .agg #[.pointer cc]) (by simp [results, Try.results13, go_sem, z4]) rfl ?_
    rw [hX]
    exact ⟨cc, rfl, Lib.hid (HN1.out.box _ (boxOn HR.out HB1.out)), Lib.hid ((bt HB.out HB1.out).setCell (p := ⟨w.heap.size + 1, 0, none⟩) (by show w.heap.size ≤ w.heap.size + 1; omega) _)⟩
  · have t3 : (kd : Int) % 6 = 2 := by omega
    have t3' : Int.tmod (kd : Int) 6 = 2 := by rw [Int.tmod_eq_emod_of_nonneg (by omega)]; exact t3
    have hX := MX.out.2.2.1 hk
    clear hk
    go_wp2_with (first
      | (go_at_call 17; refine (CP.out _ HVW.out).mono ?_; rintro e1 w5 ⟨cc, rfl, HN1, HC1⟩; have HB1 := Lib.hid (bt HVW.out HC1.out); have zb := boxOn HR.out HB1.out; have zc := zb.cell; have zf := zb.frozen; clear zb)
      | fail)
    have z9 := (boxOn HR.out HB1.out).set (.pointer cc)
    have z4 := z9.cell
    refine bodyPost_ret (v := .agg #[.pointer cc]) (by simp [results, Try.results13, go_sem, z4]) rfl ?_
    rw [hX]
    exact ⟨cc, rfl, Lib.hid (HN1.out.box _ (boxOn HR.out HB1.out)), Lib.hid ((bt HB.out HB1.out).setCell (p := ⟨w.heap.size + 1, 0, none⟩) (by show w.heap.size ≤ w.heap.size + 1; omega) _)⟩
  · have t3 : (kd : Int) % 6 = 3 := by omega
    have t3' : Int.tmod (kd : Int) 6 = 3 := by rw [Int.tmod_eq_emod_of_nonneg (by omega)]; exact t3
    have hX := MX.out.2.2.2.1 hk
    clear hk
    go_wp2_with (first
      | (go_at_call 19; refine (CR.out _ HVW.out).mono ?_; rintro e1 w5 ⟨cc, rfl, HN1, HC1⟩; have HB1 := Lib.hid (bt HVW.out HC1.out); have zb := boxOn HR.out HB1.out; have zc := zb.cell; have zf := zb.frozen; clear zb)
      | fail)
    have z9 := (boxOn HR.out HB1.out).set (.pointer cc)
    have z4 := z9.cell
    refine bodyPost_ret (v := .agg #[.pointer cc]) (by simp [results, Try.results13, go_sem, z4]) rfl ?_
    rw [hX]
    exact ⟨cc, rfl, Lib.hid (HN1.out.box _ (boxOn HR.out HB1.out)), Lib.hid ((bt HB.out HB1.out).setCell (p := ⟨w.heap.size + 1, 0, none⟩) (by show w.heap.size ≤ w.heap.size + 1; omega) _)⟩
  · have t3 : (kd : Int) % 6 = 4 := by omega
    have t3' : Int.tmod (kd : Int) 6 = 4 := by rw [Int.tmod_eq_emod_of_nonneg (by omega)]; exact t3
    have hX := MX.out.2.2.2.2.1 hk
    clear hk
    go_wp2_with (first
      | (go_at_call 12; refine (COf.out _ _ HSq.out).mono ?_; rintro e1 w5 ⟨cc, rfl, HN1, HC1⟩; have HB1 := Lib.hid (bt (bt HVW.out HCl.out) HC1.out); have zb := boxOn HR.out HB1.out; have zc := zb.cell; have zf := zb.frozen; clear zb)
      | (go_at_call 33; refine (CLi.out _ HVW.out).mono ?_; rintro e1 w5 ⟨vl, rfl, HSq, HCl⟩; skip)
      | fail)
    have z9 := (boxOn HR.out HB1.out).set (.pointer cc)
    have z4 := z9.cell
    refine bodyPost_ret (v := .agg #[.pointer cc]) (by simp [results, Try.results13, go_sem, z4]) rfl ?_
    rw [hX]
    exact ⟨cc, rfl, Lib.hid (HN1.out.box _ (boxOn HR.out HB1.out)), Lib.hid ((bt HB.out HB1.out).setCell (p := ⟨w.heap.size + 1, 0, none⟩) (by show w.heap.size ≤ w.heap.size + 1; omega) _)⟩
  · have t3 : (kd : Int) % 6 = 5 := by omega
    have t3' : Int.tmod (kd : Int) 6 = 5 := by rw [Int.tmod_eq_emod_of_nonneg (by omega)]; exact t3
    have hX := MX.out.2.2.2.2.2 hk
    clear hk
    go_wp2_with (first
      | (go_at_call 48; refine (CM.out _ HVW.out).mono ?_; rintro e1 w5 ⟨cc, rfl, HN1, HC1⟩; have HB1 := Lib.hid (bt HVW.out HC1.out); have zb := boxOn HR.out HB1.out; have zc := zb.cell; have zf := zb.frozen; clear zb)
      | fail)
    have z9 := (boxOn HR.out HB1.out).set (.pointer cc)
    have z4 := z9.cell
    refine bodyPost_ret (v := .agg #[.pointer cc]) (by simp [results, Try.results13, go_sem, z4]) rfl ?_
    rw [hX]
    exact ⟨cc, rfl, Lib.hid (HN1.out.box _ (boxOn HR.out HB1.out)), Lib.hid ((bt HB.out HB1.out).setCell (p := ⟨w.heap.size + 1, 0, none⟩) (by show w.heap.size ≤ w.heap.size + 1; omega) _)⟩
end Go.Proofs.Ytamcobncfbjdmaa

namespace Go.Proofs.Ytamcobncfbjdmaa
open Go.RowKit Go.Shelf Go.BigFrame

theorem Try.infoRope : (Try.prog.info? 28).map (fun i => (i.zero, i.size, i.bytes)) = some (some (.agg #[.pointer none]), 1, 8) := by kernel_rfl

/-- a list of ropes in a row of the call's own. -/
def LA (w : World) (base : Nat) (v : Value) (ls : List (List Int)) : Prop := ∃ g c xs, v = .slice (some ⟨g, 0, none⟩) ls.length c ∧ w.ownsRow base 28 1 v ls.length xs ∧
  ∀ (i : Nat) (l : List Int), ls[i]? = some l → ∃ p, xs[i]? = some (.pointer p) ∧ Holds w p l
theorem LA.later {w w' : World} {base : Nat} {v : Value} {ls : List (List Int)} (h : LA w base v ls) (hb : Below w.heap.size w w') : LA w' base v ls := by
  obtain ⟨g, c, xs, h1, h2, h3⟩ := h
  refine ⟨g, c, xs, h1, h2.kept (row := none) ⟨hb.os, hb.tape, hb.output, hb.size, fun k hk _ => hb.block k hk⟩ (by rw [h1]; exact .inr (fun e => by cases e)), fun i l hl => ?_⟩
  obtain ⟨p, k1, k2⟩ := h3 i l hl
  exact ⟨p, k1, k2.later hb⟩
theorem LA.cell {w : World} {base : Nat} {v : Value} {ls : List (List Int)} (h : LA w base v ls) : ∃ g c, v = .slice (some ⟨g, 0, none⟩) ls.length c ∧ base ≤ g ∧ g < w.heap.size ∧ ∀ (i : Nat) (l : List Int), ls[i]? = some l → ∃ p, w.cell? ⟨g, i, none⟩ = some (.pointer p) ∧ Holds w p l := by
  obtain ⟨g, c, xs, rfl, h2, h3⟩ := h
  refine ⟨g, c, rfl, (h2.lt g rfl).1, (h2.lt g rfl).2, fun i l hl => ?_⟩
  obtain ⟨p, k1, k⟩ := h3 i l hl
  have hi := (List.getElem?_eq_some_iff.1 hl).1
  exact ⟨p, (h2.cellAt i (by omega)).trans k1, k⟩
/-- the row of ropes has grown by one. -/
theorem LA.snoc {w w' : World} {base g c g' c' : Nat} {xs : List Value} {ls : List (List Int)} {l : List Int} {p : Option Addr} (h0 : ls ≠ []) (h2 : w.ownsRow base 28 1 (.slice (some ⟨g, 0, none⟩) ls.length c) ls.length xs)
    (h3 : ∀ (i : Nat) (l : List Int), ls[i]? = some l → ∃ p, xs[i]? = some (.pointer p) ∧ Holds w p l)
    (h4 : w'.ownsRow base 28 1 (.slice (some ⟨g', 0, none⟩) (ls.length + 1) c') (ls.length + 1) (xs ++ [.pointer p])) (hg : w.grownBy w' (some g)) (e4 : Holds w p l) : LA w' base (.slice (some ⟨g', 0, none⟩) (ls.length + 1) c') (ls ++ [l]) := by
  have hx : xs.length = ls.length := by have := h2.1; omega
  obtain ⟨l0, hl0⟩ : ∃ l0, ls[0]? = some l0 := by cases ls with | nil => exact absurd rfl h0 | cons x _ => exact ⟨x, rfl⟩
  obtain ⟨p0, k0, _⟩ := h3 0 l0 hl0
  have hv : w.cell? ⟨g, 0, none⟩ = some (.pointer p0) := (h2.cellAt 0 (by have := (List.getElem?_eq_some_iff.1 hl0).1; omega)).trans k0
  have key : ∀ {q : Option Addr} {m : List Int}, Holds w q m → Holds w' q m := fun hq => Holds.grownRow hg hv (fun i e => by cases e) hq
  refine ⟨g', c', xs ++ [.pointer p], by rw [List.length_append]; rfl, by rw [List.length_append]; exact h4, fun i m hm => ?_⟩
  by_cases hi : i < ls.length
  · rw [List.getElem?_append_left hi] at hm
    obtain ⟨q, k1, k2⟩ := h3 i m hm
    exact ⟨q, by rw [List.getElem?_append_left (by omega)]; exact k1, key k2⟩
  · have hi2 : i < ls.length + 1 := by have := (List.getElem?_eq_some_iff.1 hm).1; simpa using this
    obtain rfl : i = ls.length := by omega
    rw [List.getElem?_append_right (Nat.le_refl _), Nat.sub_self] at hm
    obtain rfl : l = m := by simpa using hm
    exact ⟨p, by rw [List.getElem?_append_right (by omega), hx, Nat.sub_self]; rfl, key e4⟩
/-- the row of ropes stays where the row of lists grows. -/
theorem LA.row {w w' : World} {base h : Nat} {v u : Value} {ls : List (List Int)} (hL : LA w base v ls) (hg : w.grownBy w' (some h)) (hu : w.cell? ⟨h, 0, none⟩ = some u) (hn : ∀ i : Int, u ≠ .int .i64 i) (hne : v.ownBlock ≠ some h) : LA w' base v ls := by
  obtain ⟨g, c, xs, h1, h2, h3⟩ := hL
  refine ⟨g, c, xs, h1, h2.kept hg (.inr hne), fun i l hl => ?_⟩
  obtain ⟨p, k1, k2⟩ := h3 i l hl
  exact ⟨p, k1, Holds.grownRow hg hu hn k2⟩
/-- the row of lists stays where the row of ropes grows; its lists are apart from where that lies then. -/
theorem LL.row {w w' : World} {base ga ga' : Nat} {v : Value} {ls : List (List Int)} (hL : LL (· ≠ ga) w base v ls) (hg : w.grownBy w' (some ga)) (hl : ga = ga' ∨ ga' = w.heap.size) (hne : v.ownBlock ≠ some ga) : LL (· ≠ ga') w' base v ls := by
  obtain ⟨g, c, xs, h1, h2, h3⟩ := hL
  refine ⟨g, c, xs, h1, h2.kept hg (.inr hne), fun i l hli => ?_⟩
  obtain ⟨p, n, c', k1, k2, k3, k4, k5, k6, k7⟩ := h3 i l hli
  have ne : ∀ {j : Nat} {x : Int}, l[j]? = some x → l ≠ [] := fun h e => by rw [e] at h; cases h
  refine ⟨p, n, c', k1, k2, k3, k4, fun j x hj => ?_, k6, fun hm b o s e => ⟨(k7 hm b o s e).1, ?_⟩⟩
  · obtain ⟨b, o, r1, r2, r3⟩ := k5 j x hj
    have hbg := (k7 (ne hj) b o none r1).2
    exact ⟨b, o, r1, Nat.lt_of_lt_of_le r2 hg.size, hg.cell r3 (fun e => hbg (by first | exact (Option.some.inj e).symm | exact Option.some.inj e))⟩
  · rcases hl with rfl | rfl
    · exact (k7 hm b o s e).2
    · obtain ⟨x, hx⟩ : ∃ x, l[0]? = some x := by cases l with | nil => exact absurd rfl hm | cons x _ => exact ⟨x, rfl⟩
      obtain ⟨b', o', r1, r2, _⟩ := k5 0 x hx
      rw [r1] at e
      cases e
      omega
end Go.Proofs.Ytamcobncfbjdmaa
