/- The program's error of an expression: the walk. -/
import Derived.Test.YtajdpchojimigaaFa
import Derived.IntWalk
namespace Go.Proofs.Ytajdpchojimigaa
open Go.RowKit Go.Shelf TmM
attribute [local go_sem] Oper.semAt_some

/-- the cells of a term. -/
abbrev Ev.cells (x : Ev) : Obj := .cells #[.int .i64 x.k, .string x.t, .slice x.a x.c.len x.cap] 35 (0, 0)

theorem deferred_own {β : Type} {B D : Nat} (h : D < B) : OwnFrom B (fun (_ : β) (W : World) => W.heap[D]? = some (.deferred (some []))) := fun _ X Y row hs hg hr =>
  (hg.block D (Array.getElem?_eq_some_iff.1 hs).1 (fun e => by have := (hr D e.symm).1; omega)).trans hs

set_option maxHeartbeats 12800000 in
set_option maxRecDepth 100000 in
theorem fault_any (most : Int) (f : Fo) (a : Option Addr) (cap : Nat) (w : World) (hL : f.count ≤ 1000000) (hsm : Small f) (hs : Sl w.heap.size w a cap f) :
    Calls Try.prog 59 #[.slice a f.len cap, .int .i64 most] w (OutV w (.int .i64 (wrongC most f))) := by
  refine (callsIn_wide (n := 5)).1 ?_
  refine callsIn_of_wp_marks Try.func59 rfl trivial ?_ rfl
  simp only [Try.ntmps59, List.size_toArray, List.length_cons, List.length_nil, Nat.reduceAdd, Nat.reduceSub, Array.replicate_succ, Array.replicate_zero, List.push_toArray, List.append_toArray, List.nil_append, List.cons_append]
  gi_wp2_with (refine ⟨trivial, ?_⟩; gi_at_call 72; refine (callsIn_wide.2 (preorder_any _ _ _ _)).mono ?_; rintro e w' ⟨rfl, rfl⟩)
  have b0 := (((Boxed.new w 3 (.int .i64 most)).alloc (.cells #[.int .i64 0] 27)).alloc (.cells #[.int .i64 0] 3)).alloc (.cells #[.int .i64 0] 3) |>.alloc (.cells #[.slice a f.len cap] 22)
  have b1 := ((Boxed.new (w.alloc (.cells #[.int .i64 most] 3)) 27 (.int .i64 0)).alloc (.cells #[.int .i64 0] 3)).alloc (.cells #[.int .i64 0] 3) |>.alloc (.cells #[.slice a f.len cap] 22)
  have b2 := (Boxed.new ((w.alloc (.cells #[.int .i64 most] 3)).alloc (.cells #[.int .i64 0] 27)) 3 (.int .i64 0)).alloc (.cells #[.int .i64 0] 3) |>.alloc (.cells #[.slice a f.len cap] 22)
  have b3 := (Boxed.new (((w.alloc (.cells #[.int .i64 most] 3)).alloc (.cells #[.int .i64 0] 27)).alloc (.cells #[.int .i64 0] 3)) 3 (.int .i64 0)).alloc (.cells #[.slice a f.len cap] 22)
  have b4 := Boxed.new ((((w.alloc (.cells #[.int .i64 most] 3)).alloc (.cells #[.int .i64 0] 27)).alloc (.cells #[.int .i64 0] 3)).alloc (.cells #[.int .i64 0] 3)) 22 (.slice a f.len cap)
  have hB0 : Below w.heap.size w (((((w.alloc (.cells #[.int .i64 most] 3)).alloc (.cells #[.int .i64 0] 27)).alloc (.cells #[.int .i64 0] 3)).alloc (.cells #[.int .i64 0] 3)).alloc (.cells #[.slice a f.len cap] 22)) :=
    (((((Below.refl _ w).alloc (Nat.le_refl _) _).alloc (by simp) _).alloc (by simp; omega) _).alloc (by simp; omega) _).alloc (by simp; omega) _
  have hsz : (((((w.alloc (.cells #[.int .i64 most] 3)).alloc (.cells #[.int .i64 0] 27)).alloc (.cells #[.int .i64 0] 3)).alloc (.cells #[.int .i64 0] 3)).alloc (.cells #[.slice a f.len cap] 22)).heap.size = w.heap.size + 5 := by simp
  simp only [World.size_alloc] at b1 b2 b3 b4
  obtain ⟨W0, hW0⟩ : ∃ W0, ((((w.alloc (.cells #[.int .i64 most] 3)).alloc (.cells #[.int .i64 0] 27)).alloc (.cells #[.int .i64 0] 3)).alloc (.cells #[.int .i64 0] 3)).alloc (.cells #[.slice a f.len cap] 22) = W0 := ⟨_, rfl⟩
  rw [hW0] at b0 b1 b2 b3 b4 hB0 hsz ⊢
  clear hW0
  have HSM := Lib.hid hsm
  have HS := Lib.hid hs
  clear hsm hs
  refine wpIn_rangeFunc_ownH (n := 5) rfl (by omega) (gf := 95) (lb := #[.pointer (some ⟨w.heap.size + 1 + 1 + 1 + 1, 0, none⟩)]) rfl trivial (enters_of Try.func95 (by kernel_rfl) rfl)
    (preorder_stops 4 w.heap.size (w.heap.size + 5) (w.heap.size + 1 + 1 + 1 + 1) f a cap W0 (by omega) (by omega) (by omega) b4.cell HSM.out hL (HS.out.below hB0 (Nat.le_refl _))) KpC.trans (fun W l o o' _ h hc _ => KpC.putObj W l o o' h hc) (Below.refl _ _) (fun _ => rfl)
    (fun pre W => (Boxed W w.heap.size 3 (.int .i64 most) ∧ Boxed W (w.heap.size + 1) 27 (.int .i64 0) ∧ Boxed W (w.heap.size + 1 + 1) 3 (.int .i64 pre.length) ∧ Boxed W (w.heap.size + 1 + 1 + 1) 3 (.int .i64 (depE pre)) ∧ pre.length ≤ 4000 ∧ w.heap.size + 5 ≤ W.heap.size) ∧ Below w.heap.size w W)
    (fun c pre W => (c = .ret ∧ pre.length = 4001 ∧ Boxed W (w.heap.size + 1) 27 (.int .i64 5)) ∧ Below w.heap.size w W)
    (OwnFrom.and (Own.from (fun s A B row hs hg hr => ⟨boxed_own _ _ (fun (_ : Unit) => Value.int .i64 most) () A B row hs.1 hg hr, boxed_own _ _ (fun (_ : Unit) => Value.int .i64 0) () A B row hs.2.1 hg hr, boxed_own _ _ (fun s : List Ev => Value.int .i64 s.length) s A B row hs.2.2.1 hg hr, boxed_own _ _ (fun s : List Ev => Value.int .i64 (depE s)) s A B row hs.2.2.2.1 hg hr, hs.2.2.2.2.1, Nat.le_trans hs.2.2.2.2.2 hg.size⟩) _) (ownFrom_below (Nat.le_refl _) (by omega)))
    (fun c => OwnFrom.and (Own.from (fun s A B row hs hg hr => ⟨hs.1, hs.2.1, boxed_own _ _ (fun (_ : Unit) => Value.int .i64 5) () A B row hs.2.2 hg hr⟩) _) (ownFrom_below (Nat.le_refl _) (by omega)))
    ⟨⟨b0, b1, b2, b3, by simp, by omega⟩, hB0⟩
    (fun x a' W => ∃ Bx, w.heap.size + 5 ≤ Bx ∧ Blk W Bx x.cells ∧ a' = { tmps := #[.slice a f.len cap, .int .i64 most, undef, .pointer (some ⟨w.heap.size, 0, none⟩), .pointer (some ⟨w.heap.size + 1, 0, none⟩), .pointer (some ⟨w.heap.size + 1 + 1, 0, none⟩), .pointer (some ⟨w.heap.size + 1 + 1 + 1, 0, none⟩), .int .i64 x.lv, .pointer (some ⟨Bx, 0, none⟩), undef, undef, .slice a f.len cap, .func (.func 95) #[] #[.pointer (some ⟨w.heap.size + 1 + 1 + 1 + 1, 0, none⟩)], .int .i64 x.lv, .agg #[.int .i64 x.k, .string x.t, .slice x.a x.c.len x.cap], undef, undef, undef, undef, undef, undef, undef, undef, undef, undef, undef, undef, undef, undef, undef, undef, undef, undef, undef, undef, undef, undef, undef, undef, undef], defers := [] })
    (fun x a' _ X Y row hs hg hr => by obtain ⟨Bx, h1, h2, h3⟩ := hs; exact ⟨Bx, h1, blk_own Bx x.cells rfl () X Y row h2 hg (fun r e => (hr r e).2), h3⟩)
    ?assign ?body ?done ?stop
  case assign =>
    rintro l pre x W K ⟨⟨c0, c1, c2, c3, hp, hz⟩, hB1⟩ hK
    dsimp only [Ev.enc]
    gi_wp2
    exact hK _ _ ((KeepsOthers.alloc _ _).from _) (KpC.alloc _ _) ⟨⟨c0.alloc _, c1.alloc _, c2.alloc _, c3.alloc _, hp, by simp; omega⟩, hB1.alloc hB1.size _⟩ ⟨W.heap.size, hz, Blk.new _ _, rfl⟩
  case body =>
    rintro l pre x a' W hl ⟨r, hr⟩ ⟨⟨c0, c1, c2, c3, hp, hz⟩, hB1⟩ ⟨Bx, hBx, bX, rfl⟩ hlt
    have d2 := c2.cell
    have f2 := c2.frozen
    have d1 := c1.cell
    have f1 := c1.frozen
    by_cases hq : 4000 ≤ pre.length
    · have hq' : (pre.length : Int) = 4000 := by omega
      have HQ := Lib.hid hq'
      have hq2 : (4000 : Int) < (pre.length : Int) + 1 := by omega
      clear hq hq'
      gi_wp2
      exact ⟨((KeepsOthers.setCell _ _ _).trans (KeepsOthers.setCell _ _ _)).from _, ⟨rfl, by have := HQ.out; simp; omega, (c1.other (by omega) _).set _⟩, (hB1.setCell (p := ⟨w.heap.size + 1 + 1, 0, none⟩) (by simp; omega) _).setCell (p := ⟨w.heap.size + 1, 0, none⟩) (by simp) _⟩
    · have hq2 : ¬ (4000 : Int) < (pre.length : Int) + 1 := by omega
      have HQ2 := Lib.hid hq2
      gi_wp2
      clear d2 f2 d1 f1 hq hq2
      have hdd : ∀ k : Nat, ((Fence.wide.inRound l).depth.isSome = true → 1 ≤ k) := fun k h => by cases h
      obtain ⟨W1, hW1⟩ : ∃ W1, W1 = W.setCell ⟨w.heap.size + 1 + 1, 0, none⟩ (.int .i64 ((pre.length : Int) + 1)) := ⟨_, rfl⟩
      rw [← hW1]
      have C0 : Boxed W1 w.heap.size 3 (.int .i64 most) := by rw [hW1]; exact c0.other (by omega) _
      have C1 : Boxed W1 (w.heap.size + 1) 27 (.int .i64 0) := by rw [hW1]; exact c1.other (by omega) _
      have C2 : Boxed W1 (w.heap.size + 1 + 1) 3 (.int .i64 ((pre.length : Int) + 1)) := by rw [hW1]; exact c2.set _
      have C3 : Boxed W1 (w.heap.size + 1 + 1 + 1) 3 (.int .i64 (depE pre)) := by rw [hW1]; exact c3.other (by omega) _
      have BX : Blk W1 Bx x.cells := by rw [hW1]; exact bX.other (by omega) _
      have HK1 := Lib.hid (show KeepsOthers W W1 from by rw [hW1]; exact KeepsOthers.setCell _ _ _)
      have HP1 := Lib.hid (show KpC w.heap.size (w.heap.size + 5) W W1 from by rw [hW1]; exact KpC.setCell _ _ (by omega) (by omega))
      have HB2 := Lib.hid (show Below w.heap.size w W1 from by rw [hW1]; exact hB1.setCell (p := ⟨w.heap.size + 1 + 1, 0, none⟩) (by simp; omega) _)
      clear hW1 c0 c1 c2 c3 bX hB1
      have d3 := C3.cell
      have f3 := C3.frozen
      have l3 := C3.lt
      have ne3 : ¬ w.heap.size + 1 + 1 + 1 = W1.heap.size := by omega
      have lx := BX.lt
      have x0 : W1.cell? ⟨Bx, 0, none⟩ = some (.int .i64 x.k) := by simp [World.cell?, show W1.heap[Bx]? = _ from BX]
      have x1 : W1.cell? ⟨Bx, 1, none⟩ = some (.string x.t) := by simp [World.cell?, show W1.heap[Bx]? = _ from BX]
      have x2 : W1.cell? ⟨Bx, 2, none⟩ = some (.slice x.a x.c.len x.cap) := by simp [World.cell?, show W1.heap[Bx]? = _ from BX]
      have hmx : Try.prog.follows .mixedOrders = true := by kernel_rfl
      have hD := depE_nonneg pre
      have hD2 := depE_le (l := pre)
      have hO := ownD_le x.k
      have hlv := x.hl
      obtain ⟨od, hod⟩ : ∃ od, od = ownD x.k := ⟨_, rfl⟩
      obtain ⟨dp, hdp⟩ : ∃ dp, dp = depE pre := ⟨_, rfl⟩
      have HOD := Lib.hid hod
      have HDP := Lib.hid hdp
      rw [← hod] at hO
      rw [← hdp] at hD hD2 d3
      have OW := Lib.hid (fun (w : World) => own_al x.k x.t x.a x.c.len x.cap w)
      rw [← hod] at OW
      obtain ⟨sm, hsm⟩ : ∃ sm, sm = (x.lv : Int) + od := ⟨_, rfl⟩
      have hwr : IntKind.i64.wrap ((x.lv : Int) + od) = sm := by rw [hsm]; exact IntWalk.i64_in _ (by omega)
      have HV := Lib.hid (show depE (pre ++ [x]) = if dp < sm then sm else dp from by rw [depE_snoc, ← HDP.out, ← HOD.out, ← hsm]; split <;> omega)
      clear hod hdp hsm
      gi_region_with_o (refine ⟨trivial, ?_⟩; gi_at_call 57; refine (CallsIn.inRound l (callsIn_wide.2 (OW.out _))).mono ?_; rintro e w' ⟨rfl, rfl⟩)
      all_goals
        refine ⟨?_, ?_, ?_⟩
        · exact ((HK1.out.trans (KeepsOthers.setCell _ _ _)).trans ((KeepsOthers.alloc _ _).trans (KeepsOthers.drew _))).from _
        · exact (HP1.out.trans (KpC.setCell _ _ (by omega) (by omega))).trans ((KpC.alloc _ _).trans (KpC.drew _))
        · refine ⟨⟨(C0.other (by omega) _).alloc _, (C1.other (by omega) _).alloc _, ?_, ?_, ?_, ?_⟩, ?_⟩
          · rw [List.length_append, List.length_singleton, Int.natCast_add]; exact (C2.other (by omega) _).alloc _
          · rw [HV.out]; exact (C3.set _).alloc _
          · have := HQ2.out; simp; omega
          · have := HP1.out.1; simp; omega
          · exact ((HB2.out.setCell (p := ⟨w.heap.size + 1 + 1 + 1, 0, none⟩) (by simp; omega) _).alloc (by simp; omega) _).drew
  case stop =>
    rintro D c pre W hD hpre ⟨⟨rfl, hln, c1⟩, hB⟩ hK
    have HW := Lib.hid (show wrongC most f = 5 from by
      have := len_some hpre
      rw [wrongC, if_pos (by omega)])
    gi_wp2
    refine ⟨by simp, .inl ⟨_, _, rfl, run_takeDeferred hK, ?_⟩⟩
    have hc5 := cell_kept c1.cell (grownBy_putObj' _ D (.deferred none)) (fun r e => by cases e; exact ⟨_, hK, rfl⟩)
    refine ⟨.int .i64 5, ?_, by rw [HW.out], hB.trans (belowK_b (w := w) (Nat.le_refl _) W D _ _ (by omega) hK rfl rfl)⟩
    simp [results, Try.f59, go_sem, hc5]
  case done =>
    rintro D ys W hD hS ⟨⟨c0, c1, c2, c3, hp, hz⟩, hB⟩ hK
    have hcount : f.count ≤ 4000 := by rw [← len_all hS]; exact hp
    have hdep : depE ys = f.depth := depE_all hS
    have hDW : D < W.heap.size := (Array.getElem?_eq_some_iff.1 hK).1
    rw [hdep] at c3
    clear hS hp hdep c2
    have d3 := c3.cell
    have d1 := c1.cell
    have f1 := c1.frozen
    by_cases hdp : 100 < f.depth
    · have hdp2 : (100 : Int) < (f.depth : Int) := by omega
      have HW := Lib.hid (show wrongC most f = 6 from by rw [wrongC, if_neg (by omega), if_pos hdp])
      have HC1 := Lib.hid c1
      clear hdp
      gi_wp2
      have hK' := (KeepsOthers.setCell W ⟨w.heap.size + 1, 0, none⟩ (.int .i64 6)).same D _ hK rfl
      refine ⟨by simp, .inl ⟨_, _, rfl, run_takeDeferred hK', ?_⟩⟩
      have hc5 := cell_kept (HC1.out.set (.int .i64 6)).cell (grownBy_putObj' _ D (.deferred none)) (fun r e => by cases e; exact ⟨_, hK', rfl⟩)
      refine ⟨.int .i64 6, ?_, by rw [HW.out], (hB.setCell (p := ⟨w.heap.size + 1, 0, none⟩) (by simp) _).trans (belowK_b (w := w) (Nat.le_refl _) _ D _ _ (by omega) hK' rfl rfl)⟩
      simp [results, Try.f59, go_sem, hc5]
    · have hdp2 : ¬ (100 : Int) < (f.depth : Int) := by omega
      have HW := Lib.hid (show wrongC most f = if formB most f then 0 else 2 from by rw [wrongC, if_neg (by omega), if_neg hdp])
      clear hdp
      gi_wp2_with (refine ⟨trivial, ?_⟩; gi_at_call 72; refine (callsIn_wide.2 (preorder_any _ _ _ _)).mono ?_; rintro e w' ⟨rfl, rfl⟩)
      have e0 := c0.alloc (.cells #[.slice a f.len cap] 22)
      have e1 := c1.alloc (.cells #[.slice a f.len cap] 22)
      have e4 := Boxed.new W 22 (.slice a f.len cap)
      have hB2 : Below w.heap.size w (W.alloc (.cells #[.slice a f.len cap] 22)) := hB.alloc hB.size _
      have hKA : (W.alloc (.cells #[.slice a f.len cap] 22)).heap[D]? = some (.deferred (some [])) := ((World.grownBy_alloc W (.cells #[.slice a f.len cap] 22) none).block D hDW (by simp)).trans hK
      have hsz2 : (W.alloc (.cells #[.slice a f.len cap] 22)).heap.size = W.heap.size + 1 := by simp
      obtain ⟨W1, hW1⟩ : ∃ W1, W.alloc (.cells #[.slice a f.len cap] 22) = W1 := ⟨_, rfl⟩
      rw [hW1] at e0 e1 e4 hB2 hKA hsz2 ⊢
      clear hW1 c0 c1 c3 d3 d1 f1 hdp2 b0 b1 b2 b3 b4 hB0 hB hK
      refine wpIn_rangeFunc_ownH (n := 5) rfl (by omega) (gf := 95) (lb := #[.pointer (some ⟨W.heap.size, 0, none⟩)]) rfl trivial (enters_of Try.func95 (by kernel_rfl) rfl)
        (preorder_stops 4 w.heap.size (W.heap.size + 1) W.heap.size f a cap W1 (by omega) (by omega) (by omega) e4.cell HSM.out hL (HS.out.below hB2 (Nat.le_refl _))) KpC.trans (fun W l o o' _ h hc _ => KpC.putObj W l o o' h hc) (Below.refl _ _) (fun _ => rfl)
        (fun pre V => (Boxed V w.heap.size 3 (.int .i64 most) ∧ Boxed V (w.heap.size + 1) 27 (.int .i64 0) ∧ pre.all (okE most) = true ∧ W.heap.size + 1 ≤ V.heap.size) ∧ Below w.heap.size w V ∧ V.heap[D]? = some (.deferred (some [])))
        (fun c pre V => (c = .ret ∧ pre.all (okE most) = false ∧ Boxed V (w.heap.size + 1) 27 (.int .i64 2)) ∧ Below w.heap.size w V ∧ V.heap[D]? = some (.deferred (some [])))
        (OwnFrom.and (Own.from (fun s A B row hs hg hr => ⟨boxed_own _ _ (fun (_ : Unit) => Value.int .i64 most) () A B row hs.1 hg hr, boxed_own _ _ (fun (_ : Unit) => Value.int .i64 0) () A B row hs.2.1 hg hr, hs.2.2.1, Nat.le_trans hs.2.2.2 hg.size⟩) _) (OwnFrom.and (ownFrom_below (Nat.le_refl _) (by omega)) (deferred_own (by omega))))
        (fun c => OwnFrom.and (Own.from (fun s A B row hs hg hr => ⟨hs.1, hs.2.1, boxed_own _ _ (fun (_ : Unit) => Value.int .i64 2) () A B row hs.2.2 hg hr⟩) _) (OwnFrom.and (ownFrom_below (Nat.le_refl _) (by omega)) (deferred_own (by omega))))
        ⟨⟨e0, e1, rfl, by omega⟩, hB2, hKA⟩
        (fun x a' V => ∃ Bx, W.heap.size + 1 ≤ Bx ∧ Blk V Bx x.cells ∧ a' = { tmps := #[.slice a f.len cap, .int .i64 most, undef, .pointer (some ⟨w.heap.size, 0, none⟩), .pointer (some ⟨w.heap.size + 1, 0, none⟩), .pointer (some ⟨w.heap.size + 1 + 1, 0, none⟩), .pointer (some ⟨w.heap.size + 1 + 1 + 1, 0, none⟩), undef, undef, undef, .pointer (some ⟨Bx, 0, none⟩), .slice a f.len cap, .func (.func 95) #[] #[.pointer (some ⟨w.heap.size + 1 + 1 + 1 + 1, 0, none⟩)], undef, undef, undef, undef, undef, undef, undef, undef, undef, undef, undef, undef, .int .i64 f.depth, .bool false, .slice a f.len cap, .func (.func 95) #[] #[.pointer (some ⟨W.heap.size, 0, none⟩)], .int .i64 x.lv, .agg #[.int .i64 x.k, .string x.t, .slice x.a x.c.len x.cap], undef, undef, undef, undef, undef, undef, undef, undef, undef], defers := [] })
        (fun x a' _ X Y row hs hg hr => by obtain ⟨Bx, h1, h2, h3⟩ := hs; exact ⟨Bx, h1, blk_own Bx x.cells rfl () X Y row h2 hg (fun r e => (hr r e).2), h3⟩)
        ?assign2 ?body2 ?done2 ?stop2
      case assign2 =>
        rintro l pre x V K ⟨⟨c0, c1, hp, hz2⟩, hB1, hK1⟩ hK2
        have hDV : D < V.heap.size := (Array.getElem?_eq_some_iff.1 hK1).1
        dsimp only [Ev.enc]
        gi_wp2
        exact hK2 _ _ ((KeepsOthers.alloc _ _).from _) (KpC.alloc _ _) ⟨⟨c0.alloc _, c1.alloc _, hp, by simp; omega⟩, hB1.alloc hB1.size _, ((World.grownBy_alloc V _ none).block D hDV (by simp)).trans hK1⟩ ⟨V.heap.size, hz2, Blk.new _ _, rfl⟩
      case body2 =>
        rintro l pre x a' V hl ⟨r, hr⟩ ⟨⟨c0, c1, hp, hz2⟩, hB1, hK1⟩ ⟨Bx, hBx, bX, rfl⟩ hlt
        have hDV : D < V.heap.size := (Array.getElem?_eq_some_iff.1 hK1).1
        have d0 := c0.cell
        have d1 := c1.cell
        have f1 := c1.frozen
        have l1 := c1.lt
        have x0 : V.cell? ⟨Bx, 0, none⟩ = some (.int .i64 x.k) := by simp [World.cell?, show V.heap[Bx]? = _ from bX]
        have x1 : V.cell? ⟨Bx, 1, none⟩ = some (.string x.t) := by simp [World.cell?, show V.heap[Bx]? = _ from bX]
        have x2 : V.cell? ⟨Bx, 2, none⟩ = some (.slice x.a x.c.len x.cap) := by simp [World.cell?, show V.heap[Bx]? = _ from bX]
        have HK1 := Lib.hid hK1
        have HP := Lib.hid hp
        clear hK1 hp
        by_cases hm : most < x.k
        · have HF := Lib.hid (show (pre ++ [x]).all (okE most) = false from by rw [List.all_append, HP.out]; simp [okE]; omega)
          gi_wp2
          refine ⟨trivial, ?_⟩
          gi_wp2
          exact ⟨(KeepsOthers.setCell _ _ _).from _, ⟨rfl, HF.out, c1.set _⟩, hB1.setCell (p := ⟨w.heap.size + 1, 0, none⟩) (by simp) _, (KeepsOthers.setCell _ _ _).same D _ HK1.out rfl⟩
        · have RT := Lib.hid (fun (w : World) => pright_al x.k x.t x.c x.a x.cap w (by have := x.ht; omega))
          obtain ⟨rb, hrb⟩ : ∃ rb, rb = rightB x.k x.t x.c := ⟨_, rfl⟩
          rw [← hrb] at RT
          have HRB := Lib.hid hrb
          clear hrb
          cases rb
          · have HF := Lib.hid (show (pre ++ [x]).all (okE most) = false from by rw [List.all_append, HP.out]; simp [okE, ← HRB.out])
            gi_wp2_with (refine ⟨trivial, ?_⟩; gi_at_call 68; refine (CallsIn.inRound l (callsIn_wide.2 (RT.out _))).mono ?_; rintro e w' ⟨rfl, rfl⟩)
            exact ⟨((KeepsOthers.setCell _ _ _).trans (KeepsOthers.alloc _ _)).from _, ⟨rfl, HF.out, (c1.set _).alloc _⟩, (hB1.setCell (p := ⟨w.heap.size + 1, 0, none⟩) (by simp) _).alloc (by have := hB1.size; simpa using this) _, ((KeepsOthers.setCell _ _ _).trans (KeepsOthers.alloc _ _)).same D _ HK1.out rfl⟩
          · have HF := Lib.hid (show (pre ++ [x]).all (okE most) = true from by rw [List.all_append, HP.out]; simp [okE, ← HRB.out]; omega)
            gi_wp2_with (refine ⟨trivial, ?_⟩; gi_at_call 68; refine (CallsIn.inRound l (callsIn_wide.2 (RT.out _))).mono ?_; rintro e w' ⟨rfl, rfl⟩)
            exact ⟨(KeepsOthers.alloc _ _).from _, KpC.alloc _ _, ⟨⟨c0.alloc _, c1.alloc _, HF.out, by simp; omega⟩, hB1.alloc hB1.size _, (KeepsOthers.alloc _ _).same D _ HK1.out rfl⟩⟩
      case done2 =>
        rintro D2 zs V hD2 hS2 ⟨⟨c0, c1, hp, hz2⟩, hB1, hK1⟩ hK2
        have HQ := Lib.hid (show wrongC most f = 0 from by rw [HW.out, ok_all hS2, if_pos hp])
        have d1 := c1.cell
        have f1 := c1.frozen
        have HC1 := Lib.hid c1
        have HK1 := Lib.hid hK1
        have HK2 := Lib.hid hK2
        clear hS2 hp hK1 hK2 c1
        gi_wp2
        have hKa := (KeepsOthers.setCell V ⟨w.heap.size + 1, 0, none⟩ (.int .i64 0)).same D2 _ HK2.out rfl
        have hKb := (KeepsOthers.setCell V ⟨w.heap.size + 1, 0, none⟩ (.int .i64 0)).same D _ HK1.out rfl
        have hKc := (World.putObj_heap_other (o := .deferred none) (show D ≠ D2 by omega)).trans hKb
        refine ⟨by simp, .inl ⟨_, _, rfl, run_takeDeferred hKa, ?_⟩⟩
        refine ⟨by simp, .inl ⟨_, _, rfl, run_takeDeferred hKc, ?_⟩⟩
        have hc5 := cell_kept (HC1.out.set (.int .i64 0)).cell (grownBy_putObj' _ D2 (.deferred none)) (fun r e => by cases e; exact ⟨_, hKa, rfl⟩)
        have hc6 := cell_kept hc5 (grownBy_putObj' _ D (.deferred none)) (fun r e => by cases e; exact ⟨_, hKc, rfl⟩)
        refine ⟨.int .i64 0, ?_, by rw [HQ.out], ((hB1.setCell (p := ⟨w.heap.size + 1, 0, none⟩) (by simp) _).trans (belowK_b (w := w) (Nat.le_refl _) _ D2 _ _ (by omega) hKa rfl rfl)).trans (belowK_b (w := w) (Nat.le_refl _) _ D _ _ (by omega) hKc rfl rfl)⟩
        simp [results, Try.f59, go_sem, hc6]
      case stop2 =>
        rintro D2 c pre V hD2 hpre ⟨⟨rfl, hbad, c1⟩, hB1, hK1⟩ hK2
        have HQ := Lib.hid (show wrongC most f = 2 from by rw [HW.out, ok_bad hpre hbad]; rfl)
        gi_wp2
        have hKc := (World.putObj_heap_other (o := .deferred none) (show D ≠ D2 by omega)).trans hK1
        refine ⟨by simp, .inl ⟨_, _, rfl, run_takeDeferred hK2, ?_⟩⟩
        refine ⟨by simp, .inl ⟨_, _, rfl, run_takeDeferred hKc, ?_⟩⟩
        have hc5 := cell_kept c1.cell (grownBy_putObj' _ D2 (.deferred none)) (fun r e => by cases e; exact ⟨_, hK2, rfl⟩)
        have hc6 := cell_kept hc5 (grownBy_putObj' _ D (.deferred none)) (fun r e => by cases e; exact ⟨_, hKc, rfl⟩)
        refine ⟨.int .i64 2, ?_, by rw [HQ.out], (hB1.trans (belowK_b (w := w) (Nat.le_refl _) _ D2 _ _ (by omega) hK2 rfl rfl)).trans (belowK_b (w := w) (Nat.le_refl _) _ D _ _ (by omega) hKc rfl rfl)⟩
        simp [results, Try.f59, go_sem, hc6]
end Go.Proofs.Ytajdpchojimigaa
