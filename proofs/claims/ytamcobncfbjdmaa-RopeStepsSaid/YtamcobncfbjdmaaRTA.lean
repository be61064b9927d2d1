/- List of int, of any tree. -/
import Derived.Test.YtamcobncfbjdmaaRT9
import Derived.Test.YtamcobncfbjdmaaRI4
import Derived.Test.YtamcobncfbjdmaaRI7
import Derived.Laws.MakeOwn
import Derived.OwnWalkIn
namespace Go.Proofs.Ytamcobncfbjdmaa
open Go.RowKit Go.Shelf Go.BigFrame
attribute [local go_sem] Oper.semAt_some

theorem owns_cells0 {w : World} {base n m cap : Nat} {e : TypeId} {xs : List Value} (h : w.ownsRow base e 1 (.slice (some ⟨m, 0, none⟩) n cap) n xs) : m < w.heap.size ∧ ∀ j x, xs[j]? = some x → w.cell? ⟨m, j, none⟩ = some x := by
  rcases h.2 with ⟨h0, _⟩ | ⟨g, cap', cur, he, hb, hg, hc, _, hcs, ht⟩
  · cases h0
  · cases he
    refine ⟨(Array.getElem?_eq_some_iff.1 hg).1, fun j x hx => ?_⟩
    rw [← ht, List.getElem?_take] at hx
    split at hx
    · simpa [World.cell?, hg] using hx
    · cases hx

set_option maxRecDepth 100000 in
set_option maxHeartbeats 3200000 in
theorem pListI_any (a : Option Addr) (l : List Int) (w : World) (hH : Holds w a l) (hl : l.length ≤ 1000000) :
    Calls Try.prog 33 #[.agg #[.pointer a]] w (fun r w' => ∃ g c, r = .returned (.slice (some ⟨g, 0, none⟩) l.length c) ∧ Hid (∀ j x, l[j]? = some x → w'.cell? ⟨g, j, none⟩ = some (encI x)) ∧ g < w'.heap.size ∧ Hid (Below w.heap.size w w')) := by
  obtain ⟨o, hN, hL, hol⟩ := hH
  obtain ⟨n3, h3⟩ : ∃ n3, n3 = l.length := ⟨_, rfl⟩
  rw [← h3] at hl ⊢
  have h3' : (listO o).length = n3 := by rw [hol, h3]
  have HB : Hid (Below w.heap.size w (w.alloc (.cells #[.pointer a] 28))) := Lib.hid ((Below.refl _ _).alloc (Nat.le_refl _) _)
  have HBX : Hid (Boxed (w.alloc (.cells #[.pointer a] 28)) w.heap.size 28 (.pointer a)) := Lib.hid (Boxed.new _ _ _)
  have C1 : Hid (Calls Try.prog 28 #[.agg #[.pointer a]] (w.alloc (.cells #[.pointer a] 28)) (fun e w' => e = .returned (.int .i64 n3) ∧ Hid (Below (w.heap.size + 1) (w.alloc (.cells #[.pointer a] 28)) w'))) := Lib.hid (by
    refine (pLenI_any a o _ (hN.later HB.out)).mono ?_
    rintro e w' ⟨rfl, h⟩
    refine ⟨?_, Lib.hid (by have := h.out; rwa [World.size_alloc] at this)⟩
    rw [h3'])
  have H3 := Lib.hid h3
  have H3' := Lib.hid h3'
  have HOL := Lib.hid hol
  clear h3 h3' hol
  obtain ⟨i0, hi, hz0, hz1, hz2⟩ := info_parts Try.infoI
  have hmk : ∀ w : World, (Instr.makeSlice 22 (.int .i64 0) (.int .i64 n3)).run Try.prog w = .ok (.slice (some ⟨w.heap.size, 0, none⟩) 0 n3) (w.alloc (.cells (madeCells #[.int .i64 0] n3) 3)) := fun w => by
    have := run_make w 22 3 i0 (.int .i64 0) Try.underlying22 hi hz0 .i64 .i64 0 n3 (by omega) (by omega) (by rw [hz2]; show (8 : Int) * n3 ≤ 281474976710656; omega) (by omega)
    rw [hz1, Int.toNat_natCast, Nat.mul_one] at this
    exact this
  clear hi hz0 hz1 hz2
  refine (callsIn_wide (n := 5)).1 ?_
  refine callsIn_of_wp_marks Try.func33 rfl trivial ?_ rfl
  simp only [Try.ntmps33, List.size_toArray, List.length_cons, List.length_nil, Nat.reduceAdd, Nat.reduceSub, Array.replicate_succ, Array.replicate_zero, List.push_toArray, List.append_toArray, List.nil_append, List.cons_append]
  gi_wp2_with (first
    | (refine ⟨trivial, ?_⟩; gi_at_call 22; refine (callsIn_wide.2 (pAllI_any _ _)).mono ?_; rintro e' w2 ⟨rfl, rfl⟩)
    | (refine ⟨trivial, ?_⟩; gi_at_call 28; refine (callsIn_wide.2 C1.out).mono ?_; rintro e' w1 ⟨rfl, HB1⟩; have bx : Boxed w1 w.heap.size 28 (.pointer a) := (HB1.out.block _ (by omega)).trans HBX.out; have x1 := ((bx.alloc (.cells (madeCells #[.int .i64 0] n3) 3)).alloc (.cells #[.slice (some ⟨w1.heap.size, 0, none⟩) 0 n3] 22)).cell)
    | fail)
  have s1 := HB1.out.size
  simp only [World.size_alloc] at s1
  obtain ⟨m, hm⟩ : ∃ m, m = w1.heap.size := ⟨_, rfl⟩
  obtain ⟨V, hV⟩ : ∃ V, V = ((w1.alloc (.cells (madeCells #[.int .i64 0] n3) 3)).alloc (.cells #[.slice (some ⟨w1.heap.size, 0, none⟩) 0 n3] 22)).alloc (.cells #[.pointer a] 28) := ⟨_, rfl⟩
  have hbV : Below w1.heap.size w1 V := by rw [hV]; exact (((Below.refl _ _).alloc (Nat.le_refl _) _).alloc (by simp) _).alloc (by simp; omega) _
  have K3 := box3 w1 (.cells (madeCells #[.int .i64 0] n3) 3) (.cells #[.slice (some ⟨w1.heap.size, 0, none⟩) 0 n3] 22) (.cells #[.pointer a] 28)
  have sV : V.heap.size = m + 3 := by rw [hV, hm]; simp
  have hbW : Below w.heap.size w V := (HB.out.trans (HB1.out.mono (by omega))).trans (hbV.mono (by omega))
  rw [← hV, ← hm] at K3
  rw [← hV]
  simp only [← hm]
  obtain ⟨k0, k1, k2⟩ := K3
  have own0 : V.ownsRow w.heap.size 3 1 (.slice (some ⟨m, 0, none⟩) 0 n3) 0 [] := ⟨rfl, .inr ⟨m, n3, _, rfl, by omega, k0, by omega, (by show n3 ≤ 2 ^ 63 - 1; omega), by rw [size_madeCells]; simp, rfl⟩⟩
  have SO := all1I_seq 4 w.heap.size (m + 2) (m + 1 + 1) a o w V (Nat.le_refl _) (by omega) hN hL (by rw [H3'.out]; omega) (KpC.of_below hbW) (by omega) (cell_of k2)
  have sz1 : w.heap.size + 1 ≤ m := by rw [hm]; exact s1
  clear hV hbV x1 bx HB1 s1 k2 hm hmk
  have HI := Lib.hid (info_parts Try.infoI)
  refine range_own (n := 5) rfl rfl (by omega) (gf := 55) (lb := #[.pointer (some ⟨m + 1 + 1, 0, none⟩)]) rfl trivial (enters_of Try.func55 (by kernel_rfl) rfl) SO (fun _ => rfl)
    (fun q X => Boxed X (m + 1) 22 (.slice (some ⟨m, 0, none⟩) q.length n3) ∧ X.ownsRow w.heap.size 3 1 (.slice (some ⟨m, 0, none⟩) q.length n3) q.length (q.map (fun p => encI p.1)) ∧ Below w.heap.size w X ∧ m + 3 ≤ X.heap.size)
    (fun c q X => False)
    (fun s A C row hs hg hr => ⟨boxed_frm (by omega) _ (fun s : List (Int × Nat) => Value.slice (some ⟨m, 0, none⟩) s.length n3) s A C row hs.1 hg hr, owns_frm hs.2.1 hg (fun e => by have := hr m e.symm; omega), hs.2.2.1.grown hg hs.2.2.1.size (fun k e => by have := hr k e; omega), Nat.le_trans hs.2.2.2 hg.size⟩)
    (fun c s A C row hs hg hr => hs.elim)
    ⟨k1, own0, hbW, by omega⟩
    (fun x => { tmps := #[.agg #[.pointer a], .pointer (some ⟨w.heap.size, 0, none⟩), .slice none 0 0, .pointer (some ⟨m + 1, 0, none⟩), undef, encI x.1, .agg #[.pointer a], .int .i64 n3, .slice (some ⟨m, 0, none⟩) 0 n3, .agg #[.pointer a], .func (.func 55) #[] #[.pointer (some ⟨m + 1 + 1, 0, none⟩)], .int .i64 x.2, encI x.1, undef, undef, undef, undef, undef], defers := [] })
    ?assign ?body ?done ?stop
  case assign =>
    intro l' m' x X K hK
    dsimp only
    gi_wp2
    exact hK
  case body =>
    rintro l' m' q ⟨x, i⟩ X ⟨y1, hO, hBX, hsX⟩ hlt
    have hq3 : q.length < n3 := by rw [H3'.out] at hlt; exact hlt
    obtain ⟨i0, hi, hz0, hz1, hz2⟩ := HI.out
    have d1 := y1.cell
    have HO := Lib.hid hO
    have HY1 := Lib.hid y1
    have HBx := Lib.hid hBX
    have HQ : Hid ((q ++ [(x, i)]).length = q.length + 1) := Lib.hid (by simp)
    have HQ2 : Hid ((q ++ [(x, i)]).map (fun p => encI p.1) = q.map (fun p => encI p.1) ++ [encI x]) := Lib.hid (by simp)
    obtain ⟨k, hk⟩ : ∃ k, k = q.length := ⟨_, rfl⟩
    rw [← hk] at d1 HO HY1 HQ
    clear hO y1 hBX hlt
    rw [← hk] at hq3
    clear hk
    have owned : Hid (∀ X' : World, X.grownBy X' none → X'.ownsRow w.heap.size 3 1 (.slice (some ⟨m, 0, none⟩) k n3) k (q.map (fun p => encI p.1))) := Lib.hid fun X' hg => owns_frm HO.out hg (fun e => by cases e)
    have s1 : m + 1 ≠ X.heap.size := by omega
    have L1 : Hid (∀ x' : Value, Boxed (X.alloc (.cells #[x'] 3)) (m + 1) 22 (.slice (some ⟨m, 0, none⟩) k n3)) := Lib.hid fun x' => HY1.out.alloc _
    dsimp only
    gi_wp2_with (first
      | (refine wpListIn_append_fits _ rfl (.tmp 13) (.tmp 15) 22 rfl w.heap.size 3 i0 1 Try.underlying22 hi hz1 m k n3 (q.map (fun p => encI p.1)) rfl (owned.out _ (World.grownBy_alloc _ _ _)) ⟨X.heap.size, 0, none⟩ 1 1 [encI x] rfl rfl (cell_one_new _ _ _) (by intro u hu; simp at hu; subst hu; rfl) (by omega) ?_; intro w5 hown5 hgrow5; have b5 := (L1.out (encI x)).kept hgrow5 (fun e => by cases e <;> omega); have c5 := b5.cell; have f5 := b5.frozen; have HO5 := Lib.hid hown5; have HG5 := Lib.hid hgrow5; have HB5 := Lib.hid b5; clear hown5 hgrow5 b5)
      | fail)
    have g1 := World.grownBy_alloc X (.cells #[encI x] 3) none
    have g3 := grownBy_setCell' w5 (m + 1) (.slice (some ⟨m, 0, none⟩) (k + 1) n3)
    have z1 := g1.size
    have z2 := HG5.out.size
    have z3 := g3.size
    refine ⟨?_, ?_, ?_, ?_, ?_, ?_⟩
    · exact (((KeepsFrom.of_grownBy g1 (fun j e => by cases e)).trans (KeepsFrom.of_grownBy HG5.out (fun j e => by cases e; omega))).trans (KeepsFrom.of_grownBy g3 (fun j e => by cases e; omega)))
    · exact (((KpC.grownOwn g1 (fun r e => by cases e)).trans (KpC.grownOwn HG5.out (fun r e => by cases e; omega))).trans (KpC.grownOwn g3 (fun r e => by cases e; omega)))
    · rw [HQ.out]; exact HB5.out.set _
    · rw [HQ.out, HQ2.out]; exact owns_frm HO5.out g3 (fun e => by cases e <;> omega)
    · exact ((HBx.out.grown g1 HBx.out.size (fun k e => by cases e)).grown HG5.out (by have := HBx.out.size; omega) (fun k e => by cases e; omega)).grown g3 (by have := HBx.out.size; omega) (fun k e => by cases e; omega)
    · omega
  case done =>
    rintro D xs X hD rfl ⟨y1, hO, hBX, hsX⟩ hK
    have hx3 : ((listO o).zipIdx).length = n3 := by rw [List.length_zipIdx]; exact H3'.out
    rw [hx3] at y1 hO
    have d1 := y1.cell
    have HO := Lib.hid hO
    have HBx := Lib.hid hBX
    clear hO y1 hBX
    gi_wp2
    refine ⟨by simp, .inl ⟨_, _, rfl, run_takeDeferred hK, ?_⟩⟩
    obtain ⟨hg1, hcl⟩ := owns_cells0 (owns_frm HO.out (grownBy_putObj' X D (.deferred none)) (fun e => by cases e <;> omega))
    refine ⟨.slice (some ⟨m, 0, none⟩) n3 n3, by simp [results, Try.f33, go_sem], ⟨m, n3, rfl, Lib.hid fun j x hx => hcl j (encI x) ?_, hg1, Lib.hid (HBx.out.grown (grownBy_putObj' X D (.deferred none)) HBx.out.size (fun k e => by cases e; omega))⟩⟩
    rw [List.getElem?_map, List.getElem?_zipIdx]
    rw [HOL.out]
    rw [hx]
    rfl
  case stop =>
    rintro D c q X hD hq hx hK
    exact hx.elim
end Go.Proofs.Ytamcobncfbjdmaa
