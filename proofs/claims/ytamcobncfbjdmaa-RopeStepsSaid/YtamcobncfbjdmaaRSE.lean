/- List of string, of a leaf of three. -/
import Derived.Test.YtamcobncfbjdmaaRSD
import Derived.Test.YtamcobncfbjdmaaRS4
import Derived.Test.YtamcobncfbjdmaaRS7
import Derived.Laws.MakeOwn
import Derived.OwnWalkIn
namespace Go.Proofs.Ytamcobncfbjdmaa
open Go.RowKit Go.Shelf Go.BigFrame
attribute [local go_sem] Oper.semAt_some

theorem owns_frm {w w' : World} {base n g cap : Nat} {e : TypeId} {xs : List Value} {row : Option Nat} (h : w.ownsRow base e 1 (.slice (some ⟨g, 0, none⟩) n cap) n xs) (hg : w.grownBy w' row) (hr : some g ≠ row) : w'.ownsRow base e 1 (.slice (some ⟨g, 0, none⟩) n cap) n xs := by
  refine ⟨h.1, .inr ?_⟩
  rcases h.2 with ⟨h0, _⟩ | ⟨g', cap', cur, h1, h2, h3, h4⟩
  · cases h0
  · cases h1
    exact ⟨g, cap, cur, rfl, h2, (hg.block g (Array.getElem?_eq_some_iff.1 h3).1 hr).trans h3, h4⟩

set_option maxRecDepth 100000 in
set_option maxHeartbeats 3200000 in
theorem pList3_any (a : Option Addr) (l : List ByteArray) (w : World) (hN : Nd encS w a (.leaf l)) (h3 : l.length = 3) :
    Calls Try.prog 45 #[.agg #[.pointer a]] w (fun r w' => ∃ g c, r = .returned (.slice (some ⟨g, 0, none⟩) 3 c) ∧ Hid (∀ j x, l[j]? = some x → w'.cell? ⟨g, j, none⟩ = some (encS x)) ∧ g < w'.heap.size ∧ Hid (Below w.heap.size w w')) := by
  have HB : Hid (Below w.heap.size w (w.alloc (.cells #[.pointer a] 74))) := Lib.hid ((Below.refl _ _).alloc (Nat.le_refl _) _)
  have HBX : Hid (Boxed (w.alloc (.cells #[.pointer a] 74)) w.heap.size 74 (.pointer a)) := Lib.hid (Boxed.new _ _ _)
  have C1 : Hid (Calls Try.prog 46 #[.agg #[.pointer a]] (w.alloc (.cells #[.pointer a] 74)) (fun e w' => e = .returned (.int .i64 3) ∧ Hid (Below (w.heap.size + 1) (w.alloc (.cells #[.pointer a] 74)) w'))) := Lib.hid (by
    refine (pLenS_any a (some (.leaf l)) _ (On.later (o := some (.leaf l)) hN HB.out)).mono ?_
    rintro e w' ⟨rfl, h⟩
    refine ⟨?_, Lib.hid (by have := h.out; rwa [World.size_alloc] at this)⟩
    show Ending.returned (Value.int .i64 (l.length : Int)) = _
    rw [h3]; rfl)
  obtain ⟨i0, hi, hz0, hz1, hz2⟩ := info_parts Try.infoS
  have hmk : ∀ w : World, (Instr.makeSlice 76 (.int .i64 0) (.int .i64 3)).run Try.prog w = .ok (.slice (some ⟨w.heap.size, 0, none⟩) 0 3) (w.alloc (.cells (madeCells #[.string ByteArray.empty] 3) 9)) := fun w => by
    have := run_make w 76 9 i0 (.string ByteArray.empty) Try.underlying76 hi hz0 .i64 .i64 0 3 (by omega) (by omega) (by rw [hz2]; decide) (by omega)
    rw [hz1] at this
    exact this
  clear hi hz0 hz1 hz2
  refine (callsIn_wide (n := 5)).1 ?_
  refine callsIn_of_wp_marks Try.func45 rfl trivial ?_ rfl
  simp only [Try.ntmps45, List.size_toArray, List.length_cons, List.length_nil, Nat.reduceAdd, Nat.reduceSub, Array.replicate_succ, Array.replicate_zero, List.push_toArray, List.append_toArray, List.nil_append, List.cons_append]
  gi_wp2_with (first
    | (refine ⟨trivial, ?_⟩; gi_at_call 73; refine (callsIn_wide.2 (pAllS_any _ _)).mono ?_; rintro e' w2 ⟨rfl, rfl⟩)
    | (refine ⟨trivial, ?_⟩; gi_at_call 46; refine (callsIn_wide.2 C1.out).mono ?_; rintro e' w1 ⟨rfl, HB1⟩; have bx : Boxed w1 w.heap.size 74 (.pointer a) := (HB1.out.block _ (by omega)).trans HBX.out; have x1 := ((bx.alloc (.cells (madeCells #[.string ByteArray.empty] 3) 9)).alloc (.cells #[.slice (some ⟨w1.heap.size, 0, none⟩) 0 3] 76)).cell)
    | fail)
  have s1 := HB1.out.size
  simp only [World.size_alloc] at s1
  obtain ⟨m, hm⟩ : ∃ m, m = w1.heap.size := ⟨_, rfl⟩
  obtain ⟨V, hV⟩ : ∃ V, V = ((w1.alloc (.cells (madeCells #[.string ByteArray.empty] 3) 9)).alloc (.cells #[.slice (some ⟨w1.heap.size, 0, none⟩) 0 3] 76)).alloc (.cells #[.pointer a] 74) := ⟨_, rfl⟩
  have hbV : Below w1.heap.size w1 V := by rw [hV]; exact (((Below.refl _ _).alloc (Nat.le_refl _) _).alloc (by simp) _).alloc (by simp; omega) _
  have K3 := box3 w1 (.cells (madeCells #[.string ByteArray.empty] 3) 9) (.cells #[.slice (some ⟨w1.heap.size, 0, none⟩) 0 3] 76) (.cells #[.pointer a] 74)
  have sV : V.heap.size = m + 3 := by rw [hV, hm]; simp
  have hbW : Below w.heap.size w V := (HB.out.trans (HB1.out.mono (by omega))).trans (hbV.mono (by omega))
  rw [← hV, ← hm] at K3
  rw [← hV]
  simp only [← hm]
  obtain ⟨k0, k1, k2⟩ := K3
  have own0 : V.ownsRow w.heap.size 9 1 (.slice (some ⟨m, 0, none⟩) 0 3) 0 [] := ⟨rfl, .inr ⟨m, 3, _, rfl, by omega, k0, by omega, by decide, by rw [size_madeCells], rfl⟩⟩
  have SO := all1S_seq 4 w.heap.size (m + 2) (m + 1 + 1) a (some (.leaf l)) w V (Nat.le_refl _) (by omega) hN (fun t e => by cases e; exact ⟨by rw [h3]; decide, by rw [h3]; decide⟩) (by show l.length ≤ _; rw [h3]; decide) (KpC.of_below hbW) (by omega) (cell_of k2)
  have sz1 : w.heap.size + 1 ≤ m := by rw [hm]; exact s1
  clear hV hbV x1 bx HB1 s1 k2 hm hmk
  have HI := Lib.hid (info_parts Try.infoS)
  refine range_own (n := 5) rfl rfl (by omega) (gf := 93) (lb := #[.pointer (some ⟨m + 1 + 1, 0, none⟩)]) rfl trivial (enters_of Try.func93 (by kernel_rfl) rfl) SO (fun _ => rfl)
    (fun q X => Boxed X (m + 1) 76 (.slice (some ⟨m, 0, none⟩) q.length 3) ∧ X.ownsRow w.heap.size 9 1 (.slice (some ⟨m, 0, none⟩) q.length 3) q.length (q.map (fun p => encS p.1)) ∧ Below w.heap.size w X ∧ m + 3 ≤ X.heap.size)
    (fun c q X => False)
    (fun s A C row hs hg hr => ⟨boxed_frm (by omega) _ (fun s : List (ByteArray × Nat) => Value.slice (some ⟨m, 0, none⟩) s.length 3) s A C row hs.1 hg hr, owns_frm hs.2.1 hg (fun e => by have := hr m e.symm; omega), hs.2.2.1.grown hg hs.2.2.1.size (fun k e => by have := hr k e; omega), Nat.le_trans hs.2.2.2 hg.size⟩)
    (fun c s A C row hs hg hr => hs.elim)
    ⟨k1, own0, hbW, by omega⟩
    (fun x => { tmps := #[.agg #[.pointer a], .pointer (some ⟨w.heap.size, 0, none⟩), .slice none 0 0, .pointer (some ⟨m + 1, 0, none⟩), undef, encS x.1, .agg #[.pointer a], .int .i64 3, .slice (some ⟨m, 0, none⟩) 0 3, .agg #[.pointer a], .func (.func 93) #[] #[.pointer (some ⟨m + 1 + 1, 0, none⟩)], .int .i64 x.2, encS x.1, undef, undef, undef, undef, undef], defers := [] })
    ?assign ?body ?done ?stop
  case assign =>
    intro l' m' x X K hK
    dsimp only
    gi_wp2
    exact hK
  case body =>
    rintro l' m' q ⟨x, i⟩ X ⟨y1, hO, hBX, hsX⟩ hlt
    have hq3 : q.length < 3 := by have : q.length < l.length := hlt; omega
    obtain ⟨i0, hi, hz0, hz1, hz2⟩ := HI.out
    have d1 := y1.cell
    have HO := Lib.hid hO
    have HY1 := Lib.hid y1
    have HBx := Lib.hid hBX
    have HQ : Hid ((q ++ [(x, i)]).length = q.length + 1) := Lib.hid (by simp)
    have HQ2 : Hid ((q ++ [(x, i)]).map (fun p => encS p.1) = q.map (fun p => encS p.1) ++ [encS x]) := Lib.hid (by simp)
    obtain ⟨k, hk⟩ : ∃ k, k = q.length := ⟨_, rfl⟩
    rw [← hk] at d1 HO HY1 HQ
    clear hO y1 hBX hlt
    rw [← hk] at hq3
    clear hk
    have owned : Hid (∀ X' : World, X.grownBy X' none → X'.ownsRow w.heap.size 9 1 (.slice (some ⟨m, 0, none⟩) k 3) k (q.map (fun p => encS p.1))) := Lib.hid fun X' hg => owns_frm HO.out hg (fun e => by cases e)
    have s1 : m + 1 ≠ X.heap.size := by omega
    have L1 : Hid (∀ x' : Value, Boxed (X.alloc (.cells #[x'] 9)) (m + 1) 76 (.slice (some ⟨m, 0, none⟩) k 3)) := Lib.hid fun x' => HY1.out.alloc _
    dsimp only
    gi_wp2_with (first
      | (refine wpListIn_append_fits _ rfl (.tmp 13) (.tmp 15) 76 rfl w.heap.size 9 i0 1 Try.underlying76 hi hz1 m k 3 (q.map (fun p => encS p.1)) rfl (owned.out _ (World.grownBy_alloc _ _ _)) ⟨X.heap.size, 0, none⟩ 1 1 [encS x] rfl rfl (cell_one_new _ _ _) (by intro u hu; simp at hu; subst hu; rfl) (by omega) ?_; intro w5 hown5 hgrow5; have b5 := (L1.out (encS x)).kept hgrow5 (fun e => by cases e <;> omega); have c5 := b5.cell; have f5 := b5.frozen; have HO5 := Lib.hid hown5; have HG5 := Lib.hid hgrow5; have HB5 := Lib.hid b5; clear hown5 hgrow5 b5)
      | fail)
    have g1 := World.grownBy_alloc X (.cells #[encS x] 9) none
    have g3 := grownBy_setCell' w5 (m + 1) (.slice (some ⟨m, 0, none⟩) (k + 1) 3)
    have z1 := g1.size
    have z2 := HG5.out.size
    have z3 := g3.size
    refine ⟨?_, ?_, ?_, ?_, ?_, ?_⟩
    · exact (((KeepsFrom.of_grownBy g1 (fun j e => by cases e)).trans (KeepsFrom.of_grownBy HG5.out (fun j e => by cases e; omega))).trans (KeepsFrom.of_grownBy g3 (fun j e => by cases e; omega)))
    · exact (((KpC.grownOwn g1 (fun r e => by cases e)).trans (KpC.grownOwn HG5.out (fun r e => by cases e; omega))).trans (KpC.grownOwn g3 (fun r e => by cases e; omega)))
    · rw [HQ.out]; exact HB5.out.set _
    · rw [HQ.out, HQ2.out]; exact owns_frm HO5.out g3 (fun e => by cases e <;> omega)
    · exact ((HBx.out.grown g1 HBx.out.size (fun k e => by cases e)).grown HG5.out (by have := HBx.out.size; omega) (fun k e => by cases e; omega)).grown g3 (by have := HBx.out.size; omega) (fun k e => by cases e; omega)
    · omega
  case done =>
    rintro D xs X hD rfl ⟨y1, hO, hBX, hsX⟩ hK
    have hx3 : ((listO (some (Rp.leaf l))).zipIdx).length = 3 := by rw [List.length_zipIdx]; exact h3
    rw [hx3] at y1 hO
    have d1 := y1.cell
    have HO := Lib.hid hO
    have HBx := Lib.hid hBX
    clear hO y1 hBX
    gi_wp2
    refine ⟨by simp, .inl ⟨_, _, rfl, run_takeDeferred hK, ?_⟩⟩
    obtain ⟨g, cap, he, hg1, _, _, hcl⟩ := owns_cells (owns_frm HO.out (grownBy_putObj' X D (.deferred none)) (fun e => by cases e <;> omega)) (by omega)
    cases he
    refine ⟨.slice (some ⟨m, 0, none⟩) 3 3, by simp [results, Try.f45, go_sem], ⟨m, 3, rfl, Lib.hid fun j x hx => hcl j (encS x) ?_, hg1, Lib.hid (HBx.out.grown (grownBy_putObj' X D (.deferred none)) HBx.out.size (fun k e => by cases e; omega))⟩⟩
    rw [List.getElem?_map, List.getElem?_zipIdx]
    show Option.map _ (Option.map _ (l[j]?)) = _
    rw [hx]
    rfl
  case stop =>
    rintro D c q X hD hq hx hK
    exact hx.elim
end Go.Proofs.Ytamcobncfbjdmaa
