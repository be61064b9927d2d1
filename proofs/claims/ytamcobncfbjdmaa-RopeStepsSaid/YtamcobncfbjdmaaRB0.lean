/- slices.Backward, and back of int at a leaf. -/
import Derived.Test.YtamcobncfbjdmaaRb
import Derived.Test.YtamcobncfbjdmaaRr
namespace Go.Proofs.Ytamcobncfbjdmaa
open Go.RowKit Go.Shelf
attribute [local go_sem] Oper.semAt_some

theorem pbackw_any (p : Option Addr) (n c : Nat) (w : World) : Calls Try.prog 81 #[.slice p n c] w fun e w' =>
    e = .returned (.func (.func 95) #[] #[.pointer (some ⟨w.heap.size, 0, none⟩)]) ∧ w' = w.alloc (.cells #[.slice p n c] 22) := by
  go_enter Try.func81, Try.ntmps81
  go_wp2
  go_ret
  exact ⟨rfl, rfl⟩
theorem SeqStopsK.own {α : Type} {F : Fence} {n : Nat} {P : Program} {g : Nat} {lb : Array Value} {encs : α → Array Value} {n0 n1 : Nat} {S Sp : List α → Prop} {N : Nat} {w : World} (h : SeqStopsK F n P g lb encs (KpC n0 n1) S Sp N w) :
    SeqO F n P g lb encs n0 n1 S Sp N w := fun l J Jx W hb hJ hJx hY h0 => h l J Jx W hb hJ.abides hJx.abides (fun pre x W1 hj hl => (hY _ pre x W1 hj hl).mono (fun _ _ h => h.imp (fun h => ⟨h.1, h.2.1, h.2.2.1⟩) fun h => ⟨h.1, h.2.1⟩)) h0
/-- indices from a first one on. -/
def sh (first : Nat) (p : Int × Nat) : Int × Nat := (p.1, first + ix32 p.2)
theorem sh_zip (ls : List Int) (first : Nat) (h : ls.length ≤ 32) : ls.zipIdx first = ls.zipIdx.map (sh first) := by
  apply List.ext_getElem?
  intro i
  simp only [List.getElem?_zipIdx, List.getElem?_map]
  cases hi : ls[i]? with
  | none => simp
  | some x =>
    have := (List.getElem?_eq_some_iff.1 hi).1
    have hm : ix32 i = i := Nat.mod_eq_of_lt (by omega)
    simp [sh, hm]
theorem sh_rev (ls : List Int) (first : Nat) (h : ls.length ≤ 32) : (ls.zipIdx first).reverse = (revI ls).map (sh first) := by rw [sh_zip ls first h, revI, List.map_reverse]

set_option maxRecDepth 100000 in
set_option maxHeartbeats 6400000 in
theorem backL_any (l n0 n1 nb N B : Nat) (W0 : World) (hn0 : W0.heap.size ≤ n0) (J Jx : List (Int × Nat) → World → Prop) (hJ : Frm B J) (hJx : Frm B Jx)
    (hY : ∀ m pre (i : Nat) x W, J pre W → pre.length < N → YieldAt Fence.wide m Try.prog l #[.int .i64 i, encI x] W (YieldOut n0 n1 nb J Jx pre (x, i) W)) (ls : List Int)
    (a : Option Addr) (first : Nat) (pre : List (Int × Nat)) (W : World) (hN : Nd encI W0 a (.leaf ls)) (hL : (Rp.leaf ls).Lv) (hk : KpC n0 n1 W0 W) (hn : n1 ≤ W.heap.size) (hBW : B ≤ W.heap.size) (hnb : nb ≤ W.heap.size) (hn01 : n0 ≤ n1) (hj : J pre W) (hlen : pre.length + ls.length ≤ N) (hfirst : first + ls.length ≤ 1000000000) :
    Calls Try.prog 58 #[.pointer a, .int .i64 first, .func (.yield l) #[] #[]] W (WalkOut n0 n1 J Jx (ls.zipIdx first).reverse pre W) := by
  have hN1 := hN.kp hk hn0
  obtain ⟨W3, hW3⟩ : ∃ W3, W3 = ((W.alloc (.cells #[.int .i64 first] 3)).alloc (.cells #[.func (.yield l) #[] #[]] 55)).alloc (.cells #[.bool false] 4) := ⟨_, rfl⟩
  have hB3 : Below W.heap.size W W3 := by rw [hW3]; exact (((Below.refl _ W).alloc (Nat.le_refl _) _).alloc (by simp) _).alloc (by simp; omega) _
  have b0 : Boxed W3 W.heap.size 3 (.int .i64 first) := by rw [hW3]; exact ((Boxed.new W _ _).alloc _).alloc _
  have b1 : Boxed W3 (W.heap.size + 1) 55 (.func (.yield l) #[] #[]) := by
    rw [hW3]
    have := (Boxed.new (W.alloc (.cells #[.int .i64 first] 3)) 55 (.func (.yield l) #[] #[])).alloc (.cells #[.bool false] 4)
    rwa [World.size_alloc] at this
  have b2 : Boxed W3 (W.heap.size + 1 + 1) 4 (.bool false) := by
    rw [hW3]
    have := Boxed.new ((W.alloc (.cells #[.int .i64 first] 3)).alloc (.cells #[.func (.yield l) #[] #[]] 55)) 4 (.bool false)
    rwa [World.size_alloc, World.size_alloc] at this
  have hs3 : W3.heap.size = W.heap.size + 3 := by rw [hW3]; simp
  have hN3 := hN1.later hB3
  have C1 := pleafpI_any a ls _ hN3
  rw [hW3] at C1
  replace C1 := Lib.hid C1
  obtain ⟨b, e, rfl, c0, c2, he, hl⟩ := hN3.leaf2
  have he0 : e < n0 := by
    obtain ⟨b', e', hb', h1', h2', _, _, c2', _⟩ := hN
    obtain rfl : b = b' := by cases hb'; rfl
    have h3 := (hB3.cell (p := ⟨b, 2, none⟩) (Nat.lt_of_lt_of_le h1' hk.1)).trans (hk.cell (p := ⟨b, 2, none⟩) (.inl (Nat.lt_of_lt_of_le h1' hn0)) c2')
    rw [c2] at h3
    cases h3
    omega
  have h16 := hL.2
  have hz : W3.heap.size = W.heap.size + 3 := hs3
  have C2 := plistI_any b e ls.length W3 c0 c2 h16
  rw [hW3] at C2
  replace C2 := Lib.hid C2
  have hJ3 := Lib.hid (hJ _ _ _ none hj ⟨hB3.os, hB3.tape, hB3.output, hB3.size, fun k hk _ => hB3.block k hk⟩ (fun r e => by cases e))
  refine (callsIn_wide (n := 5)).1 ?_
  refine callsIn_of_wp_marks Try.func58 rfl trivial ?_ rfl
  simp only [Try.ntmps58, List.size_toArray, List.length_cons, List.length_nil, Nat.reduceAdd, Nat.reduceSub, Array.replicate_succ, Array.replicate_zero, List.push_toArray, List.append_toArray, List.nil_append, List.cons_append]
  have hdd : ∀ k : Nat, (Fence.wide.depth.isSome = true → 1 ≤ k) := fun k h => by cases h
  have HY := Lib.hid hY
  clear hN hN1 hN3 hL hY hj c0 c2
  gi_wp2_with (first
    | (refine ⟨trivial, ?_⟩; gi_at_call 81; refine (callsIn_wide.2 (pbackw_any _ _ _ _)).mono ?_; rintro e' w2 ⟨rfl, rfl⟩)
    | (refine ⟨trivial, ?_⟩; gi_at_call 79; refine (callsIn_wide.2 C1.out).mono ?_; rintro e' w9 ⟨rfl, rfl⟩)
    | (refine ⟨trivial, ?_⟩; gi_at_call 80; refine (callsIn_wide.2 C2.out).mono ?_; rintro e' w1 ⟨rfl, hb1⟩)
    | fail)
  have hb1' : Below W3.heap.size W3 w1 := by rw [hW3]; exact hb1
  clear hb1 C1 C2 hW3
  have hgb : W3.grownBy w1 none := ⟨hb1'.os, hb1'.tape, hb1'.output, hb1'.size, fun k hk _ => hb1'.block k hk⟩
  obtain ⟨m, hm⟩ : ∃ m, m = w1.heap.size := ⟨_, rfl⟩
  have hm3 : W.heap.size + 3 ≤ m := by rw [hm, ← hs3]; exact hb1'.size
  obtain ⟨k, hkk⟩ : ∃ k, k = ls.length := ⟨_, rfl⟩
  rw [← hkk, ← hm]
  obtain ⟨V, hV⟩ : ∃ V, V = w1.alloc (.cells #[.slice (some ⟨e, 0, none⟩) k 16] 22) := ⟨_, rfl⟩
  have r0 : Boxed V W.heap.size 3 (.int .i64 first) := by rw [hV]; exact (b0.kept hgb (by simp)).alloc _
  have r1 : Boxed V (W.heap.size + 1) 55 (.func (.yield l) #[] #[]) := by rw [hV]; exact (b1.kept hgb (by simp)).alloc _
  have r2 : Boxed V (W.heap.size + 1 + 1) 4 (.bool false) := by rw [hV]; exact (b2.kept hgb (by simp)).alloc _
  have hbV : Below W3.heap.size W3 V := by rw [hV]; exact hb1'.alloc hb1'.size _
  have cV : V.cell? ⟨m, 0, none⟩ = some (.slice (some ⟨e, 0, none⟩) k 16) := by rw [hV, hm]; exact World.cell?_alloc_at _ _ _ _ rfl
  have sV : V.heap.size = m + 1 := by rw [hV, hm]; simp
  have lV : Hid (∀ j x, ls[j]? = some x → V.cell? ⟨e, j, none⟩ = some (encI x)) := Lib.hid fun j x hx => (hbV.cell (p := ⟨e, j, none⟩) he).trans (hl.out j x hx)
  have hgV : W3.grownBy V none := ⟨hbV.os, hbV.tape, hbV.output, hbV.size, fun k hk _ => hbV.block k hk⟩
  have jV : J pre V := hJ _ _ _ none hJ3.out hgV (fun r e => by cases e)
  have kV : KpC n0 n1 W V := (KpC.of_below hB3).trans (KpC.of_below hbV)
  have heV : e < V.heap.size := by have := hbV.size; omega
  rw [← hV]
  clear hV hJ3 hgV hbV hgb hb1' b0 b1 b2 hB3 hm
  have SO := SeqStopsK.own (backw_stops 4 n0 (W.heap.size + 3) m e 16 ls V (.inr (by omega)) (.inl he0) (by omega) heV (by rw [← hkk]; exact cV) lV h16)
  have HKK := Lib.hid hkk
  clear hkk
  refine range_own (n := 5) rfl rfl (by omega) (gf := 95) (lb := #[.pointer (some ⟨m, 0, none⟩)]) rfl trivial (enters_of Try.func95 (by kernel_rfl) rfl) SO (fun _ => rfl)
    (fun q X => (Boxed X W.heap.size 3 (.int .i64 first) ∧ Boxed X (W.heap.size + 1) 55 (.func (.yield l) #[] #[]) ∧ Boxed X (W.heap.size + 1 + 1) 4 (.bool false)) ∧ J (pre ++ q.map (sh first)) X ∧ KpC n0 n1 W X ∧ W.heap.size + 3 ≤ X.heap.size)
    (fun c q X => c = .ret ∧ Boxed X (W.heap.size + 1 + 1) 4 (.bool false) ∧ Jx (pre ++ q.map (sh first)) X ∧ KpC 0 n1 W X)
    (fun s A C row hs hg hr => ⟨⟨boxed_frm (by omega) _ (fun (_ : Unit) => Value.int .i64 first) () A C row hs.1.1 hg hr, boxed_frm (by omega) _ (fun (_ : Unit) => Value.func (.yield l) #[] #[]) () A C row hs.1.2.1 hg hr, boxed_frm (by omega) _ (fun (_ : Unit) => Value.bool false) () A C row hs.1.2.2 hg hr⟩, hJ _ _ _ _ hs.2.1 hg (fun r e => by have := hr r e; omega), hs.2.2.1.frm hg (fun r e => by have := hr r e; omega), Nat.le_trans hs.2.2.2 hg.size⟩)
    (fun c s A C row hs hg hr => ⟨hs.1, boxed_frm (by omega) _ (fun (_ : Unit) => Value.bool false) () A C row hs.2.1 hg hr, hJx _ _ _ _ hs.2.2.1 hg (fun r e => by have := hr r e; omega), hs.2.2.2.frm hg (fun r e => by have := hr r e; omega)⟩)
    ⟨⟨r0, r1, r2⟩, by simpa using jV, kV, by omega⟩
    (fun x => { tmps := #[.pointer (some ⟨b, 0, none⟩), .int .i64 first, .func (.yield l) #[] #[], undef, .pointer (some ⟨W.heap.size, 0, none⟩), .pointer (some ⟨W.heap.size + 1, 0, none⟩), .pointer (some ⟨W.heap.size + 1 + 1, 0, none⟩), .int .i64 ((ix32 x.2 : Nat) : Int), encI x.1, .pointer (some ⟨b, 0, none⟩), .bool true, .bool false, undef, undef, undef, undef, undef, undef, undef, undef, undef, undef, undef, undef, undef, undef, undef, undef, undef, undef, undef, undef, undef, undef, undef, undef, .pointer (some ⟨b, 0, none⟩), .slice (some ⟨e, 0, none⟩) k 16, .func (.func 95) #[] #[.pointer (some ⟨m, 0, none⟩)], .int .i64 ((ix32 x.2 : Nat) : Int), encI x.1, undef, undef, undef, undef, undef, undef, undef], defers := [] })
    ?assign ?body ?done ?stop
  case assign =>
    intro l' m' x X K hK
    dsimp only
    gi_wp2
    exact hK
  case body =>
    rintro l' m' q ⟨x, i⟩ X ⟨⟨y0, y1, y2⟩, hJX, hkX, hsX⟩ hlt
    obtain ⟨i', hi'⟩ : ∃ i', i' = ix32 i := ⟨_, rfl⟩
    have Y := HY.out (m' - 1) (pre ++ q.map (sh first)) (first + i') x X hJX (by rw [List.length_append, List.length_map]; omega)
    have HS : Hid (pre ++ (q ++ [(x, i)]).map (sh first) = pre ++ q.map (sh first) ++ [(x, first + i')]) := Lib.hid (by rw [List.map_append, List.append_assoc, hi']; rfl)
    have hwr : IntKind.i64.wrap ((first : Int) + (i' : Int)) = (first : Int) + (i' : Int) := IntWalk.i64_in _ (by have := ix32_lt i; omega)
    have d0 := y0.cell
    have d1 := y1.cell
    have d2 := y2.cell
    have f2 := y2.frozen
    obtain ⟨fn, tmps, assign, body, hy, hR⟩ := (show YieldAt Fence.wide (m' - 1) Try.prog l #[.int .i64 ((first : Int) + (i' : Int)), encI x] X _ from Y)
    dsimp only
    rw [← hi']
    clear hi'
    clear d2 f2
    gi_wp2
    refine ⟨fun h => (by cases h), ?_⟩
    refine RoundIn.mono (show RoundIn (Fence.wide.inRound l') (m' - 1) Try.prog l fn tmps assign body X _ from hR) ?_
    rintro e' X2 (⟨rfl, hJ2, hk2, hf2⟩ | ⟨rfl, hJx2, hk2, hf2⟩)
    · have hf3 : KeepsFrom V.heap.size X X2 := ⟨hf2.size, fun i o hi ho hc => hf2.same i o (by omega) ho hc⟩
      have sz := hk2.1
      gi_wp2
      exact ⟨hf3, hk2.mono1 (by omega), ⟨hk2.2 _ _ (.inr (by omega)) y0 rfl, hk2.2 _ _ (.inr (by omega)) y1 rfl, hk2.2 _ _ (.inr (by omega)) y2 rfl⟩, by rw [HS.out]; exact hJ2, hkX.trans hk2, by omega⟩
    · have hf3 : KeepsFrom V.heap.size X X2 := ⟨hf2.size, fun i o hi ho hc => hf2.same i o (by omega) ho hc⟩
      have e2 : Boxed X2 (W.heap.size + 1 + 1) 4 (.bool false) := hk2.2 _ _ (.inr (by omega)) y2 rfl
      have d2 := e2.cell
      have f2 := e2.frozen
      have hkc : KpC n0 (W.heap.size + 3) X2 (X2.setCell ⟨W.heap.size + 1 + 1, 0, none⟩ (.bool false)) := KpC.setOwn X2 _ (by omega) (by omega)
      gi_wp2
      exact ⟨hf3.trans (KeepsFrom.of_grownBy (grownBy_setCell' _ _ _) (fun j e => by cases e; omega)), (hk2.mono1 (by omega)).trans hkc.zero, rfl, e2.set _, by rw [HS.out]; exact hJx.setCell _ hJx2 (by omega), (hkX.zero.trans hk2).frm (grownBy_setCell' _ _ _) (fun r e => by cases e; omega)⟩
  case done =>
    rintro D ys X hD rfl ⟨⟨y0, y1, y2⟩, hJX, hkX, hsX⟩ hK
    have d2 := y2.cell
    have f2 := y2.frozen
    have HR := Lib.hid (sh_rev ls first (by omega))
    clear y0 y1
    have hK1 : (X.setCell ⟨W.heap.size + 1 + 1, 0, none⟩ (.bool true)).heap[D]? = some (.deferred (some [])) := ((grownBy_setCell' X (W.heap.size + 1 + 1) (.bool true)).block D (Array.getElem?_eq_some_iff.1 hK).1 (fun e => by cases e; omega)).trans hK
    have y3 := (y2.set (.bool true)).kept (grownBy_putObj' (X.setCell ⟨W.heap.size + 1 + 1, 0, none⟩ (.bool true)) D (.deferred none)) (fun e => by cases e; omega)
    have hc5 := y3.cell
    clear y3
    gi_wp2
    refine ⟨by simp, .inl ⟨_, _, rfl, run_takeDeferred hK1, ?_⟩⟩
    refine ⟨.bool true, by simp [results, Try.f58, go_sem, hc5], .inl ⟨rfl, (hkX.frm (grownBy_setCell' _ _ _) (fun r e => by cases e; omega)).frm (grownBy_putObj' _ _ _) (fun r e => by cases e; omega), Lib.hid ?_⟩⟩
    rw [HR.out]
    exact hJ.putObj _ (hJ.setCell _ hJX (by omega)) (by omega)
  case stop =>
    rintro D c q X hD hq ⟨rfl, y2, hJX, hkX⟩ hK
    have y3 := y2.kept (grownBy_putObj' X D (.deferred none)) (fun e => by cases e; omega)
    have hc5 := y3.cell
    have HR := Lib.hid (sh_rev ls first (by omega))
    clear y3
    gi_wp2
    refine ⟨by simp, .inl ⟨_, _, rfl, run_takeDeferred hK, ?_⟩⟩
    refine ⟨.bool false, by simp [results, Try.f58, go_sem, hc5], .inr ⟨rfl, hkX.frm (grownBy_putObj' _ _ _) (fun r e => by cases e; omega), Lib.hid ⟨q.map (sh first), ?_, hJx.putObj _ hJX (by omega)⟩⟩⟩
    rw [HR.out]
    exact hq.map _
end Go.Proofs.Ytamcobncfbjdmaa
