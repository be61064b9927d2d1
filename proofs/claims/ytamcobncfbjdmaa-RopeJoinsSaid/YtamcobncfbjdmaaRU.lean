/- The law of a range over an iterator: a round may rely on what comes being the beginning of the whole. -/
import Derived.Test.YtamcobncfbjdmaaRr
import Derived.Test.YtamcobncfbjdmaaRI5
import Derived.Test.YtamcobncfbjdmaaRI1
import Derived.Test.YtamcobncfbjdmaaRk
import Derived.Test.YtamcobncfbjdmaaRg
import Derived.Test.YtamcobncfbjdmaaRI7
import Derived.Test.YtamcobncfbjdmaaRI3
import Derived.Deep.LoopGhost
import Derived.RangeFuncCalls
namespace Go.Proofs.Ytamcobncfbjdmaa
open Go.RowKit Go

/-- the contract of an iterator, at invariants that abide the turn of whatever block of its own that holds no cells. -/
def SeqP {α : Type} (F : Fence) (n : Nat) (P : Program) (g : Nat) (lb : Array Value) (encs : α → Array Value) (n0 n1 : Nat) (S Sp : List α → Prop) (L : List α) (w : World) : Prop :=
  ∀ (l : Nat) (J Jx : List α → World → Prop) (W : World), Below w.heap.size w W → Frm W.heap.size J → Frm W.heap.size Jx →
    (∀ m pre x W1, J pre W1 → pre ++ [x] <+: L → YieldAt F m P l (encs x) W1 (YieldOut n0 n1 W.heap.size J Jx pre x W1)) → J [] W →
    CallsIn F n P g (#[.func (.yield l) #[] #[]] ++ lb) W fun e W' => (∃ v, e = .returned v) ∧ ((∃ xs, S xs ∧ J xs W') ∨ (∃ pre, Sp pre ∧ Jx pre W'))

variable {F : Fence} {n : Nat} {P : Program}

theorem range_ownP {α : Type} {g : Operand} {ps : Array Tmp} {assign body : Code} {Q : Exit → Act → World → Prop} {a : Act} {w : World}
    (hro : F.round = none) (hd : F.depth = none) (h1 : 1 ≤ n) {gf : Nat} {lb : Array Value} (hg : a.eval g = .func (.func gf) #[] lb) (hFg : F.fn gf) (eg : ∀ args w, (callFunc gf args).run P w = .ok (.enter gf args) w)
    {encs : α → Array Value} {n0 n1 : Nat} {S Sp : List α → Prop} {L : List α} (hseq : SeqP F (n - 1) P gf lb encs n0 n1 S Sp L w) (hps : ∀ x, (encs x).size = ps.size)
    (I : List α → World → Prop) (Ix : Code → List α → World → Prop) (hI : Frm w.heap.size I) (hIx : ∀ c, Frm w.heap.size (Ix c)) (h0 : I [] w) (av : α → Act)
    (hassign : ∀ (l m : Nat) (x : α) (W : World) (K : Act → World → Prop), K (av x) W → assign.wpIn (F.inRound l) m P (Exit.then K (fun _ _ _ => False)) { tmps := (ps.zip (encs x)).foldl (fun t (p, v) => t.setIfInBounds p v) a.tmps, defers := [] } W)
    (hbody : ∀ (l m : Nat) (pre : List α) (x : α) (W : World), I pre W → pre ++ [x] <+: L → body.wpIn (F.inRound l) m P (bodyOut w.heap.size n0 n1 I Ix (pre ++ [x]) W) (av x) W)
    (hdone : ∀ (D : Nat) (xs : List α) (W : World), w.heap.size ≤ D → S xs → I xs W → W.heap[D]? = some (.deferred (some [])) → Q .normal { a with defers := { target := .collected D, args := #[] } :: a.defers } W)
    (hstop : ∀ (D : Nat) (c : Code) (pre : List α) (W : World), w.heap.size ≤ D → Sp pre → Ix c pre W → W.heap[D]? = some (.deferred (some [])) → c.wpIn F n P Q { a with defers := { target := .collected D, args := #[] } :: a.defers } W) :
    (Code.rangeFunc g ps assign body).wpIn F n P Q a w := by
  refine wpIn_rangeFunc fun fn hfn => ?_
  rw [hro]
  -- the record of this loop, in a state and with a pending jump
  obtain ⟨R, hR⟩ : ∃ R : LoopState → Option Code → Loop, R = fun st pe => { state := st, pending := pe, fn, tmps := a.tmps, params := ps, assign, body, defers := w.heap.size } := ⟨_, rfl⟩
  obtain ⟨D, hD⟩ : ∃ D, D = w.heap.size := ⟨_, rfl⟩
  obtain ⟨V, hV⟩ : ∃ V, V = (w.alloc (.deferred (some []))).alloc (.loop (R .ready none)) := ⟨_, rfl⟩
  have vl : V.heap[D + 1]? = some (.loop (R .ready none)) := by
    have := World.alloc_heap_new (w.alloc (.deferred (some []))) (.loop (R .ready none))
    rw [World.size_alloc] at this
    rw [hV, hD]
    exact this
  have vk : V.heap[D]? = some (.deferred (some [])) := by
    rw [hV, hD]
    exact (Below.heap_alloc _ _ _ (by simp)).trans (World.alloc_heap_new w _)
  have vs : D + 1 < V.heap.size := (Array.getElem?_eq_some_iff.1 vl).1
  have vi : I [] V := by rw [hV]; exact hI.alloc _ (hI.alloc _ h0)
  have vb : Below w.heap.size w V := by rw [hV]; exact ((Below.refl _ w).alloc (Nat.le_refl _) _).alloc (by simp) _
  -- what stays of the books
  have keep : ∀ {i : Nat} {o : Obj} {A B : World} {row : Option Nat}, A.heap[i]? = some o → i < V.heap.size → A.grownBy B row → (∀ r, row = some r → V.heap.size ≤ r) → B.heap[i]? = some o := fun hi hlt hg' hr =>
    (hg'.block _ (Array.getElem?_eq_some_iff.1 hi).1 (fun e => by have := hr _ e.symm; omega)).trans hi
  have low : ∀ {row : Option Nat}, (∀ r, row = some r → V.heap.size ≤ r) → (∀ r, row = some r → w.heap.size ≤ r) := fun hr r e => by have := hr r e; omega
  have turn : ∀ (st st' : LoopState) (pe pe' : Option Code) (X : World), X.heap[D + 1]? = some (.loop (R st pe)) → X.heap[D]? = some (.deferred (some [])) →
      (X.putObj (D + 1) (.loop (R st' pe'))).heap[D + 1]? = some (.loop (R st' pe')) ∧ (X.putObj (D + 1) (.loop (R st' pe'))).heap[D]? = some (.deferred (some [])) := fun _ _ _ _ X hl hk =>
    ⟨World.putObj_heap_same (Array.getElem?_eq_some_iff.1 hl).1, (World.putObj_heap_other (by omega)).trans hk⟩
  refine ⟨D + 1, [{ target := .collected D, args := #[] }], V, { target := .fn (.func gf) lb, args := #[.func (.yield (D + 1)) #[] #[]] }, V, gf, #[.func (.yield (D + 1)) #[] #[]] ++ lb, V, ?_, ?_, ?_, ?_, fun _ => h1, ?_⟩
  · rw [hV, hR, hD]; exact run_enterLoop_outer _ _ _ _ _
  · simp only [resolve, hg]
    simp [go_sem]
  · intro f' hf'
    simp [Target.leads] at hf'
    subst hf'
    exact hFg
  · simp [invoke, go_sem, eg]
  refine (hseq (D + 1) (fun pre W => I pre W ∧ W.heap[D + 1]? = some (.loop (R .ready none)) ∧ W.heap[D]? = some (.deferred (some [])))
    (fun pre W => ∃ c, Ix c pre W ∧ W.heap[D + 1]? = some (.loop (R .done (some c))) ∧ W.heap[D]? = some (.deferred (some []))) V vb
    (fun s A B row hs hg' hr => ⟨hI s A B row hs.1 hg' (low hr), keep hs.2.1 vs hg' hr, keep hs.2.2 (by omega) hg' hr⟩)
    (fun s A B row hs hg' hr => by
      obtain ⟨c, hc, hl, hk⟩ := hs
      exact ⟨c, hIx c s A B row hc hg' (low hr), keep hl vs hg' hr, keep hk (by omega) hg' hr⟩) ?round ⟨vi, vl, vk⟩).mono ?behind
  case round =>
    rintro m pre x W ⟨hi, hl, hk⟩ hlen
    have hlt := (Array.getElem?_eq_some_iff.1 hl).1
    have hy := run_yield (P := P) (args := encs x) hl (by rw [hR]; exact hps x)
    refine YieldAt.anyDepth hd m (m := n - 1 - 1) ?_
    rw [hR] at hy
    refine ⟨fn, _, assign, body, hy, roundIn_of_wpIn hfn (hassign _ _ x W _ ?_)⟩
    obtain ⟨b1, b2⟩ := turn .ready .busy none none W hl hk
    refine ⟨_, run_beginRound hl (by rw [hR]), ?_⟩
    have hbw : (W.putObj (D + 1) (.loop { R .ready none with state := .busy })) = W.putObj (D + 1) (.loop (R .busy none)) := by rw [hR]
    rw [hbw]
    refine wpIn_mono (hbody _ _ pre x _ (hI.putObj _ hi (by omega)) hlen) ?_
    have fin : ∀ (jump : Option Code) (X : World), KeepsFrom w.heap.size (W.putObj (D + 1) (.loop (R .busy none))) X → ∃ r, X.heap[D + 1]? = some (.loop (R .busy none)) ∧ r = (if jump.isNone then LoopState.ready else .done) ∧
        (Instr.endRound (D + 1) jump).run P X = .ok (.bool jump.isNone) (X.putObj (D + 1) (.loop (R r jump))) ∧ (X.putObj (D + 1) (.loop (R r jump))).heap[D + 1]? = some (.loop (R r jump)) ∧ (X.putObj (D + 1) (.loop (R r jump))).heap[D]? = some (.deferred (some [])) := fun jump X hX => by
      have x1 := hX.same _ _ (by omega) b1 rfl
      have x2 := hX.same _ _ (by omega) b2 rfl
      have he := run_endRound (P := P) jump x1
      refine ⟨_, x1, rfl, ?_, turn .busy _ none jump X x1 x2⟩
      rw [hR] at he ⊢
      exact he
    have kf : ∀ (X : World) (o o' : Obj), KeepsFrom w.heap.size (W.putObj (D + 1) o) X → KeepsFrom V.heap.size W (X.putObj (D + 1) o') := fun X o o' h => by
      refine ⟨?_, fun i p hi hp hc => ?_⟩
      · have := h.size
        simp at this ⊢
        exact this
      · exact (World.putObj_heap_other (by omega)).trans (h.same i p (by omega) ((World.putObj_heap_other (by omega)).trans hp) hc)
    rintro e a3 X hp
    cases e with
    | normal =>
      obtain ⟨hk3, hkp, hi3⟩ := hp
      obtain ⟨r, x1, rfl, hr, hl4, hk4⟩ := fin none X hk3
      exact ⟨_, _, hr, .inl ⟨rfl, ⟨hI.putObj _ hi3 (by omega), hl4, hk4⟩, ((KpC.putObj W _ _ _ hl rfl).trans hkp).trans (KpC.putObj X _ _ _ x1 rfl), kf _ _ _ hk3⟩⟩
    | ret =>
      obtain ⟨r, x1, rfl, hr, hl4, hk4⟩ := fin (some .ret) X hp.1
      exact ⟨_, _, hr, .inr ⟨rfl, ⟨.ret, (hIx _).putObj _ hp.2.2 (by omega), hl4, hk4⟩, ((KpC.putObj W _ _ _ hl rfl).trans hp.2.1).trans (KpC.putObj X _ _ _ x1 rfl), kf _ _ _ hp.1⟩⟩
    | exit id =>
      obtain ⟨r, x1, rfl, hr, hl4, hk4⟩ := fin (some (.exit id)) X hp.1
      exact ⟨_, _, hr, .inr ⟨rfl, ⟨.exit id, (hIx _).putObj _ hp.2.2 (by omega), hl4, hk4⟩, ((KpC.putObj W _ _ _ hl rfl).trans hp.2.1).trans (KpC.putObj X _ _ _ x1 rfl), kf _ _ _ hp.1⟩⟩
    | goto t => exact hp.elim
    | panic c => exact hp.elim
    | outgrown => exact hp.elim
  case behind =>
    rintro e X ⟨⟨v, rfl⟩, (⟨xs, hS, hi, hl, hk⟩ | ⟨pre, hSp, c, hi, hl, hk⟩)⟩
    · have he := run_endLoop (P := P) hl (by rw [hR]; simp)
      refine ⟨none, _, by rw [hR] at he; exact he, ?_⟩
      exact hdone D xs _ (by omega) hS (hI.putObj _ hi (by omega)) ((World.putObj_heap_other (by omega)).trans hk)
    · have he := run_endLoop (P := P) hl (by rw [hR]; simp)
      refine ⟨some c, _, by rw [hR] at he; exact he, ?_⟩
      exact hstop D c pre _ (by omega) hSp ((hIx c).putObj _ hi (by omega)) ((World.putObj_heap_other (by omega)).trans hk)
end Go.Proofs.Ytamcobncfbjdmaa

namespace Go.Proofs.Ytamcobncfbjdmaa
open Go.RowKit Go.Shelf
attribute [local go_sem] Oper.semAt_some

set_option maxRecDepth 100000 in
set_option maxHeartbeats 6400000 in
theorem forthLP_in (l n0 n1 nb B : Nat) (L : List (Int × Nat)) (W0 : World) (hn0 : W0.heap.size ≤ n0) (J Jx : List (Int × Nat) → World → Prop) (hJ : AbidesFrom B J)
    (hY : ∀ m pre (i : Nat) x W, J pre W → pre ++ [(x, i)] <+: L → YieldAt Fence.wide m Try.prog l #[.int .i64 i, encI x] W (YieldOut n0 n1 nb J Jx pre (x, i) W)) (ls : List Int) :
    ∀ (n : Nat) (a : Option Addr) (first : Nat) (pre : List (Int × Nat)) (W : World), Nd encI W0 a (.leaf ls) → (Rp.leaf ls).Lv → KpC n0 n1 W0 W → n1 ≤ W.heap.size → J pre W → pre ++ ls.zipIdx first <+: L → first + ls.length ≤ 1000000000 →
      CallsIn Fence.wide n Try.prog 56 #[.pointer a, .int .i64 first, .func (.yield l) #[] #[]] W (WalkOut n0 n1 J Jx (ls.zipIdx first) pre W) := by
  intro n a first pre W hN hL hk hn hj hlen hfirst
  have hN1 := hN.kp hk hn0
  have C1 := Lib.hid (pleafpI_any a ls _ hN1)
  obtain ⟨b, e, rfl, c0, c2, he, hl⟩ := hN1.leaf2
  have he0 : e < n0 := by
    obtain ⟨b', e', hb', h1', h2', _, _, c2', _⟩ := hN
    obtain rfl : b = b' := by cases hb'; rfl
    have h3 := hk.cell (p := ⟨b, 2, none⟩) (.inl (Nat.lt_of_lt_of_le h1' hn0)) c2'
    rw [c2] at h3
    cases h3
    omega
  have h16 := hL.2
  have C2 := Lib.hid (plistI_any b e ls.length W c0 c2 h16)
  have HY := Lib.hid hY
  have HJ := Lib.hid hJ
  have hlen' : Hid (pre ++ ls.zipIdx first <+: L) := Lib.hid hlen
  have hfirst' : first + ls.length ≤ 1000000000 := hfirst
  have hdd : ∀ k : Nat, (Fence.wide.depth.isSome = true → 1 ≤ k) := fun k h => by cases h
  clear hN hN1 hL hY hJ hlen hfirst c0 c2
  obtain ⟨k, hkn⟩ : ∃ k, k = ls.length := ⟨_, rfl⟩
  rw [← hkn] at hfirst' h16 C2
  have HKN := Lib.hid hkn
  have h16i : (k : Int) ≤ 16 := by omega
  clear hkn
  refine callsIn_of_wp Try.func56 rfl trivial ?_ rfl
  simp only [Try.ntmps56, List.size_toArray, List.length_cons, List.length_nil, Nat.reduceAdd, Nat.reduceSub, Array.replicate_succ, Array.replicate_zero, List.push_toArray, List.append_toArray, List.nil_append, List.cons_append]
  gi_wp2_with (first
    | (refine ⟨trivial, hdd _, ?_⟩; gi_at_call 79; refine (callsIn_wide.2 C1.out).mono ?_; rintro e' w9 ⟨rfl, hw9⟩; obtain rfl := hw9.symm)
    | (refine ⟨trivial, hdd _, ?_⟩; gi_at_call 80; refine (callsIn_wide.2 C2.out).mono ?_; rintro e' w1 ⟨rfl, hb1⟩)
    | fail)
  have hgb : W.grownBy w1 none := ⟨hb1.os, hb1.tape, hb1.output, hb1.size, fun k hk _ => hb1.block k hk⟩
  have HJ1 : Hid (J pre w1) := Lib.hid (HJ.out _ _ _ none hj hgb (fun r e => by cases e))
  have HK1 : KpC n0 n1 W w1 := KpC.of_below hb1
  clear hgb hb1 hj
  gi_loopw [39] (fun i wr => ∃ j : Nat, i = .int .i64 j ∧ j ≤ k ∧ Hid (J (pre ++ (ls.take j).zipIdx first) wr) ∧ KpC n0 n1 W wr) (fun i _ => k - (intOf i).toNat)
  case atStart => exact ⟨0, rfl, Nat.zero_le _, by simpa using HJ1, HK1⟩
  case round =>
    obtain ⟨j, rfl, hjk, hJs, hkp⟩ := hrel
    by_cases hjl : j < k
    · have hji : (j : Int) < (k : Int) := by omega
      have hlk := HKN.out
      obtain ⟨x, hx⟩ : ∃ x, ls[j]? = some x := ⟨_, List.getElem?_eq_getElem (by omega)⟩
      have cx : wr.cell? ⟨e, j, none⟩ = some (encI x) := by
        have := hl.out j x hx
        exact hkp.cell (p := ⟨e, j, none⟩) (.inl he0) this
      have hwr : IntKind.i64.wrap ((first : Int) + (j : Int)) = (first : Int) + (j : Int) := IntWalk.i64_in _ (by omega)
      have HT : Hid ((ls.take (j + 1)).zipIdx first = (ls.take j).zipIdx first ++ [(x, first + j)]) := Lib.hid (by
        rw [List.take_add_one, hx, List.zipIdx_append, List.length_take, Nat.min_eq_left (by omega)]; rfl)
      have HPX : Hid ((ls.take (j + 1)).zipIdx first <+: ls.zipIdx first) := Lib.hid (by
        have e1 : ls.zipIdx first = (ls.take (j + 1)).zipIdx first ++ (ls.drop (j + 1)).zipIdx (first + (ls.take (j + 1)).length) := by
          rw [← List.zipIdx_append, List.take_append_drop]
        exact ⟨_, e1.symm⟩)
      have hpl : (pre ++ (ls.take j).zipIdx first) ++ [(x, first + j)] <+: L := by
        rw [List.append_assoc, ← HT.out]
        exact ((List.prefix_append_right_inj _).2 HPX.out).trans hlen'.out
      have Y := HY.out (n - 1) (pre ++ (ls.take j).zipIdx first) (first + j) x wr hJs.out hpl
      obtain ⟨fn, tmps, assign, body, hy, hR⟩ := (show YieldAt Fence.wide (n - 1) Try.prog l #[.int .i64 ((first : Int) + (j : Int)), encI x] wr _ from Y)
      clear hx hpl hlk
      gi_wp2
      refine ⟨hdd _, ?_⟩
      refine hR.mono ?_
      rintro e' W2 (⟨rfl, hJ2, hk2, _⟩ | ⟨rfl, hJx, hk2, _⟩)
      · have HJ2 := Lib.hid hJ2
        clear hJ2
        gi_wp2
        go_roundw
        case rel => exact ⟨j + 1, by go_num, by omega, Lib.hid (by rw [HT.out, ← List.append_assoc]; exact HJ2.out), hkp.trans hk2⟩
        case measure => simp [intOf]; omega
      · have HJ2 := Lib.hid hJx
        clear hJx
        gi_wp2
        go_ret
        exact .inr ⟨rfl, hkp.zero.trans hk2, Lib.hid ⟨(ls.take (j + 1)).zipIdx first, HPX.out, by rw [HT.out, ← List.append_assoc]; exact HJ2.out⟩⟩
    · obtain rfl : j = k := by omega
      have HT2 := List.take_of_length_le (l := ls) (i := j) (by rw [HKN.out]; exact Nat.le_refl _)
      have HF := Lib.hid (show J (pre ++ ls.zipIdx first) wr from by have := hJs.out; rwa [HT2] at this)
      clear HT2
      gi_wp2
      go_ret
      exact .inl ⟨rfl, hkp, HF⟩
end Go.Proofs.Ytamcobncfbjdmaa

namespace Go.Proofs.Ytamcobncfbjdmaa
open Go.RowKit Go.Shelf
attribute [local go_sem] Oper.semAt_some

set_option maxRecDepth 100000 in
set_option maxHeartbeats 6400000 in
theorem forthP_in (l n0 n1 nb B : Nat) (L : List (Int × Nat)) (W0 : World) (hn0 : W0.heap.size ≤ n0) (J Jx : List (Int × Nat) → World → Prop) (hJ : AbidesFrom B J)
    (hY : ∀ m pre (i : Nat) x W, J pre W → pre ++ [(x, i)] <+: L → YieldAt Fence.wide m Try.prog l #[.int .i64 i, encI x] W (YieldOut n0 n1 nb J Jx pre (x, i) W)) (t : Rp Int) :
    ∀ (n : Nat) (a : Option Addr) (first : Nat) (pre : List (Int × Nat)) (W : World), Nd encI W0 a t → t.Lv → KpC n0 n1 W0 W → n1 ≤ W.heap.size → J pre W → pre ++ t.list.zipIdx first <+: L → first + t.list.length ≤ 1000000000 →
      CallsIn Fence.wide n Try.prog 56 #[.pointer a, .int .i64 first, .func (.yield l) #[] #[]] W (WalkOut n0 n1 J Jx (t.list.zipIdx first) pre W) := by
  induction t with
  | leaf ls =>
    intro n a first pre W hN hL hk hn hj hlen hfirst
    exact forthLP_in l n0 n1 nb B L W0 hn0 J Jx hJ hY ls n a first pre W hN hL hk hn hj hlen hfirst
  | fork p q ihp ihq =>
    intro n a first pre W hN hL hk hn hj hlen hfirst
    have hN1 := hN.kp hk hn0
    have C1 := Lib.hid (pforkpI_any a p q _ hN1)
    obtain ⟨b, a1, a2, rfl, c2, c3, c4, hp, hq⟩ := hN1.fork2
    obtain ⟨b', a1', a2', hb', _, _, _, _, c3', c4', hp', hq'⟩ := hN
    obtain rfl : b = b' := by cases hb'; rfl
    have h1b : b < n0 := by omega
    have e3 := hk.cell (p := ⟨b, 3, none⟩) (.inl h1b) c3'
    rw [c3] at e3
    obtain rfl : a1 = a1' := by cases e3; rfl
    have e4 := hk.cell (p := ⟨b, 4, none⟩) (.inl h1b) c4'
    rw [c4] at e4
    obtain rfl : a2 = a2' := by cases e4; rfl
    obtain ⟨b1, rfl, hb1, d0, _⟩ := hp'.head
    have h1c : b1 < n0 := by omega
    have d1 := hk.cell (p := ⟨b1, 0, none⟩) (.inl h1c) d0
    rw [Rp.list, List.length_append] at hfirst
    obtain ⟨k, hkn⟩ : ∃ k, k = p.list.length := ⟨_, rfl⟩
    have HKN := Lib.hid hkn
    have HX : Hid ((Rp.fork p q).list.zipIdx first = p.list.zipIdx first ++ q.list.zipIdx (first + k)) := Lib.hid (by rw [Rp.list, List.zipIdx_append, hkn])
    have HJ := Lib.hid hJ
    have hl2 : pre ++ p.list.zipIdx first ++ q.list.zipIdx (first + k) <+: L := by rw [List.append_assoc, ← HX.out]; exact hlen
    have hl1 : pre ++ p.list.zipIdx first <+: L := (List.prefix_append _ _).trans hl2
    have S1 : Hid (∀ n W', J pre W' → KpC n0 n1 W W' → CallsIn Fence.wide n Try.prog 56 #[.pointer (some ⟨b1, 0, none⟩), .int .i64 first, .func (.yield l) #[] #[]] W' (WalkOut n0 n1 J Jx (p.list.zipIdx first) pre W')) := Lib.hid fun n W' hj' hk' =>
      ihp n _ first pre W' hp' hL.1 (hk.trans hk') (Nat.le_trans hn hk'.1) hj' hl1 (by omega)
    have S2 : Hid (∀ n W', J (pre ++ p.list.zipIdx first) W' → KpC n0 n1 W W' → CallsIn Fence.wide n Try.prog 56 #[.pointer a2, .int .i64 ((first : Int) + (k : Int)), .func (.yield l) #[] #[]] W' (WalkOut n0 n1 J Jx (q.list.zipIdx (first + k)) (pre ++ p.list.zipIdx first) W')) := Lib.hid fun n W' hj' hk' =>
      ihq n _ (first + k) (pre ++ p.list.zipIdx first) W' hq' hL.2 (hk.trans hk') (Nat.le_trans hn hk'.1) hj' hl2 (by omega)
    have hwr : IntKind.i64.wrap ((first : Int) + (k : Int)) = (first : Int) + (k : Int) := IntWalk.i64_in _ (by omega)
    have hdd : ∀ k : Nat, (Fence.wide.depth.isSome = true → 1 ≤ k) := fun k h => by cases h
    have hjd : Hid (J pre W.drew) := Lib.hid (HJ.out _ _ _ none hj (by have hb := (Below.refl W.heap.size W).drew; exact ⟨hb.os, hb.tape, hb.output, hb.size, fun k hk _ => hb.block k hk⟩) (fun r e => by cases e))
    have hj0 := Lib.hid hj
    rw [← hkn] at d1
    clear ihp ihq hN1 hL hY hJ hj hlen hl1 hl2 hfirst c3' c4' e3 e4 hb' hp hq hp' hq' d0 hkn
    refine callsIn_of_wp Try.func56 rfl trivial ?_ rfl
    simp only [Try.ntmps56, List.size_toArray, List.length_cons, List.length_nil, Nat.reduceAdd, Nat.reduceSub, Array.replicate_succ, Array.replicate_zero, List.push_toArray, List.append_toArray, List.nil_append, List.cons_append]
    gi_wp2_with (first
      | (refine ⟨trivial, hdd _, ?_⟩; gi_at_call 79; refine (callsIn_wide.2 C1.out).mono ?_; rintro e' w9 ⟨rfl, hw9⟩; obtain rfl := hw9.symm)
      | fail)
    have hmx : Try.prog.follows .mixedOrders = true := by kernel_rfl
    rename_i KA hKA KB hKB
    clear hKA C1 hk hn hw9
    refine wpIn_region_any (by assumption) ?_
    try (change wpAnyIn _ _ _ _ _ _ _ _ _ (World.drew _))
    refine wpAnyIn_take (i := 0) (v := .pointer (some ⟨b, 0, none⟩)) rfl rfl (by kernel_rfl) (by kernel_rfl) (by kernel_rfl) (fun _ _ _ h => h) ⟨Or.inl ⟨by rfl, by intro w; go_simp⟩, fun _ => rfl⟩ ?_
    go_simp
    refine wpAnyIn_take (i := 1) (v := .pointer (some ⟨b, 0, none⟩)) rfl rfl (by kernel_rfl) (by kernel_rfl) (by kernel_rfl) (fun _ _ _ h => h) ⟨Or.inl ⟨by rfl, by intro w; go_simp⟩, fun _ => rfl⟩ ?_
    go_simp
    refine wpAnyIn_take (i := 2) (v := .pointer (some ⟨b, 3, none⟩)) rfl rfl (by kernel_rfl) (by kernel_rfl) (by kernel_rfl) (fun _ _ _ h => h) ⟨Or.inl ⟨by rfl, by intro w; go_simp⟩, fun _ => rfl⟩ ?_
    go_simp
    refine wpAnyIn_take (i := 4) (v := .int .i64 first) rfl rfl (by kernel_rfl) (by kernel_rfl) (by kernel_rfl) (fun _ _ _ h => h) ⟨Or.inl ⟨by rfl, by intro w; go_simp⟩, fun _ => rfl⟩ ?_
    go_simp
    refine wpAnyIn_take (i := 5) (v := .func (.yield l) #[] #[]) rfl rfl (by kernel_rfl) (by kernel_rfl) (by kernel_rfl) (fun _ _ _ h => h) ⟨Or.inl ⟨by rfl, by intro w; go_simp⟩, fun _ => rfl⟩ ?_
    go_simp
    refine wpAnyIn_here (i := 3) (v := .pointer (some ⟨b1, 0, none⟩)) [] [6, 7, 8, 9, 10, 11, 12, 13, 14, 15, 16, 17, 18, 19, 20, 21, 22, 23, 24] rfl rfl (by kernel_rfl) (by kernel_rfl) (by kernel_rfl) ⟨Or.inl ⟨by rfl, by go_simp⟩, by first | rfl | go_simp⟩ (fun p hp => by cases hp) ?_
    go_simp
    refine wpAnyIn_ready (rs := [6]) (by kernel_rfl) (by simp) ?_
    refine AllReadyIn.cons rfl (fun K hK => ?_) AllReadyIn.nil
    go_simp
    gi_wp2_with (first | (refine ⟨trivial, hdd _, ?_⟩; gi_at_call 56; refine (S1.out _ _ (by first | exact hjd.out | exact hj0.out) (by first | exact KpC.of_below ((Below.refl _ _).drew) | exact KpC.refl _ _ _)).mono ?_; intro e' w2 HW; obtain ⟨r, rfl, HR⟩ := HW.b; clear HW) | fail)
    rcases HR.out with ⟨rfl, hk22, hJ2⟩ | ⟨rfl, hk22, hX2⟩
    · have hk2 : KpC n0 n1 W w2 := (by first | exact (KpC.of_below ((Below.refl _ _).drew)).trans hk22 | exact hk22)
      clear hk22
      have f3 := hk2.cell (p := ⟨b, 3, none⟩) (.inl h1b) c3
      have f4 := hk2.cell (p := ⟨b, 4, none⟩) (.inl h1b) c4
      have f0 := hk2.cell (p := ⟨b1, 0, none⟩) (.inl h1c) d1
      first | (go_simp; refine hK _ _ ?_; clear hK K; go_simp) | (refine hK _ _ ?_; clear hK K; go_simp) | go_simp
      refine wpAnyIn_take (i := 7) (v := .bool true) rfl rfl (by kernel_rfl) (by kernel_rfl) (by kernel_rfl) (fun _ _ _ h => h) ⟨Or.inl ⟨by rfl, by intro w; go_simp⟩, fun _ => rfl⟩ ?_
      go_simp
      refine wpAnyIn_take (i := 8) (v := .pointer (some ⟨b, 0, none⟩)) rfl rfl (by kernel_rfl) (by kernel_rfl) (by kernel_rfl) (fun _ _ _ h => h) ⟨Or.inl ⟨by rfl, by intro w; go_simp⟩, fun _ => rfl⟩ ?_
      go_simp
      refine wpAnyIn_take (i := 9) (v := .pointer (some ⟨b, 0, none⟩)) rfl rfl (by kernel_rfl) (by kernel_rfl) (by kernel_rfl) (fun _ _ _ h => h) ⟨Or.inl ⟨by rfl, by intro w; go_simp⟩, fun _ => rfl⟩ ?_
      go_simp
      refine wpAnyIn_take (i := 10) (v := .pointer (some ⟨b, 4, none⟩)) rfl rfl (by kernel_rfl) (by kernel_rfl) (by kernel_rfl) (fun _ _ _ h => h) ⟨Or.inl ⟨by rfl, by intro w; go_simp⟩, fun _ => rfl⟩ ?_
      go_simp
      refine wpAnyIn_take (i := 12) (v := .int .i64 first) rfl rfl (by kernel_rfl) (by kernel_rfl) (by kernel_rfl) (fun _ _ _ h => h) ⟨Or.inl ⟨by rfl, by intro w; go_simp⟩, fun _ => rfl⟩ ?_
      go_simp
      refine wpAnyIn_take (i := 13) (v := .pointer (some ⟨b, 0, none⟩)) rfl rfl (by kernel_rfl) (by kernel_rfl) (by kernel_rfl) (fun _ _ _ h => h) ⟨Or.inl ⟨by rfl, by intro w; go_simp⟩, fun _ => rfl⟩ ?_
      go_simp
      refine wpAnyIn_take (i := 14) (v := .pointer (some ⟨b, 0, none⟩)) rfl rfl (by kernel_rfl) (by kernel_rfl) (by kernel_rfl) (fun _ _ _ h => h) ⟨Or.inl ⟨by rfl, by intro w; go_simp⟩, fun _ => rfl⟩ ?_
      go_simp
      refine wpAnyIn_take (i := 15) (v := .pointer (some ⟨b, 3, none⟩)) rfl rfl (by kernel_rfl) (by kernel_rfl) (by kernel_rfl) (fun _ _ _ h => h) ⟨Or.inl ⟨by rfl, by intro w; go_simp⟩, fun _ => rfl⟩ ?_
      go_simp
      refine wpAnyIn_take (i := 21) (v := .func (.yield l) #[] #[]) rfl rfl (by kernel_rfl) (by kernel_rfl) (by kernel_rfl) (fun _ _ _ h => h) ⟨Or.inl ⟨by rfl, by intro w; go_simp⟩, fun _ => rfl⟩ ?_
      go_simp
      refine wpAnyIn_here (i := 16) (v := .pointer (some ⟨b1, 0, none⟩)) [(11, .pointer a2)] [17, 18, 19, 20, 22, 23, 24] rfl rfl (by kernel_rfl) (by kernel_rfl) (by kernel_rfl) ⟨Or.inl ⟨by rfl, by go_simp⟩, by first | rfl | go_simp⟩ (by intro p hp; simp only [List.mem_cons, List.not_mem_nil, or_false] at hp; rcases hp with rfl <;> exact ⟨_, rfl, ⟨Or.inl ⟨by rfl, by go_simp⟩, by first | rfl | go_simp⟩⟩) ?_
      go_simp
      refine wpAnyIn_take (i := 17) (v := .pointer (some ⟨b1, 0, none⟩)) rfl rfl (by kernel_rfl) (by kernel_rfl) (by kernel_rfl) (fun _ _ _ h => h) ⟨Or.inl ⟨by rfl, by intro w; go_simp⟩, fun _ => rfl⟩ ?_
      go_simp
      refine wpAnyIn_take (i := 18) (v := .pointer (some ⟨b1, 0, none⟩)) rfl rfl (by kernel_rfl) (by kernel_rfl) (by kernel_rfl) (fun _ _ _ h => h) ⟨Or.inl ⟨by rfl, by intro w; go_simp⟩, fun _ => rfl⟩ ?_
      go_simp
      refine wpAnyIn_here (i := 19) (v := .int .i64 k) [(11, .pointer a2)] [20, 22, 23, 24] rfl rfl (by kernel_rfl) (by kernel_rfl) (by kernel_rfl) ⟨Or.inl ⟨by rfl, by go_simp⟩, by first | rfl | go_simp⟩ (by intro p hp; simp only [List.mem_cons, List.not_mem_nil, or_false] at hp; rcases hp with rfl <;> exact ⟨_, rfl, ⟨Or.inl ⟨by rfl, by go_simp⟩, by first | rfl | go_simp⟩⟩) ?_
      go_simp
      refine wpAnyIn_take (i := 20) (v := .int .i64 ((first : Int) + (k : Int))) rfl rfl (by kernel_rfl) (by kernel_rfl) (by kernel_rfl) (fun _ _ _ h => h) ⟨Or.inl ⟨by rfl, by intro w; go_simp⟩, fun _ => rfl⟩ ?_
      go_simp
      refine wpAnyIn_here (i := 11) (v := .pointer a2) [] [22, 23, 24] rfl rfl (by kernel_rfl) (by kernel_rfl) (by kernel_rfl) ⟨Or.inl ⟨by rfl, by go_simp⟩, by first | rfl | go_simp⟩ (fun p hp => by cases hp) ?_
      go_simp
      refine wpAnyIn_ready (rs := [22]) (by kernel_rfl) (by simp) ?_
      refine AllReadyIn.cons rfl (fun K hK => ?_) AllReadyIn.nil
      go_simp
      gi_wp2_with (first | (refine ⟨trivial, hdd _, ?_⟩; gi_at_call 56; refine (S2.out _ _ hJ2.out hk2).mono ?_; intro e' w3 HW; obtain ⟨r, rfl, HR3⟩ := HW.b; clear HW) | fail)
      rcases HR3.out with ⟨rfl, hk3, hJ3⟩ | ⟨rfl, hk3, hX3⟩
      · skip
        first | (go_simp; refine hK _ _ ?_; clear hK K; go_simp) | (refine hK _ _ ?_; clear hK K; go_simp) | go_simp
        refine wpAnyIn_take (i := 23) (v := .bool true) rfl rfl (by kernel_rfl) (by kernel_rfl) (by kernel_rfl) (fun _ _ _ h => h) ⟨Or.inl ⟨by rfl, by intro w; go_simp⟩, fun _ => rfl⟩ ?_
        go_simp
        refine wpAnyIn_take (i := 24) (v := .bool true) rfl rfl (by kernel_rfl) (by kernel_rfl) (by kernel_rfl) (fun _ _ _ h => h) ⟨Or.inl ⟨by rfl, by intro w; go_simp⟩, fun _ => rfl⟩ ?_
        go_simp
        refine wpAnyIn_done (by kernel_rfl) ?_ _
        gi_wp2
        go_ret
        exact .inl ⟨rfl, hk2.trans hk3, Lib.hid (by rw [HX.out, ← List.append_assoc]; exact hJ3.out)⟩
      · skip
        first | (go_simp; refine hK _ _ ?_; clear hK K; go_simp) | (refine hK _ _ ?_; clear hK K; go_simp) | go_simp
        refine wpAnyIn_take (i := 23) (v := .bool false) rfl rfl (by kernel_rfl) (by kernel_rfl) (by kernel_rfl) (fun _ _ _ h => h) ⟨Or.inl ⟨by rfl, by intro w; go_simp⟩, fun _ => rfl⟩ ?_
        go_simp
        refine wpAnyIn_take (i := 24) (v := .bool false) rfl rfl (by kernel_rfl) (by kernel_rfl) (by kernel_rfl) (fun _ _ _ h => h) ⟨Or.inl ⟨by rfl, by intro w; go_simp⟩, fun _ => rfl⟩ ?_
        go_simp
        refine wpAnyIn_done (by kernel_rfl) ?_ _
        gi_wp2
        go_ret
        exact .inr ⟨rfl, hk2.zero.trans hk3, Lib.hid (by obtain ⟨q', hq', j⟩ := hX3.out; exact ⟨p.list.zipIdx first ++ q', by rw [HX.out]; exact (List.prefix_append_right_inj _).2 hq', by rw [← List.append_assoc]; exact j⟩)⟩
    · have hk2 : KpC 0 n1 W w2 := (by first | exact (KpC.of_below ((Below.refl _ _).drew)).trans hk22 | exact hk22)
      first | (go_simp; refine hK _ _ ?_; clear hK K; go_simp) | (refine hK _ _ ?_; clear hK K; go_simp) | go_simp
      refine wpAnyIn_take (i := 7) (v := .bool false) rfl rfl (by kernel_rfl) (by kernel_rfl) (by kernel_rfl) (fun _ _ _ h => h) ⟨Or.inl ⟨by rfl, by intro w; go_simp⟩, fun _ => rfl⟩ ?_
      go_simp
      refine wpAnyIn_take (i := 8) (v := undef) rfl rfl (by kernel_rfl) (by kernel_rfl) (by kernel_rfl) (fun _ _ _ h => h) ⟨Or.inr ⟨by rfl, rfl⟩, fun _ => rfl⟩ ?_
      go_simp
      refine wpAnyIn_take (i := 9) (v := undef) rfl rfl (by kernel_rfl) (by kernel_rfl) (by kernel_rfl) (fun _ _ _ h => h) ⟨Or.inr ⟨by rfl, rfl⟩, fun _ => rfl⟩ ?_
      go_simp
      refine wpAnyIn_take (i := 10) (v := undef) rfl rfl (by kernel_rfl) (by kernel_rfl) (by kernel_rfl) (fun _ _ _ h => h) ⟨Or.inr ⟨by rfl, rfl⟩, fun _ => rfl⟩ ?_
      go_simp
      refine wpAnyIn_take (i := 11) (v := undef) rfl rfl (by kernel_rfl) (by kernel_rfl) (by kernel_rfl) (fun _ _ _ h => h) ⟨Or.inr ⟨by rfl, rfl⟩, fun _ => rfl⟩ ?_
      go_simp
      refine wpAnyIn_take (i := 12) (v := undef) rfl rfl (by kernel_rfl) (by kernel_rfl) (by kernel_rfl) (fun _ _ _ h => h) ⟨Or.inr ⟨by rfl, rfl⟩, fun _ => rfl⟩ ?_
      go_simp
      refine wpAnyIn_take (i := 13) (v := undef) rfl rfl (by kernel_rfl) (by kernel_rfl) (by kernel_rfl) (fun _ _ _ h => h) ⟨Or.inr ⟨by rfl, rfl⟩, fun _ => rfl⟩ ?_
      go_simp
      refine wpAnyIn_take (i := 14) (v := undef) rfl rfl (by kernel_rfl) (by kernel_rfl) (by kernel_rfl) (fun _ _ _ h => h) ⟨Or.inr ⟨by rfl, rfl⟩, fun _ => rfl⟩ ?_
      go_simp
      refine wpAnyIn_take (i := 15) (v := undef) rfl rfl (by kernel_rfl) (by kernel_rfl) (by kernel_rfl) (fun _ _ _ h => h) ⟨Or.inr ⟨by rfl, rfl⟩, fun _ => rfl⟩ ?_
      go_simp
      refine wpAnyIn_take (i := 16) (v := undef) rfl rfl (by kernel_rfl) (by kernel_rfl) (by kernel_rfl) (fun _ _ _ h => h) ⟨Or.inr ⟨by rfl, rfl⟩, fun _ => rfl⟩ ?_
      go_simp
      refine wpAnyIn_take (i := 17) (v := undef) rfl rfl (by kernel_rfl) (by kernel_rfl) (by kernel_rfl) (fun _ _ _ h => h) ⟨Or.inr ⟨by rfl, rfl⟩, fun _ => rfl⟩ ?_
      go_simp
      refine wpAnyIn_take (i := 18) (v := undef) rfl rfl (by kernel_rfl) (by kernel_rfl) (by kernel_rfl) (fun _ _ _ h => h) ⟨Or.inr ⟨by rfl, rfl⟩, fun _ => rfl⟩ ?_
      go_simp
      refine wpAnyIn_take (i := 19) (v := undef) rfl rfl (by kernel_rfl) (by kernel_rfl) (by kernel_rfl) (fun _ _ _ h => h) ⟨Or.inr ⟨by rfl, rfl⟩, fun _ => rfl⟩ ?_
      go_simp
      refine wpAnyIn_take (i := 20) (v := undef) rfl rfl (by kernel_rfl) (by kernel_rfl) (by kernel_rfl) (fun _ _ _ h => h) ⟨Or.inr ⟨by rfl, rfl⟩, fun _ => rfl⟩ ?_
      go_simp
      refine wpAnyIn_take (i := 21) (v := undef) rfl rfl (by kernel_rfl) (by kernel_rfl) (by kernel_rfl) (fun _ _ _ h => h) ⟨Or.inr ⟨by rfl, rfl⟩, fun _ => rfl⟩ ?_
      go_simp
      refine wpAnyIn_ready (rs := [22]) (by kernel_rfl) (by simp) ?_
      refine AllReadyIn.cons rfl (fun K hK => ?_) AllReadyIn.nil
      go_simp
      first | (refine hK _ _ ?_; clear hK K) | (refine ⟨by first | trivial | (intros; trivial), hK _ _ ?_⟩; clear hK K)
      go_simp
      refine wpAnyIn_take (i := 23) (v := .bool false) rfl rfl (by kernel_rfl) (by kernel_rfl) (by kernel_rfl) (fun _ _ _ h => h) ⟨Or.inl ⟨by rfl, by intro w; go_simp⟩, fun _ => rfl⟩ ?_
      go_simp
      refine wpAnyIn_take (i := 24) (v := .bool false) rfl rfl (by kernel_rfl) (by kernel_rfl) (by kernel_rfl) (fun _ _ _ h => h) ⟨Or.inl ⟨by rfl, by intro w; go_simp⟩, fun _ => rfl⟩ ?_
      go_simp
      refine wpAnyIn_done (by kernel_rfl) ?_ _
      gi_wp2
      go_ret
      exact .inr ⟨rfl, hk2, Lib.hid (by obtain ⟨q', hq', j⟩ := hX2.out; exact ⟨q', by rw [HX.out]; exact hq'.trans (List.prefix_append _ _), j⟩)⟩
end Go.Proofs.Ytamcobncfbjdmaa

namespace Go.Proofs.Ytamcobncfbjdmaa
open Go.RowKit Go.Shelf
attribute [local go_sem] Oper.semAt_some

attribute [local go_sem] neqFI

set_option maxRecDepth 100000 in
set_option maxHeartbeats 3200000 in
theorem all1P_seq (n n0 n1 bt : Nat) (a : Option Addr) (o : Option (Rp Int)) (W0 w0 : World) (hn0 : W0.heap.size ≤ n0) (hbs : bt < w0.heap.size) (hN : On encI W0 a o) (hL : ∀ t, o = some t → t.Lv) (hm : (listO o).length ≤ 1000000)
    (hk : KpC n0 n1 W0 w0) (hn : n1 ≤ w0.heap.size) (hc : w0.cell? ⟨bt, 0, none⟩ = some (.pointer a)) :
    SeqP Fence.wide n Try.prog 55 #[.pointer (some ⟨bt, 0, none⟩)] (fun p : Int × Nat => #[.int .i64 p.2, encI p.1]) n0 n1 (fun xs => xs = (listO o).zipIdx) (fun pre => pre <+: (listO o).zipIdx) ((listO o).zipIdx) w0 := by
  intro l J Jx W hb hJ hJx hY hj
  have c0 : W.cell? ⟨bt, 0, none⟩ = some (.pointer a) := (hb.cell (p := ⟨bt, 0, none⟩) hbs).trans hc
  have hdd : ∀ k : Nat, (Fence.wide.depth.isSome = true → 1 ≤ k) := fun k h => by cases h
  have hk2 : KpC n0 n1 W0 W := hk.trans (KpC.of_below hb)
  have hn2 : n1 ≤ W.heap.size := Nat.le_trans hn hb.size
  show CallsIn Fence.wide n Try.prog 55 #[.func (.yield l) #[] #[], .pointer (some ⟨bt, 0, none⟩)] W _
  cases o with
  | none =>
    obtain rfl : a = none := hN
    have HJ := Lib.hid hj
    clear hY hj hJ hJx hk hk2 hb
    refine callsIn_of_wp Try.func55 rfl trivial ?_ rfl
    simp only [Try.ntmps55, List.size_toArray, List.length_cons, List.length_nil, Nat.reduceAdd, Nat.reduceSub, Array.replicate_succ, Array.replicate_zero, List.push_toArray, List.append_toArray, List.nil_append, List.cons_append]
    gi_wp2
    first | go_end0 | refine bodyPost_ret (v := .tuple #[]) (by simp [results, Try.f55, go_sem]) rfl ?_
    exact ⟨⟨_, rfl⟩, .inl (by first | exact ⟨_, rfl, HJ.out⟩ | exact HJ.out)⟩
  | some t =>
    have HF := Lib.hid (forthP_in l n0 n1 W.heap.size W.heap.size (t.list.zipIdx) W0 hn0 J Jx hJ.abides (fun m pre i x W' hj' hl' => hY m pre (x, i) W' hj' hl') t (n - 1) a 0 [] W hN (hL t rfl) hk2 hn2 hj (by rw [List.nil_append]; exact List.prefix_refl _) (by have : t.list.length ≤ 1000000 := hm; omega))
    obtain ⟨b1, rfl, hb1, _⟩ := Nd.head hN
    clear hY hj hJ hJx hk hk2 hb hN hL hm
    refine callsIn_of_wp Try.func55 rfl trivial ?_ rfl
    simp only [Try.ntmps55, List.size_toArray, List.length_cons, List.length_nil, Nat.reduceAdd, Nat.reduceSub, Array.replicate_succ, Array.replicate_zero, List.push_toArray, List.append_toArray, List.nil_append, List.cons_append]
    gi_wp2_with (first
      | (refine ⟨trivial, hdd _, ?_⟩; gi_at_call 56; refine HF.out.mono ?_; intro e' w2 HW; obtain ⟨r, rfl, HR⟩ := HW.b; clear HW)
      | fail)
    first | go_end0 | refine bodyPost_ret (v := .tuple #[]) (by simp [results, Try.f55, go_sem]) rfl ?_
    rcases HR.out with ⟨rfl, hk22, hJ2⟩ | ⟨rfl, hk22, hX2⟩
    · exact ⟨⟨_, rfl⟩, .inl ⟨_, rfl, by have := hJ2.out; rwa [List.nil_append] at this⟩⟩
    · obtain ⟨q', hq', j⟩ := hX2.out
      exact ⟨⟨_, rfl⟩, .inr ⟨q', hq', by rwa [List.nil_append] at j⟩⟩
end Go.Proofs.Ytamcobncfbjdmaa

namespace Go.Proofs.Ytamcobncfbjdmaa
open Go.RowKit

set_option maxHeartbeats 3200000 in
set_option maxRecDepth 100000 in
theorem pfromK_any (t : Rp Int) (i : Nat) (a : Option Addr) (n0 n1 : Nat) (W0 w : World) (hn0 : W0.heap.size ≤ n0) (hk : KpC n0 n1 W0 w) (hN : Nd encI W0 a t) (hL : t.Lv) (hi : i < t.list.length) (hm : t.list.length ≤ 1000000) :
    Calls Try.prog 59 #[.pointer a, .int .i64 i] w (fun r w' => ∃ e k m c, r = .returned (.slice (some ⟨e, k, none⟩) m c) ∧ 1 ≤ m ∧ m ≤ c ∧ m + i ≤ t.list.length ∧ e < W0.heap.size ∧ Hid (∀ j y, j < m → t.list[i + j]? = some y → W0.cell? ⟨e, k + j, none⟩ = some (encI y)) ∧ Hid (Below w.heap.size w w')) := by
  have HN := Lib.hid hN
  have HL := Lib.hid hL
  have HK := Lib.hid hk
  clear hN hL hk
  go_enter Try.func59, Try.ntmps59
  go_wp2
  go_loopg [0, 1] t.depth (fun g v0 v1 wr => ∃ (a' : Option Addr) (t' : Rp Int) (i' : Nat), v0 = .pointer a' ∧ v1 = .int .i64 i' ∧ wr = w ∧ Hid (Nd encI W0 a' t') ∧ Hid t'.Lv ∧ i' < t'.list.length ∧ t'.depth ≤ g ∧ t'.list.length ≤ 1000000 ∧ t'.list.length + i ≤ t.list.length + i' ∧ Hid (∀ j, i' + j < t'.list.length → t.list[i + j]? = t'.list[i' + j]?))
  case atStart => exact ⟨a, t, i, rfl, rfl, rfl, HN, HL, hi, Nat.le_refl _, hm, Nat.le_refl _, Lib.hid fun _ _ => rfl⟩
  case round =>
    obtain ⟨a', t', i', rfl, rfl, rfl, HN', HL', hi', hg, hm', hle, HJ⟩ := hrel
    cases t' with
    | leaf l =>
      have C1 := Lib.hid (pleafpI_any a' l _ (HN'.out.kp HK.out hn0))
      obtain ⟨b, e, rfl, c0', c2', he, hl⟩ := HN'.out.leaf2
      have hbl : b < W0.heap.size := by obtain ⟨b', hb', h1', _⟩ := HN'.out.head; cases hb'; exact h1'
      have c0 := HK.out.cell (p := ⟨b, 0, none⟩) (.inl (Nat.lt_of_lt_of_le hbl hn0)) c0'
      have c2 := HK.out.cell (p := ⟨b, 2, none⟩) (.inl (Nat.lt_of_lt_of_le hbl hn0)) c2'
      clear c0' c2'
      have h16 := HL'.out.2
      obtain ⟨n, hn⟩ : ∃ n, n = l.length := ⟨_, rfl⟩
      have hi2 : i' < n := by rw [hn]; exact hi'
      have hle2 : n + i ≤ t.list.length + i' := by rw [hn]; exact hle
      have HNN := Lib.hid hn
      rw [← hn] at c0 h16
      have C2 := Lib.hid (plistI_any b e n _ c0 c2 h16)
      have hni : (i' : Int) ≤ (n : Int) := by omega
      have hi0 : (0 : Int) ≤ (i' : Int) := by omega
      have hn16 : (n : Int) ≤ 16 := by omega
      have h16i : ¬ 16 = i' := by omega
      clear hn hi' hle hm' c0 c2
      go_wp2_with (first | (go_at_call 79; refine C1.out.mono ?_; rintro r w1 ⟨rfl, rfl⟩) | fail)
      go_wp2_with (first | (go_at_call 80; refine C2.out.mono ?_; rintro r w1 ⟨rfl, hb1⟩) | fail)
      go_ret
      refine ⟨e, i', n - i', 16 - i', by simp, by omega, by omega, by omega, he, Lib.hid fun j y hj hy => ?_, Lib.hid hb1⟩
      have hlen := HNN.out
      refine hl.out (i' + j) y ?_
      rw [← hy]
      exact (HJ.out j (by show i' + j < l.length; omega)).symm
    | fork p q =>
      have C1 := Lib.hid (pforkpI_any a' p q _ (HN'.out.kp HK.out hn0))
      obtain ⟨b, a1, a2, rfl, c2', c3', c4', hp, hq⟩ := HN'.out.fork2
      have hbl : b < W0.heap.size := by obtain ⟨b', hb', h1', _⟩ := HN'.out.head; cases hb'; exact h1'
      have c2 := HK.out.cell (p := ⟨b, 2, none⟩) (.inl (Nat.lt_of_lt_of_le hbl hn0)) c2'
      have c3 := HK.out.cell (p := ⟨b, 3, none⟩) (.inl (Nat.lt_of_lt_of_le hbl hn0)) c3'
      have c4 := HK.out.cell (p := ⟨b, 4, none⟩) (.inl (Nat.lt_of_lt_of_le hbl hn0)) c4'
      obtain ⟨b1, rfl, hb1, d0', _⟩ := hp.head
      have d0 := HK.out.cell (p := ⟨b1, 0, none⟩) (.inl (Nat.lt_of_lt_of_le hb1 hn0)) d0'
      clear c2' c3' c4' d0'
      have HP := Lib.hid hp
      have HQ := Lib.hid hq
      obtain ⟨n, hn⟩ : ∃ n, n = p.list.length := ⟨_, rfl⟩
      rw [← hn] at d0
      have HNN := Lib.hid hn
      clear hp hq
      rw [Rp.list, List.length_append, ← hn] at hi' hm' hle
      have hdp : p.depth + 1 ≤ gk := by have := hg; rw [Rp.depth] at this; omega
      have hdq : q.depth + 1 ≤ gk := by have := hg; rw [Rp.depth] at this; omega
      clear hn hg
      by_cases hlt : i' < n
      · have hli : (i' : Int) < (n : Int) := by omega
        go_wp2_with (first | (go_at_call 79; refine C1.out.mono ?_; rintro r w1 ⟨rfl, rfl⟩) | fail)
        go_roundg p.depth
        case measure => omega
        case rel =>
          have e := HNN.out
          exact ⟨_, p, i', rfl, rfl, rfl, HP, Lib.hid HL'.out.1, by omega, Nat.le_refl _, by omega, by omega, Lib.hid fun j hj => by
            rw [HJ.out j (by rw [Rp.list, List.length_append]; omega), Rp.list, List.getElem?_append_left hj]⟩
      · have hli : ¬ (i' : Int) < (n : Int) := by omega
        have hwr : IntKind.i64.wrap ((i' : Int) - (n : Int)) = ((i' - n : Nat) : Int) := by rw [IntWalk.i64_in _ (by omega)]; omega
        go_wp2_with (first | (go_at_call 79; refine C1.out.mono ?_; rintro r w1 ⟨rfl, rfl⟩) | fail)
        go_roundg q.depth
        case measure => omega
        case rel =>
          have e := HNN.out
          exact ⟨_, q, i' - n, rfl, rfl, rfl, HQ, Lib.hid HL'.out.2, by omega, Nat.le_refl _, by omega, by omega, Lib.hid fun j hj => by
            rw [HJ.out j (by rw [Rp.list, List.length_append]; omega), Rp.list, List.getElem?_append_right (by omega), ← e]
            congr 1
            omega⟩
end Go.Proofs.Ytamcobncfbjdmaa

namespace Go.Proofs.Ytamcobncfbjdmaa
open Go

def noDefer (ops : Array Oper) : Bool := ops.all fun o => match o.op with
  | .defer _ => false
  | _ => true

variable {F : Fence} {n : Nat} {P : Program} {ops : Array Oper} {Q : Exit → Act → World → Prop} {md : Region.Mode}

theorem wpOpIn_round (l : Nat) (hro : F.round = none) (hd : noDefer ops = true) (i : Nat) (K : Act → World → Prop) (a : Act) (w : World) (h : wpOpIn F n P ops Q i K a w) : wpOpIn (F.inRound l) n P ops Q i K a w := by
  unfold Go.wpOpIn at h ⊢
  cases hi : ops[i]? with
  | none => simp only [hi] at h ⊢; exact h
  | some o =>
    simp only [hi] at h ⊢
    have hno : ∀ ρ, o.semAt (some l) ρ = o.semAt none ρ := fun ρ => by
      have := Array.all_eq_true'.1 hd o (Array.mem_of_getElem? hi)
      unfold Oper.semAt
      split
      · next h => rw [h] at this; cases this
      · rfl
    split at h
    · next hw =>
      rw [if_pos hw]
      unfold Oper.wpIn at h ⊢
      rw [hro] at h
      rw [Fence.inRound_round, hno]
      exact h
    · next hw => rw [if_neg hw]; exact h

theorem wpAnyIn_round (l : Nat) (hro : F.round = none) (hd : noDefer ops = true) : ∀ (fuel : Nat) (listed : Array Bool) (a : Act) (w : World), wpAnyIn F n P md ops Q fuel listed a w → wpAnyIn (F.inRound l) n P md ops Q fuel listed a w
  | 0, _, _, _, h => h
  | fuel + 1, listed, a, w, h => ⟨h.1, fun i hi => by
      refine wpOpIn_round l hro hd i _ a w ?_
      exact wpOpIn_mono (fun a w h => wpAnyIn_round l hro hd fuel _ a w h) (h.2 i hi)⟩
end Go.Proofs.Ytamcobncfbjdmaa
