/- A range over a function whose iterator may lay loops of its own: the law of the statement, for iterators that keep all cells but the caller's own (KpC). -/
import Derived.Test.YtamcobncfbjdmaaRk
namespace Go.Proofs.Ytamcobncfbjdmaa
open Go.RowKit Go

/-- a function value held against nil. -/
theorem run_equalIn_func_nil {P : Program} (d : Nat) (t : TypeId) {ps rs : Array TypeId} {v : Bool} (f : Fn) (x y : Array Value) (w : World) (h : P.underlying t = some (.func ps rs v)) : (Op.equalIn (d + 1) t (.func f x y) .nilFunc).run P w = .ok false w := by
  simp [Op.equalIn, run_underlying h]
theorem run_neq_func_nil {P : Program} (t : TypeId) {ps rs : Array TypeId} {v : Bool} (f : Fn) (x y : Array Value) (w : World) (h : P.underlying t = some (.func ps rs v)) : (binOp .neq t (.func f x y) .nilFunc).run P w = .ok (.bool true) w := by
  have := run_equalIn_func_nil 9999 t f x y w h
  simp only [binOp]
  simp [Op.equal, Op.maxDepth, this]
theorem run_eql_func_nil {P : Program} (t : TypeId) {ps rs : Array TypeId} {v : Bool} (f : Fn) (x y : Array Value) (w : World) (h : P.underlying t = some (.func ps rs v)) : (binOp .eql t (.func f x y) .nilFunc).run P w = .ok (.bool false) w := by
  have := run_equalIn_func_nil 9999 t f x y w h
  simp only [binOp]
  simp [Op.equal, Op.maxDepth, this]

/-- what abides the turn of whatever block from B on. -/
def Frm {β : Type} (B : Nat) (J : β → World → Prop) : Prop := ∀ s W W' row, J s W → W.grownBy W' row → (∀ r, row = some r → B ≤ r) → J s W'
theorem Frm.abides {β : Type} {B : Nat} {J : β → World → Prop} (h : Frm B J) : AbidesFrom B J := fun s W W' row hs hg hr => h s W W' row hs hg (fun r e => (hr r e).1)
theorem Frm.mono {β : Type} {B B' : Nat} {J : β → World → Prop} (h : Frm B J) (hb : B ≤ B') : Frm B' J := fun s W W' row hs hg hr => h s W W' row hs hg (fun r e => Nat.le_trans hb (hr r e))
theorem Frm.alloc {β : Type} {B : Nat} {J : β → World → Prop} (h : Frm B J) {s : β} {W : World} (o : Obj) (hs : J s W) : J s (W.alloc o) := h s W _ none hs (World.grownBy_alloc W o none) (fun r e => by cases e)
theorem Frm.putObj {β : Type} {B : Nat} {J : β → World → Prop} (h : Frm B J) {s : β} {W : World} {l : Nat} (o' : Obj) (hs : J s W) (hB : B ≤ l) : J s (W.putObj l o') := h s W _ (some l) hs (grownBy_putObj' W l o') (fun r e => by cases e; exact hB)
theorem Frm.setCell {β : Type} {B : Nat} {J : β → World → Prop} (h : Frm B J) {s : β} {W : World} {l : Nat} (v : Value) (hs : J s W) (hB : B ≤ l) : J s (W.setCell ⟨l, 0, none⟩ v) := h s W _ (some l) hs (grownBy_setCell' W l v) (fun r e => by cases e; exact hB)
theorem Frm.below {β : Type} {B : Nat} {J : β → World → Prop} (h : Frm B J) {s : β} {W W' : World} (hs : J s W) (hb : Below W.heap.size W W') : J s W' := h s W W' none hs ⟨hb.os, hb.tape, hb.output, hb.size, fun k hk _ => hb.block k hk⟩ (fun r e => by cases e)
theorem boxed_frm {β : Type} {B C : Nat} (hC : C < B) (t : TypeId) (f : β → Value) : Frm B (fun s W => Boxed W C t (f s)) := fun _ _ _ _ hs hg hr => hs.kept hg (fun e => by have := hr C e.symm; omega)

/-- the contract of an iterator, at invariants that abide the turn of whatever block of its own that holds no cells. -/
def SeqO {α : Type} (F : Fence) (n : Nat) (P : Program) (g : Nat) (lb : Array Value) (encs : α → Array Value) (n0 n1 : Nat) (S Sp : List α → Prop) (N : Nat) (w : World) : Prop :=
  ∀ (l : Nat) (J Jx : List α → World → Prop) (W : World), Below w.heap.size w W → Frm W.heap.size J → Frm W.heap.size Jx →
    (∀ m pre x W1, J pre W1 → pre.length < N → YieldAt F m P l (encs x) W1 (YieldOut n0 n1 W.heap.size J Jx pre x W1)) → J [] W →
    CallsIn F n P g (#[.func (.yield l) #[] #[]] ++ lb) W fun e W' => (∃ v, e = .returned v) ∧ ((∃ xs, S xs ∧ J xs W') ∨ (∃ pre, Sp pre ∧ Jx pre W'))

/-- how a body is left. -/
def bodyOut {α : Type} (B n0 n1 : Nat) (I : List α → World → Prop) (Ix : Code → List α → World → Prop) (xs : List α) (W : World) : Exit → Act → World → Prop
  | .normal, _, W' => KeepsFrom B W W' ∧ KpC n0 n1 W W' ∧ I xs W'
  | .ret, _, W' => KeepsFrom B W W' ∧ KpC 0 n1 W W' ∧ Ix .ret xs W'
  | .exit id, _, W' => KeepsFrom B W W' ∧ KpC 0 n1 W W' ∧ Ix (.exit id) xs W'
  | _, _, _ => False

variable {F : Fence} {n : Nat} {P : Program}

theorem range_own {α : Type} {g : Operand} {ps : Array Tmp} {assign body : Code} {Q : Exit → Act → World → Prop} {a : Act} {w : World}
    (hro : F.round = none) (hd : F.depth = none) (h1 : 1 ≤ n) {gf : Nat} {lb : Array Value} (hg : a.eval g = .func (.func gf) #[] lb) (hFg : F.fn gf) (eg : ∀ args w, (callFunc gf args).run P w = .ok (.enter gf args) w)
    {encs : α → Array Value} {n0 n1 : Nat} {S Sp : List α → Prop} {N : Nat} (hseq : SeqO F (n - 1) P gf lb encs n0 n1 S Sp N w) (hps : ∀ x, (encs x).size = ps.size)
    (I : List α → World → Prop) (Ix : Code → List α → World → Prop) (hI : Frm w.heap.size I) (hIx : ∀ c, Frm w.heap.size (Ix c)) (h0 : I [] w) (av : α → Act)
    (hassign : ∀ (l m : Nat) (x : α) (W : World) (K : Act → World → Prop), K (av x) W → assign.wpIn (F.inRound l) m P (Exit.then K (fun _ _ _ => False)) { tmps := (ps.zip (encs x)).foldl (fun t (p, v) => t.setIfInBounds p v) a.tmps, defers := [] } W)
    (hbody : ∀ (l m : Nat) (pre : List α) (x : α) (W : World), I pre W → pre.length < N → body.wpIn (F.inRound l) m P (bodyOut w.heap.size n0 n1 I Ix (pre ++ [x]) W) (av x) W)
    (hdone : ∀ (D : Nat) (xs : List α) (W : World), w.heap.size ≤ D → S xs → I xs W → W.heap[D]? = some (.deferred (some [])) → Q .normal { a with defers := { target := .collected D, args := #[] } :: a.defers } W)
    (hstop : ∀ (D : Nat) (c : Code) (pre : List α) (W : World), w.heap.size ≤ D → Sp pre → Ix c pre W → W.heap[D]? = some (.deferred (some [])) → c.wpIn F n P Q { a with defers := { target := .collected D, args := #[] } :: a.defers } W) :
    (Code.rangeFunc g ps assign body).wpIn F n P Q a w := by
  refine wpIn_rangeFunc fun fn hfn => ?_
  rw [hro]
  -- the record of this loop, in a state and with a pending jump
  obtain ⟨R, hR⟩ : ∃ R : LoopState → Option Code → Loop, R = fun st pe => { state := st, pending := pe, fn, tmps := a.tmps, params := ps, assign, body, defers := w.heap.size } := ⟨_, rfl⟩
  obtain ⟨D, hD⟩ : ∃ D, D = w.heap.size := ⟨_, rfl⟩
  obtain ⟨V, hV⟩ : ∃ V, V = (w.alloc (.deferred (some []))).alloc (.loop (R .ready none)) := ⟨_, rfl⟩
  have vl : V.heap[D + 1]? = some (.loop (R .ready none)) := by
    have := World.alloc_heap_new (w.alloc (.deferred (some []))) (.loop (R .ready none))
    rw [World.size_alloc] at this
    rw [hV, hD]
    exact this
  have vk : V.heap[D]? = some (.deferred (some [])) := by
    rw [hV, hD]
    exact (Below.heap_alloc _ _ _ (by simp)).trans (World.alloc_heap_new w _)
  have vs : D + 1 < V.heap.size := (Array.getElem?_eq_some_iff.1 vl).1
  have vi : I [] V := by rw [hV]; exact hI.alloc _ (hI.alloc _ h0)
  have vb : Below w.heap.size w V := by rw [hV]; exact ((Below.refl _ w).alloc (Nat.le_refl _) _).alloc (by simp) _
  -- what stays of the books
  have keep : ∀ {i : Nat} {o : Obj} {A B : World} {row : Option Nat}, A.heap[i]? = some o → i < V.heap.size → A.grownBy B row → (∀ r, row = some r → V.heap.size ≤ r) → B.heap[i]? = some o := fun hi hlt hg' hr =>
    (hg'.block _ (Array.getElem?_eq_some_iff.1 hi).1 (fun e => by have := hr _ e.symm; omega)).trans hi
  have low : ∀ {row : Option Nat}, (∀ r, row = some r → V.heap.size ≤ r) → (∀ r, row = some r → w.heap.size ≤ r) := fun hr r e => by have := hr r e; omega
  have turn : ∀ (st st' : LoopState) (pe pe' : Option Code) (X : World), X.heap[D + 1]? = some (.loop (R st pe)) → X.heap[D]? = some (.deferred (some [])) →
      (X.putObj (D + 1) (.loop (R st' pe'))).heap[D + 1]? = some (.loop (R st' pe')) ∧ (X.putObj (D + 1) (.loop (R st' pe'))).heap[D]? = some (.deferred (some [])) := fun _ _ _ _ X hl hk =>
    ⟨World.putObj_heap_same (Array.getElem?_eq_some_iff.1 hl).1, (World.putObj_heap_other (by omega)).trans hk⟩
  refine ⟨D + 1, [{ target := .collected D, args := #[] }], V, { target := .fn (.func gf) lb, args := #[.func (.yield (D + 1)) #[] #[]] }, V, gf, #[.func (.yield (D + 1)) #[] #[]] ++ lb, V, ?_, ?_, ?_, ?_, fun _ => h1, ?_⟩
  · rw [hV, hR, hD]; exact run_enterLoop_outer _ _ _ _ _
  · simp only [resolve, hg]
    simp [go_sem]
  · intro f' hf'
    simp [Target.leads] at hf'
    subst hf'
    exact hFg
  · simp [invoke, go_sem, eg]
  refine (hseq (D + 1) (fun pre W => I pre W ∧ W.heap[D + 1]? = some (.loop (R .ready none)) ∧ W.heap[D]? = some (.deferred (some [])))
    (fun pre W => ∃ c, Ix c pre W ∧ W.heap[D + 1]? = some (.loop (R .done (some c))) ∧ W.heap[D]? = some (.deferred (some []))) V vb
    (fun s A B row hs hg' hr => ⟨hI s A B row hs.1 hg' (low hr), keep hs.2.1 vs hg' hr, keep hs.2.2 (by omega) hg' hr⟩)
    (fun s A B row hs hg' hr => by
      obtain ⟨c, hc, hl, hk⟩ := hs
      exact ⟨c, hIx c s A B row hc hg' (low hr), keep hl vs hg' hr, keep hk (by omega) hg' hr⟩) ?round ⟨vi, vl, vk⟩).mono ?behind
  case round =>
    rintro m pre x W ⟨hi, hl, hk⟩ hlen
    have hlt := (Array.getElem?_eq_some_iff.1 hl).1
    have hy := run_yield (P := P) (args := encs x) hl (by rw [hR]; exact hps x)
    refine YieldAt.anyDepth hd m (m := n - 1 - 1) ?_
    rw [hR] at hy
    refine ⟨fn, _, assign, body, hy, roundIn_of_wpIn hfn (hassign _ _ x W _ ?_)⟩
    obtain ⟨b1, b2⟩ := turn .ready .busy none none W hl hk
    refine ⟨_, run_beginRound hl (by rw [hR]), ?_⟩
    have hbw : (W.putObj (D + 1) (.loop { R .ready none with state := .busy })) = W.putObj (D + 1) (.loop (R .busy none)) := by rw [hR]
    rw [hbw]
    refine wpIn_mono (hbody _ _ pre x _ (hI.putObj _ hi (by omega)) hlen) ?_
    have fin : ∀ (jump : Option Code) (X : World), KeepsFrom w.heap.size (W.putObj (D + 1) (.loop (R .busy none))) X → ∃ r, X.heap[D + 1]? = some (.loop (R .busy none)) ∧ r = (if jump.isNone then LoopState.ready else .done) ∧
        (Instr.endRound (D + 1) jump).run P X = .ok (.bool jump.isNone) (X.putObj (D + 1) (.loop (R r jump))) ∧ (X.putObj (D + 1) (.loop (R r jump))).heap[D + 1]? = some (.loop (R r jump)) ∧ (X.putObj (D + 1) (.loop (R r jump))).heap[D]? = some (.deferred (some [])) := fun jump X hX => by
      have x1 := hX.same _ _ (by omega) b1 rfl
      have x2 := hX.same _ _ (by omega) b2 rfl
      have he := run_endRound (P := P) jump x1
      refine ⟨_, x1, rfl, ?_, turn .busy _ none jump X x1 x2⟩
      rw [hR] at he ⊢
      exact he
    have kf : ∀ (X : World) (o o' : Obj), KeepsFrom w.heap.size (W.putObj (D + 1) o) X → KeepsFrom V.heap.size W (X.putObj (D + 1) o') := fun X o o' h => by
      refine ⟨?_, fun i p hi hp hc => ?_⟩
      · have := h.size
        simp at this ⊢
        exact this
      · exact (World.putObj_heap_other (by omega)).trans (h.same i p (by omega) ((World.putObj_heap_other (by omega)).trans hp) hc)
    rintro e a3 X hp
    cases e with
    | normal =>
      obtain ⟨hk3, hkp, hi3⟩ := hp
      obtain ⟨r, x1, rfl, hr, hl4, hk4⟩ := fin none X hk3
      exact ⟨_, _, hr, .inl ⟨rfl, ⟨hI.putObj _ hi3 (by omega), hl4, hk4⟩, ((KpC.putObj W _ _ _ hl rfl).trans hkp).trans (KpC.putObj X _ _ _ x1 rfl), kf _ _ _ hk3⟩⟩
    | ret =>
      obtain ⟨r, x1, rfl, hr, hl4, hk4⟩ := fin (some .ret) X hp.1
      exact ⟨_, _, hr, .inr ⟨rfl, ⟨.ret, (hIx _).putObj _ hp.2.2 (by omega), hl4, hk4⟩, ((KpC.putObj W _ _ _ hl rfl).trans hp.2.1).trans (KpC.putObj X _ _ _ x1 rfl), kf _ _ _ hp.1⟩⟩
    | exit id =>
      obtain ⟨r, x1, rfl, hr, hl4, hk4⟩ := fin (some (.exit id)) X hp.1
      exact ⟨_, _, hr, .inr ⟨rfl, ⟨.exit id, (hIx _).putObj _ hp.2.2 (by omega), hl4, hk4⟩, ((KpC.putObj W _ _ _ hl rfl).trans hp.2.1).trans (KpC.putObj X _ _ _ x1 rfl), kf _ _ _ hp.1⟩⟩
    | goto t => exact hp.elim
    | panic c => exact hp.elim
    | outgrown => exact hp.elim
  case behind =>
    rintro e X ⟨⟨v, rfl⟩, (⟨xs, hS, hi, hl, hk⟩ | ⟨pre, hSp, c, hi, hl, hk⟩)⟩
    · have he := run_endLoop (P := P) hl (by rw [hR]; simp)
      refine ⟨none, _, by rw [hR] at he; exact he, ?_⟩
      exact hdone D xs _ (by omega) hS (hI.putObj _ hi (by omega)) ((World.putObj_heap_other (by omega)).trans hk)
    · have he := run_endLoop (P := P) hl (by rw [hR]; simp)
      refine ⟨some c, _, by rw [hR] at he; exact he, ?_⟩
      exact hstop D c pre _ (by omega) hSp ((hIx c).putObj _ hi (by omega)) ((World.putObj_heap_other (by omega)).trans hk)
end Go.Proofs.Ytamcobncfbjdmaa
