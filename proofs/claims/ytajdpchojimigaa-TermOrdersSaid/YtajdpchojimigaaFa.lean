/- The program's error of an expression. -/
import Derived.Test.YtajdpchojimigaaPo
import Derived.Test.YtajdpchojimigaaPr
namespace Go.Proofs.Ytajdpchojimigaa
open Go.RowKit Go.Shelf TmM
attribute [local go_sem] Oper.semAt_some

theorem KpC.setCell {n0 n1 : Nat} (W : World) {b j : Nat} (v : Value) (h0 : n0 ≤ b) (h1 : b < n1) : KpC n0 n1 W (W.setCell ⟨b, j, none⟩ v) :=
  ⟨(KeepsOthers.setCell W _ v).size, fun i _ hi ho _ => (Below.heap_setCell W ⟨b, j, none⟩ v i (by intro e; simp at e; omega)).trans ho⟩
theorem KpC.drew {n0 n1 : Nat} (W : World) : KpC n0 n1 W W.drew := ⟨Nat.le_refl _, fun _ _ _ h _ => h⟩

/-- a block of cells lies as it was laid. -/
def Blk (W : World) (B : Nat) (o : Obj) : Prop := W.heap[B]? = some o
theorem Blk.lt {W : World} {B : Nat} {o : Obj} (h : Blk W B o) : B < W.heap.size := (Array.getElem?_eq_some_iff.1 h).1
theorem Blk.new (W : World) (o : Obj) : Blk (W.alloc o) W.heap.size o := World.alloc_heap_new W _
theorem Blk.alloc {W : World} {B : Nat} {o : Obj} (h : Blk W B o) (o' : Obj) : Blk (W.alloc o') B o := ((World.grownBy_alloc W o' none).block B h.lt (by simp)).trans h
theorem Blk.other {W : World} {B : Nat} {o : Obj} (h : Blk W B o) {b j : Nat} (hne : B ≠ b) (v : Value) : Blk (W.setCell ⟨b, j, none⟩ v) B o := (Below.heap_setCell W ⟨b, j, none⟩ v B hne).trans h
theorem blk_own {β : Type} (B : Nat) (o : Obj) (hc : o.isCells = true) : Own (fun (_ : β) W => Blk W B o) := fun s X Y row hs hg hrow =>
  (hg.block B hs.lt (fun e' => by obtain ⟨o', ho, hc'⟩ := hrow B e'.symm; rw [show X.heap[B]? = _ from hs] at ho; cases ho; rw [hc] at hc'; cases hc')).trans hs

/-- the depth of the terms that have come. -/
def depE : List Ev → Int
  | [] => 0
  | x :: r => max ((x.lv : Int) + ownD x.k) (depE r)
theorem depE_snoc (l : List Ev) (x : Ev) : depE (l ++ [x]) = max (depE l) ((x.lv : Int) + ownD x.k) := by
  induction l with
  | nil =>
    have := (ownD_le x.k).1
    simp only [List.nil_append, depE]; omega
  | cons y r ih => simp only [List.cons_append, depE, ih]; omega
theorem depE_nonneg (l : List Ev) : 0 ≤ depE l := by
  induction l with
  | nil => simp [depE]
  | cons y r ih => simp only [depE]; omega
theorem depE_le {l : List Ev} : depE l ≤ 1000001 := by
  induction l with
  | nil => simp [depE]
  | cons y r ih => have := y.hl; have := (ownD_le y.k).2; simp only [depE]; omega

/-- the same of terms with their levels. -/
def depT : List (Nat × Int × ByteArray × Fo) → Int
  | [] => 0
  | x :: r => max ((x.1 : Int) + ownD x.2.1) (depT r)
theorem depT_er (l : List Ev) : depT (l.map Ev.er) = depE l := by
  induction l with
  | nil => rfl
  | cons y r ih => simp only [List.map_cons, depT, depE, ih]; rfl
theorem depT_app (l m : List (Nat × Int × ByteArray × Fo)) : depT (l ++ m) = max (depT l) (depT m) := by
  induction l with
  | nil =>
    have : 0 ≤ depT m := by cases m with
      | nil => simp [depT]
      | cons x r => induction r generalizing x with
        | nil => have := (ownD_le x.2.1).1; simp only [depT]; omega
        | cons y r ih => have := ih y; simp only [depT] at this ⊢; omega
    simp only [List.nil_append, depT]; omega
  | cons y r ih => simp only [List.cons_append, depT, ih]; omega
theorem depT_evs : ∀ (L : Nat) (f : Fo), depT (evs L f) = if f.len = 0 then 0 else (L : Int) + f.depth
  | _, .nil => rfl
  | L, .cons k t c r => by
    have h1 := depT_evs (L + 1) c
    have h2 := depT_evs L r
    rw [evs, show (L, k, t, c) :: (evs (L + 1) c ++ evs L r) = [(L, k, t, c)] ++ (evs (L + 1) c ++ evs L r) from rfl, depT_app, depT_app, h1, h2]
    have h0 : depT [(L, k, t, c)] = max ((L : Int) + ownD k) 0 := rfl
    rw [h0, if_neg (show ¬ (Fo.cons k t c r).len = 0 by simp)]
    have hz : ∀ g : Fo, g.len = 0 → g.depth = 0 := fun g hg => by cases g with
      | nil => rfl
      | cons _ _ _ _ => simp at hg
    have zc := hz c
    have zr := hz r
    simp only [Fo.depth, ownD]
    by_cases hk : k = 4 ∨ k = 8
    · have hd : Fo.deepens k c = true := by rcases hk with h | h <;> simp [Fo.deepens, h]
      rw [if_pos hk, hd, if_pos rfl]
      split <;> split <;> omega
    · rw [if_neg hk]
      have e4 : decide (k = 4) = false := decide_eq_false (fun h => hk (.inl h))
      have e8 : decide (k = 8) = false := decide_eq_false (fun h => hk (.inr h))
      by_cases hc : 0 < c.len
      · have hd : Fo.deepens k c = true := by simp [Fo.deepens, hc]
        rw [hd, if_pos rfl, if_neg (show ¬ c.len = 0 by omega)]
        split <;> omega
      · have hd : Fo.deepens k c = false := by simp only [Fo.deepens, e4, e8, decide_eq_false hc]; rfl
        rw [hd, if_neg (show ¬ false = true by simp), if_pos (show c.len = 0 by omega)]
        split <;> omega
theorem depE_all {xs : List Ev} {f : Fo} (h : xs.map Ev.er = evs 0 f) : depE xs = f.depth := by
  rw [← depT_er, h, depT_evs]
  split
  · rename_i h; cases f with
    | nil => rfl
    | cons _ _ _ _ => simp at h
  · simp
theorem len_all {xs : List Ev} {f : Fo} (h : xs.map Ev.er = evs 0 f) : xs.length = f.count := by
  rw [← evs_length 0 f, ← h, List.length_map]
theorem len_some {xs : List Ev} {f : Fo} (h : xs.map Ev.er <+: evs 0 f) : xs.length ≤ f.count := by
  have := h.length_le
  rwa [List.length_map, evs_length] at this

/-- whether a term may stand there. -/
def okT (most : Int) (x : Nat × Int × ByteArray × Fo) : Bool := rightB x.2.1 x.2.2.1 x.2.2.2 && decide (x.2.1 ≤ most)
def okE (most : Int) (x : Ev) : Bool := rightB x.k x.t x.c && decide (x.k ≤ most)
theorem form_evs (most : Int) : ∀ (L : Nat) (f : Fo), formB most f = (evs L f).all (okT most)
  | _, .nil => rfl
  | L, .cons k t c r => by
    rw [formB, form_evs most (L + 1) c, form_evs most L r, evs, List.all_cons, List.all_append]
    simp only [okT, Bool.and_assoc]
theorem ok_all {most : Int} {xs : List Ev} {f : Fo} (h : xs.map Ev.er = evs 0 f) : formB most f = xs.all (okE most) := by
  rw [form_evs most 0 f, ← h, List.all_map]; rfl
theorem ok_bad {most : Int} {xs : List Ev} {f : Fo} (h : xs.map Ev.er <+: evs 0 f) (hb : xs.all (okE most) = false) : formB most f = false := by
  obtain ⟨r, hr⟩ := h
  rw [form_evs most 0 f, ← hr, List.all_append, List.all_map]
  have : xs.all (okT most ∘ Ev.er) = false := hb
  rw [this]; rfl
end Go.Proofs.Ytajdpchojimigaa
