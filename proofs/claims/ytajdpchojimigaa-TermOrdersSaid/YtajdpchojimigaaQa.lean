/- The parser's state in memory. -/
import Derived.Test.YtajdpchojimigaaBa
import Derived.WalkSmall
namespace Go.Proofs.Ytajdpchojimigaa
open Go.RowKit TmM

/-- a bracket that is open: its kind, its text, and its kids so far, a list of the call's own. -/
structure En where
  k : Int
  t : ByteArray
  kv : Value
  g : Fo
def En.cells (e : En) : List Value := [.int .i64 e.k, .string e.t, e.kv]
def flatE (E : List En) : List Value := E.flatMap En.cells
theorem flatE_len (E : List En) : (flatE E).length = E.length * 3 := by
  induction E with
  | nil => rfl
  | cons e E ih => simp only [flatE, List.flatMap_cons, List.length_append, List.length_cons] at ih ⊢; rw [ih]; simp [En.cells]; omega
theorem flatE_snoc (E : List En) (e : En) : flatE (E ++ [e]) = flatE E ++ e.cells := by simp [flatE]

theorem fo_nil {c : Fo} (h : c.len = 0) : c = .nil := by cases c with
  | nil => rfl
  | cons _ _ _ _ => simp at h

/-- blocks of the call's own that nobody will write. -/
def Free (n : Nat) (w : World) (p : Nat) (vo : Value) (E : List En) (b : Nat) : Prop := n ≤ b ∧ b < w.heap.size ∧ b ≠ p ∧ vo.ownBlock ≠ some b ∧ ∀ e ∈ E, e.kv.ownBlock ≠ some b

/-- block p is a parser at offset i of the text T, with the brackets E open. -/
structure PSt (n : Nat) (w : World) (p : Nat) (T : ByteArray) (i : Int) (vo : Value) (bad : Int) (E : List En) : Prop where
  le : n ≤ p
  cell : w.heap[p]? = some (.cells #[.string T, .int .i64 i, vo, .int .i64 bad] 89 (0, 0))
  row : w.ownsRow n 35 3 vo E.length (flatE E)
  apart : ∀ e ∈ E, ∀ b, e.kv.ownBlock = some b → vo.ownBlock ≠ some b
  pair : E.Pairwise (fun e e' => ∀ b, e.kv.ownBlock = some b → e'.kv.ownBlock ≠ some b)
  kids : ∀ e ∈ E, ∃ xs, w.ownsRow n 35 3 e.kv e.g.len xs ∧ RepsS (Free n w p vo E) w xs e.g

theorem row_ne {w : World} {B m : Nat} {v : Value} {xs : List Value} {p : Nat} {cs : Array Value} {fz : Nat × Nat} (h : w.ownsRow B 35 3 v m xs) (hp : w.heap[p]? = some (.cells cs 89 fz)) : v.ownBlock ≠ some p := by
  intro e
  rcases h.2 with ⟨rfl, _⟩ | ⟨g, cap, cur, rfl, _, hg, _⟩
  · cases e
  · cases e
    rw [hp] at hg
    simp at hg

theorem Free.mono {n p : Nat} {w w' : World} {vo : Value} {E : List En} (hs : w.heap.size ≤ w'.heap.size) {b : Nat} (h : Free n w p vo E b) : Free n w' p vo E b := ⟨h.1, Nat.lt_of_lt_of_le h.2.1 hs, h.2.2⟩

section
variable {n p : Nat} {w w1 : World} {T : ByteArray} {i bad : Int} {vo vo' : Value} {E : List En}

theorem PSt.lt (h : PSt n w p T i vo bad E) : p < w.heap.size := (Array.getElem?_eq_some_iff.1 h.cell).1
theorem PSt.size (h : PSt n w p T i vo bad E) : n ≤ w.heap.size := Nat.le_trans h.le (Nat.le_of_lt h.lt)
theorem PSt.c0 (h : PSt n w p T i vo bad E) : w.cell? ⟨p, 0, none⟩ = some (.string T) := by simp [World.cell?, h.cell]
theorem PSt.c1 (h : PSt n w p T i vo bad E) : w.cell? ⟨p, 1, none⟩ = some (.int .i64 i) := by simp [World.cell?, h.cell]
theorem PSt.c2 (h : PSt n w p T i vo bad E) : w.cell? ⟨p, 2, none⟩ = some vo := by simp [World.cell?, h.cell]
theorem PSt.c3 (h : PSt n w p T i vo bad E) : w.cell? ⟨p, 3, none⟩ = some (.int .i64 bad) := by simp [World.cell?, h.cell]
theorem PSt.fz (h : PSt n w p T i vo bad E) (j : Nat) : w.frozen? ⟨p, j, none⟩ = false := frozen_of_row w p j _ _ h.cell

/-- what changes no block of the parser's changes nothing. -/
theorem PSt.keep (h : PSt n w p T i vo bad E) (hs : w.heap.size ≤ w1.heap.size) (hw : ∀ b, n ≤ b → b < w.heap.size → w1.heap[b]? = w.heap[b]?) : PSt n w1 p T i vo bad E := by
  have hrow : ∀ {v : Value} {m : Nat} {xs : List Value}, w.ownsRow n 35 3 v m xs → w1.ownsRow n 35 3 v m xs := by
    intro v m xs h
    refine ⟨h.1, h.2.imp id ?_⟩
    rintro ⟨g, cap, cur, hv, hg, hh, r⟩
    exact ⟨g, cap, cur, hv, hg, (hw g hg (Array.getElem?_eq_some_iff.1 hh).1).trans hh, r⟩
  refine ⟨h.le, (hw p h.le h.lt).trans h.cell, hrow h.row, h.apart, h.pair, fun e he => ?_⟩
  obtain ⟨xs, h1, h2⟩ := h.kids e he
  exact ⟨xs, hrow h1, h2.mono (fun b hb => hb.mono hs) (fun b hb => hw b hb.1 hb.2.1)⟩
theorem PSt.later (h : PSt n w p T i vo bad E) (hb : Below w.heap.size w w1) : PSt n w1 p T i vo bad E := h.keep hb.size (fun b _ hl => hb.block b hl)

/-- a field of the parser is set. -/
theorem PSt.field (h : PSt n w p T i vo bad E) (j : Nat) (u : Value) : (w.setCell ⟨p, j, none⟩ u).heap[p]? = some (.cells (#[.string T, .int .i64 i, vo, .int .i64 bad].setIfInBounds j u) 89 (0, 0)) ∧
    (∀ {v : Value} {m : Nat} {xs : List Value}, w.ownsRow n 35 3 v m xs → (w.setCell ⟨p, j, none⟩ u).ownsRow n 35 3 v m xs) ∧ ∀ b, b ≠ p → (w.setCell ⟨p, j, none⟩ u).heap[b]? = w.heap[b]? := by
  refine ⟨heap_setCell_same w p j _ _ u h.cell, fun {v m xs} hr => ?_, fun b hb => Below.heap_setCell _ _ _ _ hb⟩
  exact ownsRow_setCell_other hr (row_ne hr h.cell) u
theorem PSt.setAt (h : PSt n w p T i vo bad E) (j : Int) : PSt n (w.setCell ⟨p, 1, none⟩ (.int .i64 j)) p T j vo bad E := by
  obtain ⟨h1, h2, h3⟩ := h.field 1 (.int .i64 j)
  refine ⟨h.le, h1, h2 h.row, h.apart, h.pair, fun e he => ?_⟩
  obtain ⟨xs, k1, k2⟩ := h.kids e he
  exact ⟨xs, h2 k1, k2.mono (fun b hb => hb.mono (by simp [World.setCell])) (fun b hb => h3 b hb.2.2.1)⟩
theorem PSt.setBad (h : PSt n w p T i vo bad E) (j : Int) : PSt n (w.setCell ⟨p, 3, none⟩ (.int .i64 j)) p T i vo j E := by
  obtain ⟨h1, h2, h3⟩ := h.field 3 (.int .i64 j)
  refine ⟨h.le, h1, h2 h.row, h.apart, h.pair, fun e he => ?_⟩
  obtain ⟨xs, k1, k2⟩ := h.kids e he
  exact ⟨xs, h2 k1, k2.mono (fun b hb => hb.mono (by simp [World.setCell])) (fun b hb => h3 b hb.2.2.1)⟩
end

section
variable {n p g cap : Nat} {w w1 : World} {T : ByteArray} {i bad : Int} {vo : Value} {E : List En} {e : En} {kv' : Value} {H : Fo} {xs news : List Value}

/-- where the innermost bracket lies. -/
theorem PSt.top (h : PSt n w p T i vo bad (E ++ [e])) : ∃ g cap, vo = .slice (some ⟨g, 0, none⟩) (E.length + 1) cap ∧ E.length + 1 ≤ cap ∧ cap ≤ maxLen ∧ n ≤ g ∧ w.cell? ⟨g, E.length * 3, none⟩ = some (.int .i64 e.k) ∧
    w.cell? ⟨g, E.length * 3 + 1, none⟩ = some (.string e.t) ∧ w.cell? ⟨g, E.length * 3 + 2, none⟩ = some e.kv ∧ ∀ j, w.frozen? ⟨g, j, none⟩ = false := by
  have hrow := h.row
  rw [flatE_snoc] at hrow
  simp only [List.length_append, List.length_cons, List.length_nil] at hrow
  rcases hrow.2 with ⟨_, h0⟩ | ⟨g, cap, cur, rfl, hb, _, hnc, hcm, _⟩
  · omega
  · have hc := fun j hj => hrow.cellAt j hj
    have hl := flatE_len E
    refine ⟨g, cap, rfl, hnc, hcm, hb, ?_, ?_, ?_, hrow.frozenAt⟩
    · rw [hc _ (by omega), List.getElem?_append_right (by omega), hl, Nat.sub_self]; rfl
    · rw [hc _ (by omega), List.getElem?_append_right (by omega), hl, show E.length * 3 + 1 - E.length * 3 = 1 by omega]; rfl
    · rw [hc _ (by omega), List.getElem?_append_right (by omega), hl, show E.length * 3 + 2 - E.length * 3 = 2 by omega]; rfl

/-- terms were appended to the kids of the innermost bracket. -/
theorem PSt.add (h : PSt n w p T i vo bad (E ++ [e])) (hv : vo = .slice (some ⟨g, 0, none⟩) (E.length + 1) cap) (hx : w.ownsRow n 35 3 e.kv e.g.len xs) (hr : RepsS (Free n w p vo (E ++ [e])) w xs e.g)
    (hn : RepsS (Free n w p vo (E ++ [e])) w news H) (ho : w1.ownsRow n 35 3 kv' (e.g.len + H.len) (xs ++ news)) (hg : w.grownBy w1 e.kv.ownBlock) (hat : kv'.ownBlock = e.kv.ownBlock ∨ kv'.ownBlock = some w.heap.size) :
    PSt n (w1.setCell ⟨g, E.length * 3 + 2, none⟩ kv') p T i vo bad (E ++ [⟨e.k, e.t, kv', e.g.app H⟩]) := by
  have hem : e ∈ E ++ [e] := by simp
  have hog : vo.ownBlock = some g := by rw [hv]; rfl
  have hglt : g < w.heap.size := (h.row.lt g hog).2
  have heg : e.kv.ownBlock ≠ some g := fun c => h.apart e hem g c hog
  have hpk : e.kv.ownBlock ≠ some p := row_ne hx h.cell
  have hpg : p ≠ g := fun c => row_ne h.row h.cell (by rw [hog, c])
  have hlt := h.lt
  have hsz : w.heap.size ≤ (w1.setCell ⟨g, E.length * 3 + 2, none⟩ kv').heap.size := by simp [World.setCell]; exact hg.size
  have hheap : ∀ b, b < w.heap.size → e.kv.ownBlock ≠ some b → b ≠ g → (w1.setCell ⟨g, E.length * 3 + 2, none⟩ kv').heap[b]? = w.heap[b]? :=
    fun b h1 h2 h3 => (Below.heap_setCell _ _ _ _ h3).trans (hg.block b h1 (fun c => h2 c.symm))
  have hrow1 := h.row.kept hg (.inr (by rw [hog]; exact fun c => heg c.symm))
  rw [hv] at hrow1
  simp only [List.length_append, List.length_cons, List.length_nil] at hrow1
  obtain ⟨hst, hgr⟩ := hrow1.stored (E.length * 3 + 2) kv'
  have hset : (flatE (E ++ [e])).set (E.length * 3 + 2) kv' = flatE (E ++ [⟨e.k, e.t, kv', e.g.app H⟩]) := by
    rw [flatE_snoc, flatE_snoc, List.set_append_right _ _ (by rw [flatE_len]; omega), flatE_len, show E.length * 3 + 2 - E.length * 3 = 2 by omega]
    rfl
  rw [hset] at hst
  have hkg : kv'.ownBlock ≠ some g := by
    rcases hat with c | c
    · rw [c]; exact heg
    · rw [c]; intro d; cases d; omega
  have hfree : ∀ b, Free n w p vo (E ++ [e]) b → Free n (w1.setCell ⟨g, E.length * 3 + 2, none⟩ kv') p vo (E ++ [⟨e.k, e.t, kv', e.g.app H⟩]) b := by
    rintro b ⟨f1, f2, f3, f4, f5⟩
    refine ⟨f1, Nat.lt_of_lt_of_le f2 hsz, f3, f4, fun x hx => ?_⟩
    rw [List.mem_append, List.mem_singleton] at hx
    rcases hx with hx | rfl
    · exact f5 x (by simp [hx])
    · rcases hat with c | c
      · rw [show (_ : Value) = kv' from rfl, c]; exact f5 e hem
      · rw [show (_ : Value) = kv' from rfl, c]; intro d; cases d; omega
  have hreps : ∀ b, Free n w p vo (E ++ [e]) b → (w1.setCell ⟨g, E.length * 3 + 2, none⟩ kv').heap[b]? = w.heap[b]? :=
    fun b hb => hheap b hb.2.1 (hb.2.2.2.2 e hem) (fun c => hb.2.2.2.1 (by rw [hog, c]))
  obtain ⟨hp1, _, hp2⟩ := List.pairwise_append.1 h.pair
  refine ⟨h.le, (hheap p hlt hpk hpg).trans h.cell, ?_, ?_, ?_, ?_⟩
  · rw [hv]; simpa using hst
  · intro x hx b hb
    rw [List.mem_append, List.mem_singleton] at hx
    rcases hx with hx | rfl
    · exact h.apart x (by simp [hx]) b hb
    · intro c; rw [hog] at c; cases c; exact hkg hb
  · refine List.pairwise_append.2 ⟨hp1, List.pairwise_singleton _ _, fun a ha x hx b hb c => ?_⟩
    rw [List.mem_singleton] at hx
    subst hx
    rcases hat with d | d
    · exact hp2 a ha e (by simp) b hb (d ▸ c)
    · obtain ⟨ys, hy, _⟩ := h.kids a (by simp [ha])
      rw [show (_ : Option Nat) = some w.heap.size from d] at c
      cases c
      exact Nat.lt_irrefl _ (hy.lt _ hb).2
  · intro x hx
    rw [List.mem_append, List.mem_singleton] at hx
    rcases hx with hx | rfl
    · obtain ⟨ys, hy, hz⟩ := h.kids x (by simp [hx])
      refine ⟨ys, ?_, hz.mono hfree hreps⟩
      have hne : x.kv.ownBlock = none ∨ x.kv.ownBlock ≠ e.kv.ownBlock := by
        cases hb : x.kv.ownBlock with
        | none => exact .inl rfl
        | some b => exact .inr (fun c => hp2 x hx e (by simp) b hb c.symm)
      have h1 := hy.kept hg hne
      exact ownsRow_setCell_other h1 (fun c => h.apart x (by simp [hx]) g c hog) _
    · refine ⟨xs ++ news, ?_, (RepsS.app hn hr).mono hfree hreps⟩
      rw [Fo.len_app]
      exact ownsRow_setCell_other ho hkg _

/-- a bracket is opened: what append left, its three cells, and the parser's list. -/
theorem PSt.push {vo' : Value} {k : Int} {t : ByteArray} (h : PSt n w p T i vo bad E) (hv : vo' = .slice (some ⟨g, 0, none⟩) (E.length + 1) cap) (hl : news.length = 3)
    (ho : w1.ownsRow n 35 3 vo' (E.length + 1) (flatE E ++ news)) (hg : w.grownBy w1 vo.ownBlock) (hat : vo'.ownBlock = vo.ownBlock ∨ vo'.ownBlock = some w.heap.size) :
    PSt n ((((w1.setCell ⟨g, E.length * 3, none⟩ (.int .i64 k)).setCell ⟨g, E.length * 3 + 1, none⟩ (.string t)).setCell ⟨g, E.length * 3 + 2, none⟩ (.slice none 0 0)).setCell ⟨p, 2, none⟩ vo') p T i vo' bad (E ++ [⟨k, t, .slice none 0 0, .nil⟩]) := by
  have hlt := h.lt
  have hog : vo'.ownBlock = some g := by rw [hv]; rfl
  have hpv : vo.ownBlock ≠ some p := row_ne h.row h.cell
  have hpg : p ≠ g := by
    rcases hat with c | c
    · intro d; subst d; exact hpv (c ▸ hog)
    · rw [hog] at c; cases c; omega
  obtain ⟨s1, _⟩ := (hv ▸ ho).stored (E.length * 3) (.int .i64 k)
  obtain ⟨s2, _⟩ := s1.stored (E.length * 3 + 1) (.string t)
  obtain ⟨s3, _⟩ := s2.stored (E.length * 3 + 2) (.slice none 0 0)
  have hset : (((flatE E ++ news).set (E.length * 3) (.int .i64 k)).set (E.length * 3 + 1) (.string t)).set (E.length * 3 + 2) (.slice none 0 0) = flatE (E ++ [⟨k, t, .slice none 0 0, .nil⟩]) := by
    match news, hl with
    | [a, b, c], _ =>
      rw [flatE_snoc, List.set_append_right _ _ (by rw [flatE_len]; omega), flatE_len, List.set_append_right _ _ (by rw [flatE_len]; omega), flatE_len, List.set_append_right _ _ (by rw [flatE_len]; omega), flatE_len, show E.length * 3 - E.length * 3 = 0 by omega, show E.length * 3 + 1 - E.length * 3 = 1 by omega, show E.length * 3 + 2 - E.length * 3 = 2 by omega]
      rfl
  rw [hset] at s3
  obtain ⟨W, hW⟩ : ∃ W, W = ((w1.setCell ⟨g, E.length * 3, none⟩ (.int .i64 k)).setCell ⟨g, E.length * 3 + 1, none⟩ (.string t)).setCell ⟨g, E.length * 3 + 2, none⟩ (.slice none 0 0) := ⟨_, rfl⟩
  rw [← hW] at s3 ⊢
  have hsz : w.heap.size ≤ W.heap.size := by rw [hW]; simp [World.setCell]; exact hg.size
  have hheap : ∀ b, b < w.heap.size → vo.ownBlock ≠ some b → b ≠ g → W.heap[b]? = w.heap[b]? := fun b h1 h2 h3 => by
    rw [hW, Below.heap_setCell _ _ _ _ h3, Below.heap_setCell _ _ _ _ h3, Below.heap_setCell _ _ _ _ h3]
    exact hg.block b h1 (fun c => h2 c.symm)
  have hpc : W.heap[p]? = some (.cells #[.string T, .int .i64 i, vo, .int .i64 bad] 89 (0, 0)) := (hheap p hlt hpv hpg).trans h.cell
  have hrow : ∀ {v : Value} {m : Nat} {ys : List Value}, W.ownsRow n 35 3 v m ys → (W.setCell ⟨p, 2, none⟩ vo').ownsRow n 35 3 v m ys := fun hr => ownsRow_setCell_other hr (row_ne hr hpc) _
  have hother : ∀ b, b ≠ p → (W.setCell ⟨p, 2, none⟩ vo').heap[b]? = W.heap[b]? := fun b hb => Below.heap_setCell _ _ _ _ hb
  have hS : (W.setCell ⟨p, 2, none⟩ vo').heap.size = W.heap.size := by simp [World.setCell]
  have hgne : ∀ b, b < w.heap.size → vo.ownBlock ≠ some b → b ≠ g := fun b h1 h2 c => by
    subst c
    rcases hat with d | d
    · exact h2 (d ▸ hog)
    · rw [hog] at d; cases d; omega
  have hfree : ∀ b, Free n w p vo E b → Free n (W.setCell ⟨p, 2, none⟩ vo') p vo' (E ++ [⟨k, t, .slice none 0 0, .nil⟩]) b := by
    rintro b ⟨f1, f2, f3, f4, f5⟩
    refine ⟨f1, by rw [hS]; exact Nat.lt_of_lt_of_le f2 hsz, f3, fun c => hgne b f2 f4 (by rw [hog] at c; cases c; rfl), fun x hx => ?_⟩
    rw [List.mem_append, List.mem_singleton] at hx
    rcases hx with hx | rfl
    · exact f5 x hx
    · intro c; cases c
  refine ⟨h.le, heap_setCell_same W p 2 _ _ vo' hpc, by simpa [hv] using hrow s3, ?_, ?_, ?_⟩
  · intro x hx b hb
    rw [List.mem_append, List.mem_singleton] at hx
    rcases hx with hx | rfl
    · rcases hat with d | d
      · rw [d]; exact h.apart x hx b hb
      · rw [d]; intro c; cases c
        obtain ⟨ys, hy, _⟩ := h.kids x hx
        exact Nat.lt_irrefl _ (hy.lt _ hb).2
    · cases hb
  · exact List.pairwise_append.2 ⟨h.pair, List.pairwise_singleton _ _, fun a ha x hx b hb c => by
      rw [List.mem_singleton] at hx
      subst hx
      cases c⟩
  · intro x hx
    rw [List.mem_append, List.mem_singleton] at hx
    rcases hx with hx | rfl
    · obtain ⟨ys, hy, hz⟩ := h.kids x hx
      refine ⟨ys, hrow ?_, hz.mono hfree (fun b hb => (hother b hb.2.2.1).trans (hheap b hb.2.1 hb.2.2.2.1 (hgne b hb.2.1 hb.2.2.2.1)))⟩
      have hne : x.kv.ownBlock = none ∨ x.kv.ownBlock ≠ vo.ownBlock := by
        cases hb : x.kv.ownBlock with
        | none => exact .inl rfl
        | some b => exact .inr (fun c => h.apart x hx b hb c.symm)
      have h1 := hy.kept hg hne
      have h2 : x.kv.ownBlock ≠ some g := fun c => hgne g (hy.lt g c).2 (fun d => h.apart x hx g c d) rfl
      rw [hW]
      exact ownsRow_setCell_other (ownsRow_setCell_other (ownsRow_setCell_other h1 h2 _) h2 _) h2 _
    · exact ⟨[], ⟨rfl, .inl ⟨rfl, rfl⟩⟩, rfl⟩

/-- the innermost bracket is taken off: its kids are now free. -/
theorem PSt.pop (h : PSt n w p T i vo bad (E ++ [e])) (hv : vo = .slice (some ⟨g, 0, none⟩) (E.length + 1) cap) :
    PSt n (w.setCell ⟨p, 2, none⟩ (.slice (some ⟨g, 0, none⟩) E.length cap)) p T i (.slice (some ⟨g, 0, none⟩) E.length cap) bad E ∧
    ∃ a c, e.kv = .slice a e.g.len c ∧ SlS (Free n (w.setCell ⟨p, 2, none⟩ (.slice (some ⟨g, 0, none⟩) E.length cap)) p (.slice (some ⟨g, 0, none⟩) E.length cap) E) (w.setCell ⟨p, 2, none⟩ (.slice (some ⟨g, 0, none⟩) E.length cap)) a c e.g := by
  obtain ⟨h1, h2, h3⟩ := h.field 2 (.slice (some ⟨g, 0, none⟩) E.length cap)
  have hog : vo.ownBlock = some g := by rw [hv]; rfl
  have hS : (w.setCell ⟨p, 2, none⟩ (.slice (some ⟨g, 0, none⟩) E.length cap)).heap.size = w.heap.size := by simp [World.setCell]
  have hrow := h.row
  rw [hv, flatE_snoc] at hrow
  simp only [List.length_append, List.length_cons, List.length_nil] at hrow
  have hrow2 := ownsRow_pop (flatE_len E) hrow
  have hfree : ∀ b, Free n w p vo (E ++ [e]) b → Free n (w.setCell ⟨p, 2, none⟩ (.slice (some ⟨g, 0, none⟩) E.length cap)) p (.slice (some ⟨g, 0, none⟩) E.length cap) E b := by
    rintro b ⟨f1, f2, f3, f4, f5⟩
    exact ⟨f1, by rw [hS]; exact f2, f3, fun c => f4 (by rw [hog]; cases c; rfl), fun x hx => f5 x (by simp [hx])⟩
  obtain ⟨hp1, _, hp2⟩ := List.pairwise_append.1 h.pair
  refine ⟨⟨h.le, h1, h2 hrow2, fun x hx b hb c => h.apart x (by simp [hx]) b hb (by rw [hog]; cases c; rfl), hp1, fun x hx => ?_⟩, ?_⟩
  · obtain ⟨ys, hy, hz⟩ := h.kids x (by simp [hx])
    exact ⟨ys, h2 hy, hz.mono hfree (fun b hb => h3 b hb.2.2.1)⟩
  · obtain ⟨ys, hy, hz⟩ := h.kids e (by simp)
    have hz2 := hz.mono hfree (fun b hb => h3 b hb.2.2.1)
    have hy2 := h2 hy
    rcases hy2.2 with ⟨h0, hl⟩ | ⟨g', cap', cur, h0, hg', hh, hnc, hcm, _⟩
    · have hG := fo_nil hl
      refine ⟨none, 0, by rw [h0, hl], ?_⟩
      rw [hG]
      exact SlS.nil
    · have hy3 := hy2
      rw [h0] at hy3
      refine ⟨some ⟨g', 0, none⟩, cap', h0, hnc, hcm, by simp, .inr ⟨g', 0, ys, rfl, ?_, fun j hj => ?_, hz2⟩⟩
      · have hb : e.kv.ownBlock = some g' := by rw [h0]; rfl
        refine ⟨hg', (Array.getElem?_eq_some_iff.1 hh).1, fun c => row_ne hy h.cell (c ▸ hb), fun c => h.apart e (by simp) g' hb (by rw [hog]; cases c; rfl), fun x hx c => hp2 x hx e (by simp) g' c hb⟩
      · have hl := hy3.1
        rw [Nat.zero_add, hy3.cellAt j (by omega)]
end
end Go.Proofs.Ytajdpchojimigaa
