/- The metacode of an expression: what its steps do. -/
import Derived.Test.YtfajodndpoepcaaUa
import Derived.Test.YtfajodndpoepcaaBa
namespace Go.Proofs.Ytfajodndpoepcaa
open Go.RowKit TmM

theorem letterOf_eq (k : Int) : letterOf k = str (ofKind k) := by
  unfold letterOf ofKind
  by_cases h5 : k = 5
  · simp [h5, str]
  · by_cases h6 : k = 6 <;> simp [h5, h6, str]

theorem up1_group (t : ByteArray) (c : Fo) : up1 4 t c = .cons 4 ⟨#[]⟩ (up c) .nil := by simp [up1, up]
theorem up1_var {k : Int} (h : k = 5 ∨ k = 6 ∨ k = 7) (t : ByteArray) (c : Fo) : up1 k t c = .cons 1 (str 42) .nil (.cons 1 (str (ofKind k)) .nil (.cons 2 t .nil .nil)) := by
  simp [up1, up, h, show ¬ k = 4 by omega]
theorem up1_s (t : ByteArray) (c : Fo) : up1 5 t c = .cons 1 ⟨#[42]⟩ .nil (.cons 1 ⟨#[83]⟩ .nil (.cons 2 t .nil .nil)) := up1_var (.inl rfl) t c
theorem up1_t (t : ByteArray) (c : Fo) : up1 6 t c = .cons 1 ⟨#[42]⟩ .nil (.cons 1 ⟨#[84]⟩ .nil (.cons 2 t .nil .nil)) := up1_var (.inr (.inl rfl)) t c
theorem up1_e (t : ByteArray) (c : Fo) : up1 7 t c = .cons 1 ⟨#[42]⟩ .nil (.cons 1 ⟨#[69]⟩ .nil (.cons 2 t .nil .nil)) := up1_var (.inr (.inr rfl)) t c
theorem up1_call (t : ByteArray) (c : Fo) : up1 8 t c = .cons 1 ⟨#[42]⟩ .nil (.cons 4 ⟨#[]⟩ (.cons 2 t .nil (up c)) .nil) := by
  show up1 8 t c = .cons 1 (str 42) .nil _
  simp [up1, up]
theorem up1_star (c : Fo) : up1 1 ⟨#[42]⟩ c = .cons 1 ⟨#[42]⟩ .nil (.cons 1 ⟨#[86]⟩ .nil .nil) := by
  show up1 1 (str 42) c = .cons 1 (str 42) .nil (.cons 1 (str 86) .nil .nil)
  simp [up1, up]
theorem up1_starX (c : Fo) : up1 1 (str 42) c = .cons 1 (str 42) .nil (.cons 1 (str 86) .nil .nil) := by simp [up1, up]
theorem up1_other {k : Int} {t : ByteArray} (c : Fo) (h4 : k ≠ 4) (h5 : k ≠ 5) (h6 : k ≠ 6) (h7 : k ≠ 7) (h8 : k ≠ 8) (h : ¬ (k = 1 ∧ t = ⟨#[42]⟩)) : up1 k t c = .cons k t .nil .nil := by
  have h' : ¬ (k = 1 ∧ t = str 42) := h
  simp [up1, up, h4, h5, h6, h7, h8, h']

theorem up_next {f : Fo} {n : Nat} {k t c g} (hd : f.drop n = .cons k t c g) : up (f.take (n + 1)) = (up (f.take n)).app (up1 k t c) := by
  rw [Fo.take_succ hd, up_app]; rfl
theorem up_take_len (f : Fo) (n : Nat) : (up (f.take n)).len ≤ 4 * f.count := by
  have h1 := Fo.len_le_count (up (f.take n))
  have h2 := count_up (f.take n)
  have h3 := congrArg Fo.count (Fo.take_app_drop n f)
  rw [Fo.count_app] at h3
  omega

/-- a new expression in the place of kids. -/
theorem outF_kids {base : Nat} {w W w2 : World} {v : Value} {G H : Fo} {a : Option Addr} {cap : Nat} (hB : Built base w v G) (hw : Below w.heap.size w W) (hs : SlS (fun b => W.heap.size ≤ b ∧ b < w2.heap.size) w2 a cap H) :
    SlS (fun b => base ≤ b ∧ b < w2.heap.size ∧ v.ownBlock ≠ some b) w2 a cap H := by
  obtain ⟨xs, ho, hr, hb⟩ := hB
  refine hs.mono (fun b hb' => ⟨?_, hb'.2, fun hv => ?_⟩) (fun _ _ => rfl)
  · have := hw.size; omega
  · have := own_lt ho hv; have := hw.size; omega

theorem star_ne {t : ByteArray} (h : ¬ t = ⟨#[42]⟩) : (t.toList == [42]) = false := by
  rw [ByteArray.toList_eq, beq_eq_false_iff_ne]
  intro e
  apply h
  obtain ⟨d⟩ := t
  have : d = #[42] := Array.toList_inj.1 (e.trans rfl)
  rw [this]

/-- a new expression's kids go behind a list of the call's own. -/
theorem Put.kids {base n : Nat} {w : World} {v : Value} {G H : Fo} {a : Option Addr} {c : Nat} (_hB : Built base w v G) (hs : SlS (fun b => n ≤ b ∧ b < w.heap.size) w a c H) (hn : base ≤ n) (hv : ∀ k, v.ownBlock = some k → k < n) :
    Put (fun b => base ≤ b ∧ b < w.heap.size ∧ v.ownBlock ≠ some b) w a c H :=
  (Put.of hs).mono (fun b hb => ⟨by omega, hb.2, fun e => by have := hv b e; omega⟩)
theorem Put.after {base n m m' : Nat} {w : World} {H : Fo} {a : Option Addr} {c : Nat} {o : Obj} (hs : SlS (fun b => n ≤ b ∧ b < w.heap.size) w a c H) (hn : base ≤ n) :
    Put (fun b => base ≤ b ∧ b < (w.alloc o).heap.size ∧ (Value.slice (some ⟨w.heap.size, 0, none⟩) m m').ownBlock ≠ some b) (w.alloc o) a c H :=
  Put.of (hs.mono (fun b hb => ⟨by omega, by have := hb.2; simp; omega, fun e => by have := hb.2; simp [Value.ownBlock] at e; omega⟩) (fun b hb => heap_alloc_old w o hb.2))
theorem Built.slm {base : Nat} {w : World} {v : Value} {G : Fo} (h : Built base w v G) : ∃ a m cap, v = .slice a m cap ∧ m = G.len ∧ SlS (fun b => base ≤ b ∧ b < w.heap.size) w a cap G := by
  obtain ⟨a, cap, h1, h2⟩ := h.sls
  exact ⟨a, _, cap, h1, rfl, h2⟩
/-- the cells of a list that was just laid, one by one. -/
theorem news_cell {w : World} (xs : List Value) (t : TypeId) (j : Nat) {u : Value} (hu : xs[j]? = some u) : (w.alloc (.cells xs.toArray t)).cell? ⟨w.heap.size, j, none⟩ = some u := by
  rw [World.cell?_alloc_at _ _ _ _ (by simp)]
  simpa using hu
theorem news_at (w : World) (xs : List Value) (t : TypeId) (n : Nat) (hn : n = w.heap.size) : ∀ j u, xs[j]? = some u → (w.alloc (.cells xs.toArray t)).cell? ((⟨n, 0, none⟩ : Addr).add j) = some u := by
  subst hn; exact news_of w xs t
/-- a term in its box, as far as no own list lies there. -/
def Box (w : World) (g : Nat) (k : Int) (t : ByteArray) (a : Option Addr) (l cap : Nat) : Prop :=
  g < w.heap.size ∧ w.cell? ⟨g, 0, none⟩ = some (.int .i64 k) ∧ w.cell? ⟨g, 1, none⟩ = some (.string t) ∧ w.cell? ⟨g, 2, none⟩ = some (.slice a l cap)
theorem Box.new (w : World) (k : Int) (t : ByteArray) (a : Option Addr) (l cap : Nat) : Box (w.alloc (.cells #[.int .i64 k, .string t, .slice a l cap] 35)) w.heap.size k t a l cap :=
  ⟨by simp, news_cell [_, _, _] _ 0 rfl, news_cell [_, _, _] _ 1 rfl, news_cell [_, _, _] _ 2 rfl⟩
theorem Box.later {w w' : World} {g : Nat} {k : Int} {t : ByteArray} {a : Option Addr} {l cap : Nat} (h : Box w g k t a l cap) (hb : Below w.heap.size w w') : Box w' g k t a l cap :=
  ⟨Nat.lt_of_lt_of_le h.1 hb.size, (hb.cell (p := ⟨g, 0, none⟩) h.1).trans h.2.1, (hb.cell (p := ⟨g, 1, none⟩) h.1).trans h.2.2.1, (hb.cell (p := ⟨g, 2, none⟩) h.1).trans h.2.2.2⟩
theorem Box.grown {w w' : World} {g : Nat} {k : Int} {t : ByteArray} {a : Option Addr} {l cap : Nat} {row : Option Nat} (h : Box w g k t a l cap) (hg : w.grownBy w' row) (hne : row ≠ some g) : Box w' g k t a l cap :=
  ⟨Nat.lt_of_lt_of_le h.1 hg.size, hg.cell (a := ⟨g, 0, none⟩) h.2.1 (fun e => hne e.symm), hg.cell (a := ⟨g, 1, none⟩) h.2.2.1 (fun e => hne e.symm), hg.cell (a := ⟨g, 2, none⟩) h.2.2.2 (fun e => hne e.symm)⟩
end Go.Proofs.Ytfajodndpoepcaa
