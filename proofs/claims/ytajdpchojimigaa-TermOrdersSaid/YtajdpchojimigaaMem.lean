/- Expressions in memory. -/
import Derived.Test.YtajdpchojimigaaProg
import Derived.Test.YtajdpchojimigaaTm
import Derived.WalkKit
import Derived.Outline
import Derived.Lib.Hide
import Derived.Laws.OwnMore
import Derived.Maps.AppendAt
import Derived.Lib.IndexBytes
import Derived.BigQuiet
import Derived.Deep.QuietTactic
namespace Go.Proofs.Ytajdpchojimigaa
open Go.RowKit TmM

theorem below_drewN {n : Nat} {w w' : World} (h : Below n w w') (k : Nat) : Below n w (w'.drewN k) := by
  induction k with
  | zero => exact h
  | succ k ih => exact ih.drew

/-- the cells of block b from o on are xs. -/
def Cells (w : World) (b o : Nat) (xs : List Value) : Prop := ∀ j, j < xs.length → w.cell? ⟨b, o + j, none⟩ = xs[j]?

/-- the cells xs are an expression, whose kids lie in blocks below n. -/
def Reps (n : Nat) (w : World) : List Value → Fo → Prop
  | xs, .nil => xs = []
  | xs, .cons k t c r => ∃ a cap ys, xs = .int .i64 k :: .string t :: .slice a c.len cap :: ys ∧ (c.len ≤ cap ∧ cap ≤ maxLen ∧ (a = none → cap = 0) ∧
      (c = .nil ∨ ∃ b o zs, a = some ⟨b, o, none⟩ ∧ b < n ∧ Cells w b o zs ∧ Reps n w zs c)) ∧ Reps n w ys r

/-- .slice a (length of f) cap is the expression f, in blocks below n; it may be nil. -/
def Sl (n : Nat) (w : World) (a : Option Addr) (cap : Nat) (f : Fo) : Prop :=
  f.len ≤ cap ∧ cap ≤ maxLen ∧ (a = none → cap = 0) ∧ (f = .nil ∨ ∃ b o zs, a = some ⟨b, o, none⟩ ∧ b < n ∧ Cells w b o zs ∧ Reps n w zs f)

theorem Cells.below {n : Nat} {w w' : World} {b o : Nat} {xs : List Value} (h : Cells w b o xs) (hb : Below n w w') (hn : b < n) : Cells w' b o xs :=
  fun j hj => (hb.cell (p := ⟨b, o + j, none⟩) hn).trans (h j hj)

theorem Reps.below {n n' : Nat} {w w' : World} (hb : Below n w w') (hn : n ≤ n') : ∀ {xs : List Value} {f : Fo}, Reps n w xs f → Reps n' w' xs f
  | _, .nil, h => h
  | _, .cons _ _ _ _, ⟨a, cap, ys, hx, ⟨h1, h2, h3, h4⟩, hr⟩ => ⟨a, cap, ys, hx, ⟨h1, h2, h3, h4.elim .inl (fun ⟨b, o, zs, ha, hlt, hc, hz⟩ => .inr ⟨b, o, zs, ha, Nat.lt_of_lt_of_le hlt hn, hc.below hb hlt, Reps.below hb hn hz⟩)⟩, Reps.below hb hn hr⟩

theorem Sl.below {n n' : Nat} {w w' : World} {a : Option Addr} {cap : Nat} {f : Fo} (h : Sl n w a cap f) (hb : Below n w w') (hn : n ≤ n') : Sl n' w' a cap f :=
  ⟨h.1, h.2.1, h.2.2.1, h.2.2.2.elim .inl (fun ⟨b, o, zs, ha, hlt, hc, hz⟩ => .inr ⟨b, o, zs, ha, Nat.lt_of_lt_of_le hlt hn, hc.below hb hlt, hz.below hb hn⟩)⟩

theorem Sl.later {w w' : World} {a : Option Addr} {cap : Nat} {f : Fo} (h : Sl w.heap.size w a cap f) (hb : Below w.heap.size w w') : Sl w'.heap.size w' a cap f := h.below hb hb.size

theorem Sl.nil {n : Nat} {w : World} : Sl n w none 0 .nil := ⟨Nat.le_refl _, Nat.zero_le _, fun _ => rfl, .inl rfl⟩

theorem Sl.cap {n : Nat} {w : World} {a : Option Addr} {cap : Nat} {f : Fo} (h : Sl n w a cap f) : f.len ≤ cap ∧ cap ≤ maxLen := ⟨h.1, h.2.1⟩

theorem Reps.length {n : Nat} {w : World} : ∀ {xs : List Value} {f : Fo}, Reps n w xs f → xs.length = 3 * f.len
  | _, .nil, h => by rw [show _ = [] from h]; rfl
  | _, .cons _ _ _ r, ⟨a, cap, ys, hx, _, hr⟩ => by have := Reps.length hr; subst hx; simp [this]; omega

theorem Reps.app {n : Nat} {w : World} {g : Fo} {ys : List Value} (hg : Reps n w ys g) : ∀ {xs : List Value} {f : Fo}, Reps n w xs f → Reps n w (xs ++ ys) (f.app g)
  | _, .nil, h => by rw [show _ = [] from h]; exact hg
  | _, .cons _ _ _ _, ⟨a, cap, zs, hx, hk, hr⟩ => ⟨a, cap, zs ++ ys, by subst hx; rfl, hk, Reps.app hg hr⟩

theorem Reps.cons_mk {n : Nat} {w : World} {k : Int} {t : ByteArray} {c r : Fo} {a : Option Addr} {cap : Nat} {ys : List Value} (hs : Sl n w a cap c) (hr : Reps n w ys r) : Reps n w (.int .i64 k :: .string t :: .slice a c.len cap :: ys) (.cons k t c r) :=
  ⟨a, cap, ys, rfl, hs, hr⟩

theorem Reps.one {n : Nat} {w : World} {k : Int} {t : ByteArray} {c : Fo} {a : Option Addr} {cap : Nat} (hs : Sl n w a cap c) : Reps n w [.int .i64 k, .string t, .slice a c.len cap] (.cons k t c .nil) := Reps.cons_mk hs rfl

/-- what stands at an index. -/
theorem Reps.at {n : Nat} {w : World} : ∀ {xs : List Value} {f : Fo} {j : Nat} {k : Int} {t : ByteArray} {c r : Fo}, Reps n w xs f → f.drop j = .cons k t c r →
    xs[3 * j]? = some (.int .i64 k) ∧ xs[3 * j + 1]? = some (.string t) ∧ ∃ a cap, xs[3 * j + 2]? = some (.slice a c.len cap) ∧ Sl n w a cap c
  | _, .nil, j, _, _, _, _, _, hd => by cases j <;> simp [Fo.drop] at hd
  | _, .cons _ _ _ _, 0, _, _, _, _, ⟨a, cap, ys, hx, hk, hr⟩, hd => by
    rw [Fo.drop_zero] at hd; cases hd; subst hx
    exact ⟨rfl, rfl, a, cap, rfl, hk⟩
  | _, .cons _ _ _ _, j + 1, _, _, _, _, ⟨a, cap, ys, hx, hk, hr⟩, hd => by
    have h := Reps.at hr (show _ = _ from hd)
    subst hx
    exact ⟨h.1, h.2.1, h.2.2⟩

/-- a list that is not empty lies somewhere. -/
theorem base_of {n : Nat} {w : World} {a : Option Addr} {cap : Nat} {f : Fo} (h : Sl n w a cap f) : ∃ b o, (0 < f.len → a = some ⟨b, o, none⟩) ∧ (0 < f.len → b < n) ∧
    Hid (∀ j k t c r, f.drop j = .cons k t c r → w.cell? ⟨b, o + j * 3, none⟩ = some (.int .i64 k) ∧ w.cell? ⟨b, o + j * 3 + 1, none⟩ = some (.string t) ∧ ∃ a cap, w.cell? ⟨b, o + j * 3 + 2, none⟩ = some (.slice a c.len cap) ∧ Sl n w a cap c) := by
  rcases h.2.2.2 with rfl | ⟨b, o, zs, ha, hlt, hc, hz⟩
  · exact ⟨0, 0, by simp, by simp, Lib.hid (fun j k t c r hd => by cases j <;> simp [Fo.drop] at hd)⟩
  · refine ⟨b, o, fun _ => ha, fun _ => hlt, Lib.hid (fun j k t c r hd => ?_)⟩
    obtain ⟨h0, h1, a', cap', h2, hs⟩ := hz.at hd
    have hl := hz.length
    have hj : j < f.len := by
      have := congrArg Fo.len hd; rw [Fo.len_drop] at this; simp at this; omega
    rw [Nat.mul_comm j 3]
    refine ⟨(hc (3 * j) (by omega)).trans h0, ?_, a', cap', ?_, hs⟩
    · rw [Nat.add_assoc]; exact (hc (3 * j + 1) (by omega)).trans h1
    · rw [Nat.add_assoc]; exact (hc (3 * j + 2) (by omega)).trans h2

/-- a result beside which nothing old has changed. -/
def OutV (w : World) (v : Value) (e : Ending) (w' : World) : Prop := e = .returned v ∧ Below w.heap.size w w'

end Go.Proofs.Ytajdpchojimigaa
