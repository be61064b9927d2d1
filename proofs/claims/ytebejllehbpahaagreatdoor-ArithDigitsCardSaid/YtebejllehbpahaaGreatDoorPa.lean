/- Lists of limbs in memory. -/
import Derived.Test.YtebejllehbpahaaGreatDoorProg
import Derived.Test.YtebejllehbpahaaGreatDoorPm
import Derived.WalkKit
import Derived.Outline
import Derived.Lib.Hide
import Derived.Laws.OwnMore
import Derived.Maps.AppendAt
import Derived.BigQuiet
import Derived.Deep.QuietTactic
import Derived.Deep.LoopGhost
/- Lists of ints in memory. -/
namespace Go.Proofs.YtebejllehbpahaaGreatDoor
open Go.RowKit Go.Proofs.ArM

theorem Tryz.info3 : (Tryz.prog.info? 3).map (fun i => (i.zero, i.size, i.bytes)) = some (some (.int .i64 0), 1, 8) := by kernel_rfl

theorem below_drewN {n : Nat} {w w' : World} (h : Below n w w') (k : Nat) : Below n w (w'.drewN k) := by
  induction k with
  | zero => exact h
  | succ k ih => exact ih.drew

@[go_sem] theorem Tryz.fieldZ1 (b : Bool) (a : Option Addr) (n c : Nat) (w : World) : (Instr.field 54 (.agg #[.bool b, .slice a n c]) 1).run Tryz.prog w = .ok (.slice a n c) w := by kernel_rfl
@[go_sem] theorem Tryz.fieldZ0 (b : Bool) (a : Option Addr) (n c : Nat) (w : World) : (Instr.field 54 (.agg #[.bool b, .slice a n c]) 0).run Tryz.prog w = .ok (.bool b) w := by kernel_rfl

theorem own_shape {w : World} {B e size n : Nat} {v : Value} {xs : List Value} (h : w.ownsRow B e size v n xs) (hn : 0 < n) : ∃ g cap, v = .slice (some ⟨g, 0, none⟩) n cap ∧ B ≤ g := by
  rcases h.2 with ⟨_, h0⟩ | ⟨g, cap, _, hv, hg, _⟩
  · omega
  · exact ⟨g, cap, hv, hg⟩

theorem own_below {w w' : World} {B e size n m : Nat} {v : Value} {xs : List Value} (h : w.ownsRow B e size v n xs) (hb : Below m w w') (hv : ∀ k, v.ownBlock = some k → k < m) : w'.ownsRow B e size v n xs := by
  refine ⟨h.1, ?_⟩
  rcases h.2 with h0 | ⟨g, cap, cur, rfl, h1, hg, h3⟩
  · exact .inl h0
  · exact .inr ⟨g, cap, cur, rfl, h1, (hb.block g (hv g rfl)).trans hg, h3⟩

theorem own_drewN {w : World} {B e size n : Nat} {v : Value} {xs : List Value} (h : w.ownsRow B e size v n xs) (q : Nat) : (w.drewN q).ownsRow B e size v n xs := h

/-- the value v is a slice of the ints xs, in blocks below n -/
def Ints (n : Nat) (w : World) (v : Value) (xs : List Int) : Prop :=
  ∃ b o c, v = .slice (some ⟨b, o, none⟩) xs.length c ∧ xs.length ≤ c ∧ c ≤ maxLen ∧ b < n ∧ ∀ j, j < xs.length → w.cell? ⟨b, o + j, none⟩ = some (.int .i64 (xs.getD j 0))

theorem Ints.below {n n' : Nat} {w w' : World} {v : Value} {xs : List Int} (h : Ints n w v xs) (hb : Below n w w') (hn : n ≤ n') : Ints n' w' v xs := by
  obtain ⟨b, o, c, hv, hc, hm, hn', hx⟩ := h
  exact ⟨b, o, c, hv, hc, hm, by omega, fun j hj => (hb.cell (p := ⟨b, o + j, none⟩) hn').trans (hx j hj)⟩

theorem Ints.later {w w' : World} {v : Value} {xs : List Int} (h : Ints w.heap.size w v xs) (hb : Below w.heap.size w w') : Ints w'.heap.size w' v xs := h.below hb hb.size

theorem Ints.take {n : Nat} {w : World} {b o c : Nat} {xs : List Int} (h : Ints n w (.slice (some ⟨b, o, none⟩) xs.length c) xs) {k : Nat} (hk : k ≤ xs.length) :
    Ints n w (.slice (some ⟨b, o, none⟩) k c) (xs.take k) := by
  obtain ⟨b', o', c', hv, hc, hm, hn, hx⟩ := h
  simp only [Value.slice.injEq, Option.some.injEq, Addr.mk.injEq, and_true, true_and] at hv
  obtain ⟨⟨rfl, rfl⟩, rfl⟩ := hv
  refine ⟨b, o, c, by rw [List.length_take, Nat.min_eq_left hk], by rw [List.length_take]; omega, hm, hn, fun j hj => ?_⟩
  rw [List.length_take] at hj
  rw [hx j (by omega)]
  have : (xs.take k).getD j 0 = xs.getD j 0 := by simp [List.getD, show j < k by omega]
  rw [this]

theorem ints_of_row {w : World} {base g cap n : Nat} {xs : List Int} (h : w.ownsRow base 3 1 (.slice (some ⟨g, 0, none⟩) n cap) n (xs.map (Value.int .i64))) : Ints w.heap.size w (.slice (some ⟨g, 0, none⟩) n cap) xs := by
  have hl : xs.length = n := by have := h.1; simpa using this
  subst hl
  have hc := h.cellAt
  rcases h.2 with ⟨h', _⟩ | ⟨g', cap', cur, h', _, hg, hnc, hcm, hcs, _⟩
  · simp at h'
  · simp only [Value.slice.injEq, Option.some.injEq, Addr.mk.injEq, and_true, true_and] at h'
    obtain ⟨rfl, rfl⟩ := h'
    refine ⟨g, 0, cap, rfl, hnc, hcm, (Array.getElem?_eq_some_iff.1 hg).1, fun j hj => ?_⟩
    rw [Nat.zero_add, hc j (by omega)]
    simp [List.getD, hj]

theorem Ints.shape {n : Nat} {w : World} {v : Value} {xs : List Int} (h : Ints n w v xs) : ∃ b o c, v = .slice (some ⟨b, o, none⟩) xs.length c ∧ Ints n w (.slice (some ⟨b, o, none⟩) xs.length c) xs := by
  obtain ⟨b, o, c, rfl, h1, h2, h3, h4⟩ := h
  exact ⟨b, o, c, rfl, b, o, c, rfl, h1, h2, h3, h4⟩

/-- what a function that hands back a list of ints leaves -/
def OutI (w : World) (P : List Int → Prop) (e : Ending) (w' : World) : Prop :=
  ∃ b o c zs, e = .returned (.slice (some ⟨b, o, none⟩) zs.length c) ∧ Ints w'.heap.size w' (.slice (some ⟨b, o, none⟩) zs.length c) zs ∧ Hid (P zs) ∧ Below w.heap.size w w' ∧ w.heap.size ≤ b

theorem outI_of {w w' : World} {P : List Int → Prop} {b o c : Nat} {zs : List Int} (h : Ints w'.heap.size w' (.slice (some ⟨b, o, none⟩) zs.length c) zs) (hP : P zs) (hb : Below w.heap.size w w') (hn : w.heap.size ≤ b) : OutI w P (.returned (.slice (some ⟨b, o, none⟩) zs.length c)) w' :=
  ⟨b, o, c, zs, rfl, h, Lib.hid hP, hb, hn⟩

theorem outI_mk {w w' : World} {P : List Int → Prop} {v : Value} {zs : List Int} (h : w'.ownsRow w.heap.size 3 1 v zs.length (zs.map (Value.int .i64))) (hn : v ≠ .slice none 0 0) (hP : P zs) (hb : Below w.heap.size w w') :
    OutI w P (.returned v) w' := by
  rcases h.2 with ⟨hv, _⟩ | ⟨g, cap, cur, rfl, hg, _⟩
  · exact absurd hv hn
  · exact outI_of (ints_of_row h) hP hb hg

theorem Ints.set {n : Nat} {w : World} {b o c l g j : Nat} {u : Value} {xs : List Int} (h : Ints n w (.slice (some ⟨b, o, none⟩) l c) xs) (hg : b ≠ g) : Ints n (w.setCell ⟨g, j, none⟩ u) (.slice (some ⟨b, o, none⟩) l c) xs := by
  obtain ⟨b', o', c', hv, h1, h2, h3, h4⟩ := h
  simp only [Value.slice.injEq, Option.some.injEq, Addr.mk.injEq, and_true] at hv
  obtain ⟨⟨rfl, rfl⟩, rfl, rfl⟩ := hv
  exact ⟨b, o, c, rfl, h1, h2, h3, fun i hi => (World.cell?_setCell_other _ _ _ _ (by intro e; cases e; exact hg rfl)).trans (h4 i hi)⟩

theorem Ints.cell {n : Nat} {w : World} {b o c l : Nat} {xs : List Int} (h : Ints n w (.slice (some ⟨b, o, none⟩) l c) xs) : b < n ∧ l = xs.length ∧ l ≤ c ∧ c ≤ maxLen ∧ ∀ j, j < xs.length → w.cell? ⟨b, o + j, none⟩ = some (.int .i64 (xs.getD j 0)) := by
  obtain ⟨b', o', c', hv, h1, h2, h3, h4⟩ := h
  simp only [Value.slice.injEq, Option.some.injEq, Addr.mk.injEq, and_true] at hv
  obtain ⟨⟨rfl, rfl⟩, rfl, rfl⟩ := hv
  exact ⟨h3, rfl, h1, h2, h4⟩

/-- the cells of a list, as a law on append asks for them -/
theorem Ints.news {n : Nat} {w : World} {b o c l : Nat} {xs : List Int} (h : Ints n w (.slice (some ⟨b, o, none⟩) l c) xs) : ∀ j u, (xs.map (Value.int .i64))[j]? = some u → w.cell? ((⟨b, o, none⟩ : Addr).add j) = some u := by
  intro j u hu
  have hadd : (⟨b, o, none⟩ : Addr).add j = ⟨b, o + j, none⟩ := by unfold Addr.add; split <;> simp_all
  rw [List.getElem?_map] at hu
  by_cases hj : j < xs.length
  · rw [hadd, h.cell.2.2.2.2 j hj]
    simp [hj] at hu
    simp [List.getD, hj, ← hu]
  · simp [List.getElem?_eq_none (Nat.le_of_not_lt hj)] at hu

theorem ints_one (xs : List Int) : ∀ u ∈ xs.map (Value.int .i64), u.oneCell' = true := by
  intro u hu
  obtain ⟨x, _, rfl⟩ := List.mem_map.1 hu
  rfl

/-- an integer as the reference keeps it: a sign, and the digits of its absolute value -/
def OutZ (w : World) (n : Int) (e : Ending) (w' : World) : Prop :=
  ∃ b o c ds, e = .returned (.agg #[.bool (decide (n < 0)), .slice (some ⟨b, o, none⟩) ds.length c]) ∧ Ints w'.heap.size w' (.slice (some ⟨b, o, none⟩) ds.length c) ds ∧ Hid (ds = digs n.natAbs) ∧ Below w.heap.size w w'

/-- the same, in the memory of a list that was handed in -/
def TrimZ (b o c : Nat) (w : World) (s : Bool) (n : Nat) (e : Ending) (w' : World) : Prop :=
  ∃ ds, e = .returned (.agg #[.bool s, .slice (some ⟨b, o, none⟩) ds.length c]) ∧ Ints w'.heap.size w' (.slice (some ⟨b, o, none⟩) ds.length c) ds ∧ Hid (ds = digs n) ∧ Below w.heap.size w w'

/-- a result beside which nothing old has changed -/
def OutV (w : World) (v : Value) (e : Ending) (w' : World) : Prop := e = .returned v ∧ Below w.heap.size w w'

end Go.Proofs.YtebejllehbpahaaGreatDoor

/- Lists of limbs in memory, nil ones too. -/
namespace Go.Proofs.YtebejllehbpahaaGreatDoor
open Go.RowKit Go.Proofs.ArM

/-- .slice a (length of xs) c holds the ints xs, in blocks below n; it may be nil -/
def Sl (n : Nat) (w : World) (a : Option Addr) (c : Nat) (xs : List Int) : Prop :=
  (a = none ∧ xs = [] ∧ c = 0) ∨ ∃ b o, a = some ⟨b, o, none⟩ ∧ Ints n w (.slice (some ⟨b, o, none⟩) xs.length c) xs

theorem Sl.below {n n' : Nat} {w w' : World} {a : Option Addr} {c : Nat} {xs : List Int} (h : Sl n w a c xs) (hb : Below n w w') (hn : n ≤ n') : Sl n' w' a c xs := by
  rcases h with h | ⟨b, o, rfl, h⟩
  · exact .inl h
  · exact .inr ⟨b, o, rfl, h.below hb hn⟩

theorem Sl.later {w w' : World} {a : Option Addr} {c : Nat} {xs : List Int} (h : Sl w.heap.size w a c xs) (hb : Below w.heap.size w w') : Sl w'.heap.size w' a c xs := h.below hb hb.size

theorem Sl.nil {n : Nat} {w : World} : Sl n w none 0 [] := .inl ⟨rfl, rfl, rfl⟩
theorem Sl.mk {n : Nat} {w : World} {b o c : Nat} {xs : List Int} (h : Ints n w (.slice (some ⟨b, o, none⟩) xs.length c) xs) : Sl n w (some ⟨b, o, none⟩) c xs := .inr ⟨b, o, rfl, h⟩

theorem Sl.cap {n : Nat} {w : World} {a : Option Addr} {c : Nat} {xs : List Int} (h : Sl n w a c xs) : xs.length ≤ c ∧ c ≤ maxLen := by
  rcases h with ⟨_, rfl, rfl⟩ | ⟨b, o, _, h⟩
  · exact ⟨Nat.le_refl _, Nat.zero_le _⟩
  · exact ⟨h.cell.2.2.1, h.cell.2.2.2.1⟩

/-- a list that is not empty lies somewhere -/
theorem Sl.some {n : Nat} {w : World} {a : Option Addr} {c : Nat} {xs : List Int} (h : Sl n w a c xs) (hx : 0 < xs.length) : ∃ b o, a = some ⟨b, o, none⟩ ∧ Ints n w (.slice (some ⟨b, o, none⟩) xs.length c) xs := by
  rcases h with ⟨_, rfl, _⟩ | h
  · simp at hx
  · exact h

theorem Sl.set {n : Nat} {w : World} {a : Option Addr} {c g j : Nat} {u : Value} {xs : List Int} (h : Sl n w a c xs) (hg : ∀ p, a = Option.some p → p.block ≠ g) : Sl n (w.setCell ⟨g, j, none⟩ u) a c xs := by
  rcases h with h | ⟨b, o, rfl, h⟩
  · exact .inl h
  · exact .inr ⟨b, o, rfl, h.set (hg _ rfl)⟩

theorem Sl.lt {n : Nat} {w : World} {a : Option Addr} {c : Nat} {xs : List Int} (h : Sl n w a c xs) : ∀ p, a = Option.some p → p.block < n := by
  rcases h with ⟨rfl, _⟩ | ⟨b, o, rfl, h⟩
  · intro p hp; cases hp
  · intro p hp; cases hp; exact h.cell.1

/-- a number from 0 on, as the program keeps it -/
def OutK (w : World) (n : Nat) (e : Ending) (w' : World) : Prop :=
  ∃ a c xs, e = .returned (.slice a xs.length c) ∧ Sl w'.heap.size w' a c xs ∧ Hid (xs = Ldigs n) ∧ Below w.heap.size w w' ∧ Hid (∀ p, a = some p → w.heap.size ≤ p.block)

/-- a beginning of a list, without zeros at its end -/
def OutTr (a : Option Addr) (c : Nat) (xs : List Int) (w : World) (e : Ending) (w' : World) : Prop :=
  ∃ k, e = .returned (.slice a k c) ∧ k ≤ xs.length ∧ Hid (xs.take k = Ldigs (Lval xs).toNat) ∧ w = w'

theorem Sl.take {n : Nat} {w : World} {a : Option Addr} {c k : Nat} {xs : List Int} (h : Sl n w a c xs) (hk : k ≤ xs.length) : Sl n w a c (xs.take k) := by
  rcases h with ⟨h1, h2, h3⟩ | ⟨b, o, rfl, h⟩
  · subst h2; exact .inl ⟨h1, by simp, h3⟩
  · have := h.take hk
    exact .inr ⟨b, o, rfl, by rw [List.length_take, Nat.min_eq_left hk]; exact this⟩

/-- what a function that ends by trimming hands back -/
theorem outK_of {w wx w' : World} {a : Option Addr} {c k : Nat} {xs : List Int} {n : Nat} (h : Sl wx.heap.size wx a c xs) (hk : k ≤ xs.length) (ht : xs.take k = Ldigs (Lval xs).toNat) (hv : Lval xs = n)
    (hx : wx = w') (hb : Below w.heap.size w w') (hnew : ∀ p, a = Option.some p → w.heap.size ≤ p.block) : OutK w n (.returned (.slice a k c)) w' := by
  subst hx
  refine ⟨a, c, xs.take k, by rw [List.length_take, Nat.min_eq_left hk], h.take hk, Lib.hid ?_, hb, Lib.hid hnew⟩
  rw [ht, hv, Int.toNat_natCast]

theorem new_at {n g : Nat} (h : n ≤ g) : ∀ p, (Option.some (⟨g, 0, none⟩ : Addr)) = Option.some p → n ≤ p.block := fun p hp => by cases hp; exact h
theorem new_none {n : Nat} : ∀ p : Addr, (none : Option Addr) = Option.some p → n ≤ p.block := fun p hp => by cases hp

theorem ldig_digs (n : Nat) : LDig (Ldigs n) := (Lcanon_digs n).1

theorem sl_of_row {w : World} {base g cap n : Nat} {xs : List Int} (h : w.ownsRow base 3 1 (.slice (some ⟨g, 0, none⟩) n cap) n (xs.map (Value.int .i64))) : Sl w.heap.size w (some ⟨g, 0, none⟩) cap xs := by
  have hl : xs.length = n := by have := h.1; simpa using this
  subst hl
  exact .mk (ints_of_row h)

set_option maxHeartbeats 1600000 in
set_option maxRecDepth 100000 in
theorem isZero_any (a : Option Addr) (l c : Nat) (w : World) :
    Calls Tryz.prog 43 #[.slice a l c] w (fun e w' => e = .returned (.bool (decide (l = 0))) ∧ w = w') := by
  go_enter Tryz.func43, Tryz.ntmps43
  go_wp2
  go_ret
  exact ⟨by rw [show decide (l = 0) = ((l : Int) == 0) from by rw [Bool.eq_iff_iff]; simp]; rfl, rfl⟩

set_option maxHeartbeats 1600000 in
set_option maxRecDepth 100000 in
theorem tooLarge_any (a : Option Addr) (l c : Nat) (w : World) :
    Calls Tryz.prog 50 #[.slice a l c] w (fun e w' => e = .returned (.bool (decide (125 < l))) ∧ w = w') := by
  go_enter Tryz.func50, Tryz.ntmps50
  go_wp2
  go_ret
  exact ⟨by rw [show decide (125 < l) = decide (125 < (l : Int)) from by rw [Bool.eq_iff_iff]; simp; omega]; rfl, rfl⟩

set_option maxHeartbeats 1600000 in
set_option maxRecDepth 100000 in
theorem at_any (a : Option Addr) (c : Nat) (xs : List Int) (i : Int) (w : World) (h : Sl w.heap.size w a c xs) (hi : i ≤ 1000000) (hi0 : -1000000 ≤ i) (hl : xs.length ≤ 1000000) :
    Calls Tryz.prog 84 #[.slice a xs.length c, .int .i64 i] w (fun e w' => e = .returned (.int .i64 (if i < 0 then 0 else xs.getD i.toNat 0)) ∧ w = w') := by
  by_cases h0 : i < 0
  · go_enter Tryz.func84, Tryz.ntmps84
    go_wp2
    go_ret
    exact ⟨rfl, rfl⟩
  · obtain ⟨k, rfl⟩ : ∃ k : Nat, i = (k : Int) := ⟨i.toNat, by omega⟩
    rw [if_neg h0, Int.toNat_natCast]
    obtain ⟨d, hd⟩ : ∃ d, d = xs.getD k 0 := ⟨_, rfl⟩
    rw [← hd]
    by_cases hk : k < xs.length
    · obtain ⟨b, o, rfl, hI⟩ := h.some (by omega)
      have hc := hI.cell.2.2.2.2 k hk
      rw [← hd] at hc
      have hcc := hI.cell.2.2.1
      have hm := hI.cell.2.2.2.1
      clear hd h hI h0
      unfold maxLen at hm
      go_enter Tryz.func84, Tryz.ntmps84
      go_wp2
      go_ret
      exact ⟨rfl, rfl⟩
    · have hd0 : d = 0 := by rw [hd]; exact LgetD_ge (by omega)
      subst hd0
      clear hd h h0
      go_enter Tryz.func84, Tryz.ntmps84
      go_wp2
      go_ret
      exact ⟨rfl, rfl⟩

theorem at_nat (a : Option Addr) (c : Nat) (xs : List Int) (k : Nat) (d : Int) (w : World) (h : Sl w.heap.size w a c xs) (hk : k ≤ 1000000) (hl : xs.length ≤ 1000000) (hd : d = xs.getD k 0) :
    Calls Tryz.prog 84 #[.slice a xs.length c, .int .i64 (k : Int)] w (fun e w' => e = .returned (.int .i64 d) ∧ w = w') := by
  have := at_any a c xs (k : Int) w h (by omega) (by omega) hl
  rwa [if_neg (by omega), Int.toNat_natCast, ← hd] at this

theorem at_quiet (a : Option Addr) (c : Nat) (xs : List Int) (k : Nat) (d : Int) (w : World) (h : Sl w.heap.size w a c xs) (hk : k ≤ 1000000) (hl : xs.length ≤ 1000000) (hd : d = xs.getD k 0) :
    ∀ q, Calls Tryz.prog 84 #[.slice a xs.length c, .int .i64 (k : Int)] (w.drewN q) (fun e w' => e = .returned (.int .i64 d) ∧ w' = w.drewN q) := fun q =>
  (at_nat a c xs k d (w.drewN q) (h.later (below_drewN (Below.refl _ _) q)) hk hl hd).mono fun _ _ h => ⟨h.1, h.2.symm⟩

/-- a list that the call made by append -/
theorem own_sl {w : World} {base n : Nat} {v : Value} {xs : List Int} (h : w.ownsRow base 3 1 v n (xs.map (Value.int .i64))) : ∃ a c, v = .slice a xs.length c ∧ Sl w.heap.size w a c xs ∧ (∀ p, a = some p → base ≤ p.block) := by
  have hl : xs.length = n := by have := h.1; simpa using this
  rcases h.2 with ⟨hv, h0⟩ | ⟨g, cap, _, hv, hg, _⟩
  · subst hv
    obtain rfl : xs = [] := List.eq_nil_of_length_eq_zero (by omega)
    exact ⟨none, 0, rfl, .nil, fun p hp => by cases hp⟩
  · subst hv
    subst hl
    exact ⟨_, cap, rfl, sl_of_row h, fun p hp => by cases hp; exact hg⟩

end Go.Proofs.YtebejllehbpahaaGreatDoor

/- A list of limbs without zeros at its end. -/
namespace Go.Proofs.YtebejllehbpahaaGreatDoor
open Go.RowKit Go.Proofs.ArM

set_option maxHeartbeats 1600000 in
set_option maxRecDepth 100000 in
theorem ptrim_any (a : Option Addr) (c : Nat) (xs : List Int) (w : World) (h : Sl w.heap.size w a c xs) (hx : LDig xs) (hl : xs.length ≤ 1000000) :
    Calls Tryz.prog 68 #[.slice a xs.length c] w (OutTr a c xs w) := by
  rcases h with ⟨rfl, rfl, rfl⟩ | ⟨b, o, rfl, hI⟩
  · go_enter Tryz.func68, Tryz.ntmps68
    go_wp2_with fail
    go_loop [0] (fun v => v = .slice none 0 0) (fun _ => 0)
    case atStart => rfl
    case round =>
      subst hrel
      go_wp2
      go_ret
      exact ⟨0, rfl, Nat.le_refl _, Lib.hid (by simp [Lval, Ldigs_zero]), rfl⟩
  · have hcc := hI.cell.2.2.1
    have hm := hI.cell.2.2.2.1
    have hcx := hI.cell.2.2.2.2
    unfold maxLen at hm
    have HC := Lib.hid hcx
    clear hcx
    go_enter Tryz.func68, Tryz.ntmps68
    go_wp2_with fail
    go_loop [0] (fun v => ∃ k : Nat, v = .slice (some ⟨b, o, none⟩) k c ∧ k ≤ xs.length ∧ Hid (∀ j, k ≤ j → j < xs.length → xs.getD j 0 = 0)) (fun v => match v with | .slice _ k _ => k | _ => 0)
    case atStart => exact ⟨xs.length, rfl, Nat.le_refl _, Lib.hid (fun j h1 h2 => by omega)⟩
    case round =>
      obtain ⟨k, rfl, hk, hz⟩ := hrel
      rcases Nat.eq_zero_or_pos k with rfl | hk0
      · have hv := Lib.hid (Lcanon_take hx (n := 0) hk hz.out (.inl rfl))
        go_wp2
        go_ret
        exact ⟨0, rfl, Nat.zero_le _, Lib.hid (by have := Leq_digs hv.out.1; rwa [hv.out.2] at this), rfl⟩
      · obtain ⟨j, rfl⟩ : ∃ j, k = j + 1 := ⟨k - 1, by omega⟩
        obtain ⟨d, hd⟩ : ∃ d, d = xs.getD j 0 := ⟨_, rfl⟩
        have cd := HC.out j (by omega)
        rw [← hd] at cd
        have HD := Lib.hid hd
        clear hd
        by_cases h0 : d = 0
        · subst h0
          have hz2 : Hid (∀ j', j ≤ j' → j' < xs.length → xs.getD j' 0 = 0) := Lib.hid (fun j' h1 h2 => by
            rcases Nat.eq_or_lt_of_le h1 with rfl | h3
            · exact HD.out.symm
            · exact hz.out j' h3 h2)
          go_wp2
          go_round
          case rel => exact ⟨j, rfl, by omega, hz2⟩
          case measure => simp
        · have hv := Lib.hid (Lcanon_take hx (n := j + 1) hk hz.out (.inr (by rw [Nat.add_sub_cancel, ← HD.out]; exact h0)))
          have h0' : (d == 0) = false := by rw [beq_eq_false_iff_ne]; exact h0
          go_wp2
          go_ret
          exact ⟨j + 1, rfl, hk, Lib.hid (by have := Leq_digs hv.out.1; rwa [hv.out.2] at this), rfl⟩

end Go.Proofs.YtebejllehbpahaaGreatDoor
