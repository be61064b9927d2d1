/- The program's reader of metacode: a list in a box, and what is taken off it. -/
import Derived.Test.YtfajodndpoepcaaDp
import Derived.RangeFuncBox
namespace Go.Proofs.Ytfajodndpoepcaa
open Go.RowKit TmM

/-- the panic with which the program leaves what is no metacode. -/
def wrongP : List PanicEntry := [{ v := .iface 54 (.agg #[]), recovered := false }]

/-- beside block g no old block has changed, and none below g. -/
structure Only (g : Nat) (w w' : World) : Prop where
  below : Below g w w'
  block : ∀ b, b < w.heap.size → b ≠ g → w'.heap[b]? = w.heap[b]?
theorem Only.refl (g : Nat) (w : World) : Only g w w := ⟨Below.refl _ _, fun _ _ _ => rfl⟩
theorem Only.trans {g : Nat} {w w' w'' : World} (h : Only g w w') (k : Only g w' w'') : Only g w w'' :=
  ⟨h.below.trans k.below, fun b hb hg => (k.block b (Nat.lt_of_lt_of_le hb h.below.size) hg).trans (h.block b hb hg)⟩
theorem Only.of_below {g : Nat} {w w' : World} (h : Below w.heap.size w w') (hg : g ≤ w.heap.size) : Only g w w' := ⟨h.mono hg, fun b hb _ => h.block b hb⟩
theorem Only.setCell {g j : Nat} {w : World} (v : Value) : Only g w (w.setCell ⟨g, j, none⟩ v) :=
  ⟨Below.setCell (p := ⟨g, j, none⟩) (Below.refl g w) (Nat.le_refl g) v, fun _ _ hne => Below.heap_setCell _ _ _ _ hne⟩
theorem Only.alloc {g : Nat} {w w' : World} (h : Only g w w') (hg : g ≤ w'.heap.size) (o : Obj) : Only g w (w'.alloc o) := h.trans (Only.of_below ((Below.refl _ _).alloc (Nat.le_refl _) _) hg)
theorem Only.set {g b j : Nat} {w w' : World} (h : Only g w w') (hb : b = g ∨ w.heap.size ≤ b) (hg : g ≤ b) (v : Value) : Only g w (w'.setCell ⟨b, j, none⟩ v) :=
  ⟨h.below.setCell (p := ⟨b, j, none⟩) hg v, fun i hi hne => (Below.heap_setCell _ _ _ _ (by simp; omega)).trans (h.block i hi hne)⟩
theorem Only.later {g n : Nat} {w w' : World} (h : Only g w w') (hn : n ≤ g) : Below n w w' := h.below.mono hn

/-- block g holds a list of terms that lie in blocks below n. -/
def Rd (g n : Nat) (w : World) (r : Fo) : Prop := ∃ a cap, Boxed w g 22 (.slice a r.len cap) ∧ Sl n w a cap r
theorem Rd.later {g n : Nat} {w w' : World} {r : Fo} (h : Rd g n w r) (hb : Below w.heap.size w w') (hn : n ≤ w.heap.size) : Rd g n w' r := by
  obtain ⟨a, cap, h1, h2⟩ := h
  exact ⟨a, cap, (hb.block g h1.lt).trans h1, h2.below (hb.mono hn) (Nat.le_refl _)⟩
theorem Rd.lt {g n : Nat} {w : World} {r : Fo} (h : Rd g n w r) : g < w.heap.size := by
  obtain ⟨a, cap, h1, _⟩ := h
  exact h1.lt

/-- what a term is that a reader gives. -/
def OutNx (g n : Nat) (w : World) (k : Int) (t : ByteArray) (c r : Fo) (e : Ending) (w' : World) : Prop :=
  ∃ a cap, e = .returned (.agg #[.int .i64 k, .string t, .slice a c.len cap]) ∧ Hid (Sl n w' a cap c) ∧ Hid (Rd g n w' r) ∧ Hid (Only g w w')
/-- the program gives up. -/
def OutX (g : Nat) (w : World) (e : Ending) (w' : World) : Prop := e = .panicked wrongP ∧ Hid (Only g w w')

theorem must_true (w : World) : Calls Try.prog 65 #[.bool true] w fun e w' => e = .returned (.tuple #[]) ∧ w = w' := by
  have hnot : ∀ (x : Bool) (w : World), (Op.unary .not (.bool x)).run Try.prog w = .ok (.bool (!x)) w := fun _ _ => rfl
  go_enter Try.func65, Try.ntmps65
  go_wp2
  go_end0
  exact ⟨rfl, rfl⟩
theorem must_false (w : World) : Calls Try.prog 65 #[.bool false] w fun e w' => e = .panicked wrongP ∧ w = w' := by
  have hnot : ∀ (x : Bool) (w : World), (Op.unary .not (.bool x)).run Try.prog w = .ok (.bool (!x)) w := fun _ _ => rfl
  go_enter Try.func65, Try.ntmps65
  go_wp2
  exact ⟨rfl, rfl, rfl⟩

theorem rmore_any (g n : Nat) (w : World) (r : Fo) (hR : Rd g n w r) : Calls Try.prog 66 #[.pointer (some ⟨g, 0, none⟩)] w fun e w' => e = .returned (.bool (decide (0 < r.len))) ∧ w = w' := by
  obtain ⟨a, cap, h1, h2⟩ := hR
  have c1 := h1.cell
  obtain ⟨m, hm⟩ : ∃ m, m = r.len := ⟨_, rfl⟩
  rw [← hm] at c1 ⊢
  clear h1 h2 hm
  by_cases hc : 0 < m
  · have hc2 : (0 : Int) < (m : Int) := by omega
    obtain ⟨q, hq⟩ : ∃ q, q = decide (0 < m) := ⟨_, rfl⟩
    have HD := Lib.hid (hq.trans (decide_eq_true hc))
    rw [← hq]
    clear hq
    go_enter Try.func66, Try.ntmps66
    go_wp2
    go_ret
    exact ⟨by rw [HD.out]; rfl, rfl⟩
  · have hc2 : ¬ (0 : Int) < (m : Int) := by omega
    obtain ⟨q, hq⟩ : ∃ q, q = decide (0 < m) := ⟨_, rfl⟩
    have HD := Lib.hid (hq.trans (decide_eq_false hc))
    rw [← hq]
    clear hq
    go_enter Try.func66, Try.ntmps66
    go_wp2
    go_ret
    exact ⟨by rw [HD.out]; rfl, rfl⟩

theorem rnext_none (g n : Nat) (w : World) (hR : Rd g n w .nil) : Calls Try.prog 64 #[.pointer (some ⟨g, 0, none⟩)] w (OutX g w) := by
  obtain ⟨a, cap, h1, h2⟩ := hR
  have c1 := h1.cell
  have hg := h1.lt
  have d1 : (w.alloc (.cells #[.int .i64 0, .string ⟨#[]⟩, .slice none 0 0] 35)).cell? ⟨g, 0, none⟩ = some (.slice a 0 cap) := (((Below.refl w.heap.size w).alloc (Nat.le_refl _) _).cell (p := ⟨g, 0, none⟩) hg).trans c1
  clear h1 h2
  go_enter Try.func64, Try.ntmps64
  go_wp2_with fail
  refine (must_false _).mono ?_
  rintro e w2 ⟨rfl, rfl⟩
  refine ⟨rfl, rfl, Lib.hid (Only.of_below ((Below.refl _ _).alloc (Nat.le_refl _) _) (Nat.le_of_lt hg))⟩

theorem nx_out {g n m cap' capc : Nat} {w : World} {k : Int} {t : ByteArray} {c r : Fo} {v0 : Value} {a' ac : Option Addr} (hn : n ≤ g) (H1 : Boxed w g 22 v0) (HT : Sl n w a' cap' r) (HSC : Sl n w ac capc c) (hm : m = r.len) (o1 o2 : Obj) :
    OutNx g n w k t c r (.returned (.agg #[.int .i64 k, .string t, .slice ac c.len capc])) (((w.setCell ⟨g, 0, none⟩ (.slice a' m cap')).alloc o1).alloc o2) := by
  subst hm
  have hg := H1.lt
  have ho : Only g w (((w.setCell ⟨g, 0, none⟩ (.slice a' r.len cap')).alloc o1).alloc o2) :=
    ((Only.setCell _).alloc (by simp [World.setCell]; omega) _).alloc (by simp [World.setCell]; omega) _
  have hb := ho.later hn
  have hx := ((Boxed.set (.slice a' r.len cap') H1).alloc o1).alloc o2
  exact ⟨ac, capc, rfl, Lib.hid (HSC.below hb (Nat.le_refl _)), Lib.hid ⟨a', cap', hx, HT.below hb (Nat.le_refl _)⟩, Lib.hid ho⟩

set_option maxHeartbeats 1600000 in
theorem rnext_some (g n : Nat) (w : World) (k : Int) (t : ByteArray) (c r : Fo) (hR : Rd g n w (.cons k t c r)) (hn : n ≤ g) : Calls Try.prog 64 #[.pointer (some ⟨g, 0, none⟩)] w (OutNx g n w k t c r) := by
  obtain ⟨a, cap, h1, h2⟩ := hR
  obtain ⟨b, o, hab, hbw, HCX⟩ := base_of h2
  obtain rfl := hab (by simp)
  have hb := hbw (by simp)
  have HT := Lib.hid h2.tail
  have hcap := h2.cap
  unfold maxLen at hcap
  have hc1 : 1 ≤ cap := by have := hcap.1; simp at this; omega
  obtain ⟨c0, c1, ac, capc, c2, hsc⟩ := HCX.out 0 k t c r (by simp [Fo.drop])
  simp only [Nat.zero_mul, Nat.add_zero] at c0 c1 c2
  have HSC := Lib.hid hsc
  have H1 := Lib.hid h1
  have hg := h1.lt
  obtain ⟨m, hm⟩ : ∃ m, m = r.len := ⟨_, rfl⟩
  have HM := Lib.hid hm
  have k1 := h1.cell
  have f1 := h1.frozen
  rw [Fo.len_cons, ← hm] at k1
  have hmb : m + 1 ≤ cap := by have := hcap.1; simp at this; omega
  have hmc : m + 1 ≤ 9223372036854775807 := by omega
  clear hm hsc HCX h2 hab hbw h1
  by_cases hc1 : cap = 1
  · subst hc1
    have hm1 : m = 0 := by omega
    subst hm1
    have hm0 : (0 : Int) < ((0 : Nat) : Int) + 1 := by omega
    have hbs : b < w.heap.size := by omega
    have HR0 := Lib.hid (show Sl n w (some ⟨b, o, none⟩) 0 r from ⟨by rw [← HM.out]; exact Nat.le_refl _, Nat.zero_le _, by simp, .inl (by have := HM.out; cases r with
      | nil => rfl
      | cons _ _ _ _ => simp at this)⟩)
    go_enter Try.func64, Try.ntmps64
    go_wp2_with fail
    refine (must_true _).mono ?_
    rintro e w2 ⟨rfl, rfl⟩
    go_wp2
    refine bodyPost_ret (v := .agg #[.int .i64 k, .string t, .slice ac c.len capc]) (by simp [results, Try.results64, go_sem]) rfl ?_
    exact nx_out hn H1.out HR0.out HSC.out HM.out _ _
  · have hci : ((m : Int) + 1) ≤ (cap : Int) := by omega
    have hc0 : ¬ cap = 0 := by omega
    have hc3 : ¬ cap - 1 = 0 := by omega
    have hm0 : (0 : Int) < (m : Int) + 1 := by omega
    have hbs : b < w.heap.size := by omega
    go_enter Try.func64, Try.ntmps64
    go_wp2_with fail
    refine (must_true _).mono ?_
    rintro e w2 ⟨rfl, rfl⟩
    go_wp2
    refine bodyPost_ret (v := .agg #[.int .i64 k, .string t, .slice ac c.len capc]) (by simp [results, Try.results64, go_sem]) rfl ?_
    exact nx_out hn H1.out HT.out HSC.out HM.out _ _
end Go.Proofs.Ytfajodndpoepcaa
