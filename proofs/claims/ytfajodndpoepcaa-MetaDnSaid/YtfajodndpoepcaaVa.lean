/- The program's terms of metacode. -/
import Derived.Test.YtfajodndpoepcaaUd
import Derived.RangeFuncBox
namespace Go.Proofs.Ytfajodndpoepcaa
open Go.RowKit TmM

theorem mword_any (s : ByteArray) (w : World) : Calls Try.prog 76 #[.string s] w (OutV w (.agg #[.int .i64 2, .string s, .slice none 0 0])) := by
  go_enter Try.func76, Try.ntmps76
  go_wp2
  refine bodyPost_ret (v := .agg #[.int .i64 2, .string s, .slice none 0 0]) (by simp [results, Try.results76, go_sem]) rfl ?_
  have hb : Below w.heap.size w (w.alloc (.cells #[.int .i64 2, .string s, .slice none 0 0] 35)) := (Below.refl _ _).alloc (Nat.le_refl _) _
  exact ⟨rfl, hb⟩
theorem mgroup_any (a : Option Addr) (m c : Nat) (w : World) : Calls Try.prog 48 #[.slice a m c] w (OutV w (.agg #[.int .i64 4, .string ⟨#[]⟩, .slice a m c])) := by
  go_enter Try.func48, Try.ntmps48
  go_wp2
  refine bodyPost_ret (v := .agg #[.int .i64 4, .string ⟨#[]⟩, .slice a m c]) (by simp [results, Try.results48, go_sem]) rfl ?_
  have hb : Below w.heap.size w (w.alloc (.cells #[.int .i64 4, .string ⟨#[]⟩, .slice a m c] 35)) := (Below.refl _ _).alloc (Nat.le_refl _) _
  exact ⟨rfl, hb⟩
theorem mchar_42  (w : World) : Calls Try.prog 68 #[.int .u8 42] w (OutV w (.agg #[.int .i64 1, .string ⟨#[42]⟩, .slice none 0 0])) := by
  go_enter Try.func68, Try.ntmps68
  go_wp2
  refine bodyPost_ret (v := .agg #[.int .i64 1, .string ⟨#[42]⟩, .slice none 0 0]) (by simp [results, Try.results68, go_sem]; rfl) rfl ?_
  have hb : Below w.heap.size w (w.alloc (.cells #[.int .i64 1, .string ⟨#[42]⟩, .slice none 0 0] 35)) := (Below.refl _ _).alloc (Nat.le_refl _) _
  exact ⟨rfl, hb⟩
theorem mchar_83  (w : World) : Calls Try.prog 68 #[.int .u8 83] w (OutV w (.agg #[.int .i64 1, .string ⟨#[83]⟩, .slice none 0 0])) := by
  go_enter Try.func68, Try.ntmps68
  go_wp2
  refine bodyPost_ret (v := .agg #[.int .i64 1, .string ⟨#[83]⟩, .slice none 0 0]) (by simp [results, Try.results68, go_sem]; rfl) rfl ?_
  have hb : Below w.heap.size w (w.alloc (.cells #[.int .i64 1, .string ⟨#[83]⟩, .slice none 0 0] 35)) := (Below.refl _ _).alloc (Nat.le_refl _) _
  exact ⟨rfl, hb⟩
theorem mchar_84  (w : World) : Calls Try.prog 68 #[.int .u8 84] w (OutV w (.agg #[.int .i64 1, .string ⟨#[84]⟩, .slice none 0 0])) := by
  go_enter Try.func68, Try.ntmps68
  go_wp2
  refine bodyPost_ret (v := .agg #[.int .i64 1, .string ⟨#[84]⟩, .slice none 0 0]) (by simp [results, Try.results68, go_sem]; rfl) rfl ?_
  have hb : Below w.heap.size w (w.alloc (.cells #[.int .i64 1, .string ⟨#[84]⟩, .slice none 0 0] 35)) := (Below.refl _ _).alloc (Nat.le_refl _) _
  exact ⟨rfl, hb⟩
theorem mchar_69  (w : World) : Calls Try.prog 68 #[.int .u8 69] w (OutV w (.agg #[.int .i64 1, .string ⟨#[69]⟩, .slice none 0 0])) := by
  go_enter Try.func68, Try.ntmps68
  go_wp2
  refine bodyPost_ret (v := .agg #[.int .i64 1, .string ⟨#[69]⟩, .slice none 0 0]) (by simp [results, Try.results68, go_sem]; rfl) rfl ?_
  have hb : Below w.heap.size w (w.alloc (.cells #[.int .i64 1, .string ⟨#[69]⟩, .slice none 0 0] 35)) := (Below.refl _ _).alloc (Nat.le_refl _) _
  exact ⟨rfl, hb⟩
theorem mchar_86  (w : World) : Calls Try.prog 68 #[.int .u8 86] w (OutV w (.agg #[.int .i64 1, .string ⟨#[86]⟩, .slice none 0 0])) := by
  go_enter Try.func68, Try.ntmps68
  go_wp2
  refine bodyPost_ret (v := .agg #[.int .i64 1, .string ⟨#[86]⟩, .slice none 0 0]) (by simp [results, Try.results68, go_sem]; rfl) rfl ?_
  have hb : Below w.heap.size w (w.alloc (.cells #[.int .i64 1, .string ⟨#[86]⟩, .slice none 0 0] 35)) := (Below.refl _ _).alloc (Nat.le_refl _) _
  exact ⟨rfl, hb⟩

/-- beside the writer's block g and its own list no block has changed. -/
structure Kept (g : Nat) (v v' : Value) (w w' : World) : Prop where
  below : Below g w w'
  block : ∀ b, b < w.heap.size → b ≠ g → v.ownBlock ≠ some b → w'.heap[b]? = w.heap[b]?
  own : ∀ k, v'.ownBlock = some k → v.ownBlock = some k ∨ w.heap.size ≤ k

theorem Kept.refl (g : Nat) (v : Value) (w : World) : Kept g v v w w := ⟨Below.refl _ _, fun _ _ _ _ => rfl, fun _ h => .inl h⟩
theorem Kept.trans {g : Nat} {v v' v'' : Value} {w w' w'' : World} (h : Kept g v v' w w') (k : Kept g v' v'' w' w'') : Kept g v v'' w w'' := by
  refine ⟨h.below.trans k.below, fun b hb hg hv => ?_, fun b hb => ?_⟩
  · refine (k.block b (Nat.lt_of_lt_of_le hb h.below.size) hg (fun e => ?_)).trans (h.block b hb hg hv)
    rcases h.own b e with h1 | h1
    · exact hv h1
    · omega
  · rcases k.own b hb with h1 | h1
    · exact h.own b h1
    · exact .inr (Nat.le_trans h.below.size h1)
theorem Kept.ahead {g : Nat} {v v' : Value} {w w' w'' : World} (h : Below w.heap.size w w') (k : Kept g v v' w' w'') (hg : g < w.heap.size) : Kept g v v' w w'' :=
  ⟨(h.mono (by omega)).trans k.below, fun b hb hne hv => (k.block b (Nat.lt_of_lt_of_le hb h.size) hne hv).trans (h.block b hb), fun b hb => (k.own b hb).imp id (fun h1 => Nat.le_trans h.size h1)⟩
theorem Kept.behind {g : Nat} {v v' : Value} {w w' w'' : World} (h : Kept g v v' w w') (k : Below w'.heap.size w' w'') (hg : g < w.heap.size) : Kept g v v' w w'' :=
  ⟨h.below.trans (k.mono (by have := h.below.size; omega)), fun b hb hne hv => (k.block b (Nat.lt_of_lt_of_le hb h.below.size)).trans (h.block b hb hne hv), h.own⟩

theorem Built.under {base : Nat} {w w' : World} {v : Value} {G : Fo} (h : Built base w v G) (hk : ∀ b, base ≤ b → b < w.heap.size → w'.heap[b]? = w.heap[b]?) (hz : w.heap.size ≤ w'.heap.size) : Built base w' v G := by
  have hlt := fun k (hk : v.ownBlock = some k) => h.own_lt hk
  obtain ⟨xs, ho, hr, hs⟩ := h
  refine ⟨xs, ⟨ho.1, ?_⟩, hr.mono (fun b hb => ⟨hb.1, Nat.lt_of_lt_of_le hb.2.1 hz, hb.2.2⟩) (fun b hb => hk b hb.1 hb.2.1), Nat.le_trans hs hz⟩
  rcases ho.2 with h0 | ⟨g, cap, cur, rfl, h1, hg, h3⟩
  · exact .inl h0
  · exact .inr ⟨g, cap, cur, rfl, h1, (hk g h1 (hlt g rfl)).trans hg, h3⟩

/-- the writer at g holds the metacode G. -/
def Wr (g : Nat) (w : World) (v : Value) (G : Fo) : Prop := Boxed w g 43 v ∧ Built (g + 1) w v G
theorem Wr.later {g : Nat} {w w' : World} {v : Value} {G : Fo} (h : Wr g w v G) (hb : Below w.heap.size w w') : Wr g w' v G := ⟨(hb.block g h.1.lt).trans h.1, h.2.later hb⟩

/-- what a method of the writer leaves. -/
def OutW (g : Nat) (w : World) (v : Value) (G : Fo) (e : Ending) (w' : World) : Prop := e = .returned (.tuple #[]) ∧ ∃ v', Hid (Wr g w' v' G) ∧ Kept g v v' w w'

theorem put_any (g : Nat) (w : World) (v : Value) (G H : Fo) (a : Option Addr) (m c : Nat) (hw : Wr g w v G) (hm : m = H.len) (hp : Put (fun b => g + 1 ≤ b ∧ b < w.heap.size ∧ v.ownBlock ≠ some b) w a c H) (hl : G.len + H.len ≤ 8000000) :
    Calls Try.prog 75 #[.pointer (some ⟨g, 0, none⟩), .slice a m c] w (OutW g w v (G.app H)) := by
  have c1 := hw.1.cell
  have f1 := hw.1.frozen
  have HW := Lib.hid hw
  have HP := Lib.hid hp
  have HM := Lib.hid hm
  have HL := Lib.hid hl
  clear hw hp hm hl
  go_enter Try.func75, Try.ntmps75
  go_wp2_with (at_builtin; refine wpList_append_built rfl (.tmp 8) (.tmp 9) rfl HW.out.2 rfl rfl HM.out HP.out HL.out ?_; intro v6 w6 hB6 hgrow6 hat6; have bx := (hgrow6.block g HW.out.1.lt (fun e => by have := HW.out.2.own_ge e.symm; omega)).trans HW.out.1; have c6 := Boxed.cell bx; have f6 := Boxed.frozen bx; obtain ⟨a6, m6, cap6, hv6, hm6, hs6⟩ := hB6.slm; subst hv6; clear hm6 hs6)
  go_end0
  refine ⟨rfl, _, Lib.hid ⟨Boxed.set _ bx, hB6.under (fun b hb _ => Below.heap_setCell _ _ _ _ (by simp; omega)) (by simp [World.setCell])⟩, ⟨(((Below.refl g w).grown hgrow6 (Nat.le_of_lt HW.out.1.lt) (fun k hk => by have := HW.out.2.own_ge hk; omega)).setCell (Nat.le_refl _) _), fun b hb hne hv => (Below.heap_setCell _ _ _ _ (by simp; exact hne)).trans (hgrow6.block b hb (fun e => hv e.symm)), fun k hk => ?_⟩⟩
  rcases hat6 with h | h
  · exact .inl (h ▸ hk)
  · rw [h] at hk; cases hk; exact .inr (Nat.le_refl _)
end Go.Proofs.Ytfajodndpoepcaa
