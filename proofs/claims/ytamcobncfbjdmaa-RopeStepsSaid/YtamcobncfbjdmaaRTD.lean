/- The reference's Join of lists. -/
import Derived.Test.YtamcobncfbjdmaaRTC
import Derived.Test.YtamcobncfbjdmaaRTA
import Derived.Test.YtamcobncfbjdmaaRL0
import Derived.Laws.AppendOwnNone
namespace Go.Proofs.Ytamcobncfbjdmaa
open Go.RowKit Go.Shelf Go.BigFrame
attribute [local go_sem] Oper.semAt_some

theorem app_sq {ops : Array Oper} {rest : List Oper} {o : Oper} {a : Act} {w : World} {Q : Exit → Act → World → Prop} (hgd : o.guard = none) (s x : Operand) (t : TypeId)
    (ho : o.op = .call { callee := .builtin .append, args := #[s, x], argTypes := #[t, t] }) (ht : Try.prog.underlying t = some (.slice 3))
    (base n : Nat) (v : Value) (xs : List Value) (hs : a.eval s = v) (hown : w.ownsRow base 3 1 v n xs) (hv : v ≠ .slice none 0 0)
    (m c : Nat) (p : Option Addr) (ys : List Int) (hx : a.eval x = .slice p m c) (hm : m = ys.length) (hp : p = none → c = 0) (hS : SqL w p ys) (h1 : n + m ≤ 1000000) (hbase : base ≤ w.heap.size)
    (h : ∀ v' w', w'.ownsRow base 3 1 v' (n + m) (xs ++ ys.map encI) → v' ≠ .slice none 0 0 → w.grownBy w' v.ownBlock → wpList Try.prog ops Q rest (a.put o.dst v') w') : wpList Try.prog ops Q (o :: rest) a w := by
  obtain ⟨i0, hi, hz0, hz1, hz2⟩ := info_parts Try.infoI
  cases p with
  | none =>
    obtain rfl := hp rfl
    cases ys with
    | cons y ys => obtain ⟨_, _, he, _⟩ := hS 0 y rfl; cases he
    | nil =>
      subst hm
      refine wpList_append_own_none hgd s x t ho base 3 i0 1 ht hi v n _ hs hown hx (h v w ?_ hv (World.grownBy.refl w _))
      simpa using hown
  | some ad =>
    refine wpList_append_own _ hgd s x t ho base 3 i0 (.int .i64 0) 1 8 ht hi hz0 hz1 hz2 rfl (by decide) v n _ hs hown ad m c (ys.map encI) hx (by simp [hm]) (fun j u hu => ?_) (fun u hu => ?_) (by unfold maxLen; omega) (by omega) hbase (fun v' w' h2 h3 h4 => h v' w' h2 (fun e => hv (h4.1 e).1) h3)
    · rw [List.getElem?_map] at hu
      obtain ⟨y, hy, rfl⟩ := Option.map_eq_some_iff.1 hu
      obtain ⟨b, o', he, _, h3⟩ := hS j y hy
      cases he
      rw [Addr.add_lit]
      exact h3
    · obtain ⟨y, _, rfl⟩ := List.mem_map.1 hu
      rfl

/-- a list of the reference: never nil. -/
def OutR (l : List Int) (w : World) (r : Ending) (w' : World) : Prop := ∃ g c, r = .returned (.slice (some ⟨g, 0, none⟩) l.length c) ∧ (l.length ≤ c ∧ w.heap.size ≤ g) ∧ Hid (SqL w' (some ⟨g, 0, none⟩) l) ∧ Hid (Below w.heap.size w w')

theorem sq_of_owns {w : World} {base n : Nat} {v : Value} {l : List Int} (h : w.ownsRow base 3 1 v n (l.map encI)) (hv : v ≠ .slice none 0 0) (hn : n = l.length) : ∃ g c, v = .slice (some ⟨g, 0, none⟩) l.length c ∧ (l.length ≤ c ∧ base ≤ g) ∧ SqL w (some ⟨g, 0, none⟩) l := by
  subst hn
  rcases h.2 with ⟨h0, _⟩ | ⟨g, cap, cur, rfl, hb, hg, hc, _, hcs, ht⟩
  · exact absurd h0 hv
  · refine ⟨g, cap, rfl, ⟨hc, hb⟩, fun j x hx => ⟨g, 0, rfl, (Array.getElem?_eq_some_iff.1 hg).1, ?_⟩⟩
    rw [Nat.zero_add]
    refine (owns_cells0 h).2 j (encI x) ?_
    rw [List.getElem?_map, hx]
    rfl

set_option maxHeartbeats 3200000 in
set_option maxRecDepth 100000 in
theorem refJoin_any (p1 p2 : Option Addr) (c1 c2 : Nat) (l1 l2 : List Int) (w : World) (h1 : SqL w p1 l1) (h2 : SqL w p2 l2) (z1 : p1 = none → c1 = 0) (z2 : p2 = none → c2 = 0) (hs : l1.length + l2.length ≤ 1000000) :
    Calls Try.prog 50 #[.slice p1 l1.length c1, .slice p2 l2.length c2] w (OutR (l1 ++ l2) w) := by
  have hI0 := Lib.hid (World.ownsRow_lit (base := w.heap.size) (e := 3) (size := 1) w #[] 0 (Nat.le_refl _) (by unfold maxLen; omega) rfl)
  have hba : Below w.heap.size w (w.alloc (.cells #[] 3)) := (Below.refl _ _).alloc (Nat.le_refl _) _
  have S1 := Lib.hid (h1.later hba)
  have S2 : Hid (∀ w', Below w.heap.size w w' → SqL w' p2 l2) := Lib.hid fun w' hw => h2.later hw
  have HB := Lib.hid hba
  have HZ := Lib.hid (And.intro z1 z2)
  obtain ⟨n1, hn1⟩ : ∃ n, n = l1.length := ⟨_, rfl⟩
  obtain ⟨n2, hn2⟩ : ∃ n, n = l2.length := ⟨_, rfl⟩
  have HN := Lib.hid (And.intro hn1 hn2)
  rw [← hn1, ← hn2] at hs ⊢
  clear hn1 hn2 h1 h2 hba z1 z2
  go_enter Try.func50, Try.ntmps50
  go_wp2_with (first
    | (at_builtin; (refine app_sq rfl (.tmp 5) (.tmp 6) 22 rfl Try.underlying22 w.heap.size 0 (.slice (some ⟨w.heap.size, 0, none⟩) 0 0) [] rfl hI0.out (by simp) n1 c1 p1 l1 rfl HN.out.1 HZ.out.1 S1.out (by omega) (by simp) ?_); intro v1 w1 hO1 hv1 hg1; have HO1 := Lib.hid hO1; have HV1 := Lib.hid hv1; have HB1 := Lib.hid (HB.out.grown hg1 (by simp) (fun j hj => by simp [Value.ownBlock] at hj; omega)); clear hO1 hv1 hg1)
    | (at_builtin; (refine app_sq rfl (.tmp 7) (.tmp 8) 22 rfl Try.underlying22 w.heap.size (0 + n1) v1 ([] ++ l1.map encI) rfl HO1.out HV1.out n2 c2 p2 l2 rfl HN.out.2 HZ.out.2 (S2.out _ HB1.out) (by omega) HB1.out.size ?_); intro v2 w2 hO2 hv2 hg2; have HO2 := Lib.hid hO2; have HV2 := Lib.hid hv2; have HB2 := Lib.hid (HB1.out.grown hg2 HB1.out.size (fun j hj => owns_block HO1.out j hj)); clear hO2 hv2 hg2)
    | fail)
  go_ret
  obtain ⟨g, c, hv, hc, hq⟩ := sq_of_owns (l := l1 ++ l2) (by have := HO2.out; rw [List.nil_append, ← List.map_append] at this; exact this) HV2.out (by rw [List.length_append, ← HN.out.1, ← HN.out.2]; omega)
  exact ⟨g, c, by rw [hv]; rfl, hc, Lib.hid hq, HB2⟩
end Go.Proofs.Ytamcobncfbjdmaa
