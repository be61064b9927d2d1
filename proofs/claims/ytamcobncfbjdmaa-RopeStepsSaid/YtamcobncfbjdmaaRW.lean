/- slices.Concat of lists of ints. -/
import Derived.Test.YtamcobncfbjdmaaRTD
import Derived.Lib.AppendZerosOnto
import Derived.Lib.SliceRun
namespace Go.Proofs.Ytamcobncfbjdmaa
open Go.RowKit Go.Shelf Go.BigFrame
attribute [local go_sem] Oper.semAt_some

/-- append of a list to a row that may be nil. -/
theorem app_sqn {ops : Array Oper} {rest : List Oper} {o : Oper} {a : Act} {w : World} {Q : Exit → Act → World → Prop} (hgd : o.guard = none) (s x : Operand) (t : TypeId)
    (ho : o.op = .call { callee := .builtin .append, args := #[s, x], argTypes := #[t, t] }) (ht : Try.prog.underlying t = some (.slice 3))
    (base n : Nat) (v : Value) (xs : List Value) (hs : a.eval s = v) (hown : w.ownsRow base 3 1 v n xs)
    (m c : Nat) (p : Option Addr) (ys : List Int) (hx : a.eval x = .slice p m c) (hm : m = ys.length) (hp : p = none → c = 0) (hS : SqL w p ys) (h1 : n + m ≤ 1000000) (hbase : base ≤ w.heap.size)
    (h : ∀ v' w', w'.ownsRow base 3 1 v' (n + m) (xs ++ ys.map encI) → w.grownBy w' v.ownBlock → wpList Try.prog ops Q rest (a.put o.dst v') w') : wpList Try.prog ops Q (o :: rest) a w := by
  obtain ⟨i0, hi, hz0, hz1, hz2⟩ := info_parts Try.infoI
  cases p with
  | none =>
    obtain rfl := hp rfl
    cases ys with
    | cons y ys => obtain ⟨_, _, he, _⟩ := hS 0 y rfl; cases he
    | nil =>
      subst hm
      refine wpList_append_own_none hgd s x t ho base 3 i0 1 ht hi v n _ hs hown hx (h v w ?_ (World.grownBy.refl w _))
      simpa using hown
  | some ad =>
    refine wpList_append_own _ hgd s x t ho base 3 i0 (.int .i64 0) 1 8 ht hi hz0 hz1 hz2 rfl (by decide) v n _ hs hown ad m c (ys.map encI) hx (by simp [hm]) (fun j u hu => ?_) (fun u hu => ?_) (by unfold maxLen; omega) (by omega) hbase (fun v' w' h2 h3 _ => h v' w' h2 h3)
    · rw [List.getElem?_map] at hu
      obtain ⟨y, hy, rfl⟩ := Option.map_eq_some_iff.1 hu
      obtain ⟨b, o', he, _, h3⟩ := hS j y hy
      cases he
      rw [Addr.add_lit]
      exact h3
    · obtain ⟨y, _, rfl⟩ := List.mem_map.1 hu
      rfl

/-- a row as a list of ints. -/
theorem sqn_of_owns {w : World} {base n : Nat} {v : Value} {l : List Int} (h : w.ownsRow base 3 1 v n (l.map encI)) (hn : n = l.length) : ∃ p c, v = .slice p l.length c ∧ (l.length ≤ c ∧ ∀ b o s, p = some ⟨b, o, s⟩ → base ≤ b) ∧ SqL w p l := by
  by_cases hv : v = .slice none 0 0
  · subst hn
    rcases h.2 with ⟨_, h0⟩ | ⟨g, cap, cur, hv', _⟩
    · have : l = [] := List.length_eq_zero_iff.1 h0
      subst this
      exact ⟨none, 0, hv, ⟨Nat.le_refl _, fun _ _ _ e => by cases e⟩, fun j x hx => by cases hx⟩
    · rw [hv] at hv'
      cases hv'
  · obtain ⟨g, c, h1, h2, h3⟩ := sq_of_owns h hv hn
    exact ⟨_, c, h1, ⟨h2.1, fun _ _ _ e => by cases e; exact h2.2⟩, h3⟩

set_option maxHeartbeats 3200000 in
set_option maxRecDepth 100000 in
theorem pGrowNil_any (n : Nat) (w : World) (hn : n ≤ 1000000) : Calls Try.prog 64 #[.slice none 0 0, .int .i64 n] w (fun r w' => ∃ v, r = .returned v ∧ Hid (w'.ownsRow w.heap.size 3 1 v 0 []) ∧ Hid (Below w.heap.size w w')) := by
  by_cases h0 : n = 0
  · subst h0
    go_enter Try.func64, Try.ntmps64
    go_wp2
    go_ret
    exact ⟨_, rfl, Lib.hid (World.ownsRow_nil _ _ _ _), Lib.hid (Below.refl _ _)⟩
  · obtain ⟨i0, hi, hz0, hz1, hz2⟩ := info_parts Try.infoI
    have hold : (Builtin.firstCells i0.size 0 (.slice none 0 0)).run Try.prog w.drew = .ok ([] : List Value).toArray w.drew := run_firstCells_none w.drew i0.size 0 0 0
    have hrz : ∀ ty, (Builtin.append_ #[22, 3] ty #[.slice none 0 0, .int .i64 n]).run Try.prog w = .ok (.slice (some ⟨w.heap.size, 0, none⟩) (0 + n) (grownCap w (0 + n) 0 3)) (w.drew.alloc (.cells (([] : List Value).toArray ++ Builtin.zeroCells (Value.int .i64 0).cells n ++ Builtin.zeroCells (Value.int .i64 0).cells (grownCap w (0 + n) 0 3 - (0 + n))) 3)) := fun ty =>
      Lib.run_append_grow_zeros w 22 3 ty 3 i0 (.int .i64 0) .i64 .i64 Try.underlying22 Try.underlying3 hi hz0 none 0 0 [] hold n (by omega) (by rw [hz1]; decide) (by omega) (by omega) (by rw [hz2]; omega) (growslice_fits (by omega) (by rw [hz2]; omega))
    have hGn := grownCap_ge w (0 + n) 0 3
    have hGm := grownCap_le_maxLen w (0 + n) 0 3 (by unfold maxLen; omega)
    obtain ⟨G, hG⟩ : ∃ G, G = grownCap w (0 + n) 0 3 := ⟨_, rfl⟩
    rw [← hG] at hrz hGn hGm
    obtain ⟨cur, hcur⟩ : ∃ cur, cur = ([] : List Value).toArray ++ Builtin.zeroCells (Value.int .i64 0).cells n ++ Builtin.zeroCells (Value.int .i64 0).cells (G - (0 + n)) := ⟨_, rfl⟩
    rw [← hcur] at hrz
    have hcs : cur.size = G * 1 := by
      rw [hcur, Array.size_append, Array.size_append, size_zeroCells, size_zeroCells]
      have : (Value.int .i64 0).cells.size = 1 := rfl
      rw [this]
      simp
      omega
    rw [Nat.zero_add] at hrz hGn
    have HOW := Lib.hid (World.ownsRow_made (base := w.heap.size) (e := 3) (size := 1) w.drew cur G (Nat.le_refl _) hGm hcs)
    have HBB : Hid (Below w.heap.size w (w.drew.alloc (.cells cur 3))) := Lib.hid ((Below.refl _ _).drew.alloc (Nat.le_refl _) _)
    have h1 : ¬ (n : Int) < 0 := by omega
    have h2 : (0 : Int) < (n : Int) := by omega
    clear hold hG hcur hcs hi hz0 hz1 hz2 hGm h0
    go_enter Try.func64, Try.ntmps64
    go_wp2_with (at_builtin; refine Lib.wpList_append_run _ rfl _ _ _ _ rfl _ _ rfl rfl _ _ (hrz _) ?_)
    all_goals (go_ret; exact ⟨_, rfl, HOW, HBB⟩)

def sumN (nn : Nat → Nat) : Nat → Nat
  | 0 => 0
  | j + 1 => sumN nn j + nn j
def catN (xs : Nat → List Int) : Nat → List Int
  | 0 => []
  | j + 1 => catN xs j ++ xs j
theorem sumN_mono (nn : Nat → Nat) {j k : Nat} (h : j ≤ k) : sumN nn j ≤ sumN nn k := by
  induction k with
  | zero => rw [Nat.le_zero.1 h]; exact Nat.le_refl _
  | succ k ih =>
    rcases Nat.eq_or_lt_of_le h with rfl | h
    · exact Nat.le_refl _
    · exact Nat.le_trans (ih (by omega)) (Nat.le_add_right _ _)
theorem len_catN (nn : Nat → Nat) (xs : Nat → List Int) (k : Nat) (h : ∀ j, j < k → nn j = (xs j).length) : ∀ j, j ≤ k → (catN xs j).length = sumN nn j
  | 0, _ => rfl
  | j + 1, hj => by rw [catN, List.length_append, len_catN nn xs k h j (by omega), sumN, h j (by omega)]

set_option maxHeartbeats 6400000 in
set_option maxRecDepth 100000 in
theorem pConcat_any (k kc g : Nat) (pp : Nat → Option Addr) (nn cc : Nat → Nat) (xs : Nat → List Int) (w : World) (hk : k ≤ 1000) (hg : g < w.heap.size) (hc : ∀ j, j < k → w.cell? ⟨g, j, none⟩ = some (.slice (pp j) (nn j) (cc j)))
    (hx : ∀ j, j < k → nn j = (xs j).length ∧ SqL w (pp j) (xs j) ∧ (pp j = none → cc j = 0)) (hs : sumN nn k ≤ 1000000) :
    Calls Try.prog 34 #[.slice (some ⟨g, 0, none⟩) k kc] w (fun r w' => ∃ p c, r = .returned (.slice p (catN xs k).length c) ∧ (catN xs k).length ≤ c ∧ Hid (SqL w' p (catN xs k)) ∧ Hid (Below w.heap.size w w')) := by
  have HC : Hid (∀ j, j < k → w.cell? ⟨g, j, none⟩ = some (.slice (pp j) (nn j) (cc j))) := Lib.hid hc
  have HX := Lib.hid hx
  have HS : Hid (∀ j, j ≤ k → sumN nn j ≤ 1000000) := Lib.hid fun j hj => Nat.le_trans (sumN_mono nn hj) hs
  have HLN := Lib.hid (len_catN nn xs k (fun j hj => (hx j hj).1) k (Nat.le_refl _))
  have CG := Lib.hid (pGrowNil_any (sumN nn k) w hs)
  clear hc hx hs
  go_enter Try.func34, Try.ntmps34
  go_wp2
  go_loopw [3, 11] (fun v3 v11 wr => ∃ j : Nat, v3 = .int .i64 (sumN nn j) ∧ v11 = .int .i64 j ∧ j ≤ k ∧ wr = w) (fun _ i _ => k - (intOf i).toNat)
  case atStart => exact ⟨0, rfl, rfl, Nat.zero_le _, rfl⟩
  case round =>
    obtain ⟨j, rfl, rfl, hjk, hwr⟩ := hrel
    obtain rfl := hwr.symm
    by_cases hj : j < k
    · have cj := HC.out j hj
      have s1 := HS.out (j + 1) (by omega)
      rw [sumN] at s1
      have hji : (j : Int) < (k : Int) := by omega
      have hw1 : IntKind.i64.wrap ((sumN nn j : Int) + (nn j : Int)) = ((sumN nn (j + 1) : Nat) : Int) := by rw [sumN, IntWalk.i64_in _ (by omega)]; omega
      have hn1 : ¬ ((sumN nn (j + 1) : Nat) : Int) < 0 := by omega
      have hw2 : IntKind.i64.wrap ((j : Int) + 1) = (j : Int) + 1 := IntWalk.i64_in _ (by omega)
      go_wp2
      go_roundw
      case rel => exact ⟨j + 1, by first | rfl | trivial | go_num, by first | rfl | trivial | go_num, by omega, by first | rfl | trivial⟩
      case measure => simp [intOf]; omega
    · obtain rfl : j = k := by omega
      go_wp2_with (first
        | (go_at_call 64; refine CG.out.mono ?_; rintro r w1 ⟨v, rfl, HO, HB⟩)
        | fail)
      go_loopw [6, 27] (fun v6 v27 wr => ∃ i : Nat, v27 = .int .i64 i ∧ i ≤ j ∧ Hid (wr.ownsRow w.heap.size 3 1 v6 (sumN nn i) ((catN xs i).map encI)) ∧ Hid (Below w.heap.size w wr)) (fun _ i _ => j - (intOf i).toNat)
      case atStart => exact ⟨0, rfl, Nat.zero_le _, HO, HB⟩
      case round =>
        obtain ⟨i, rfl, hij, HOi, HBi⟩ := hrel
        by_cases hi : i < j
        · have ci := (HBi.out.cell (p := ⟨g, i, none⟩) hg).trans (HC.out i hi)
          have HXi := Lib.hid (HX.out i hi)
          have s1 := HS.out (i + 1) (by omega)
          rw [sumN] at s1
          have hii : (i : Int) < (j : Int) := by omega
          have hw2 : IntKind.i64.wrap ((i : Int) + 1) = (i : Int) + 1 := IntWalk.i64_in _ (by omega)
          go_wp2_with (first
            | (at_builtin; (refine app_sqn rfl (.tmp 31) (.tmp 32) 22 rfl Try.underlying22 w.heap.size (sumN nn i) _ _ rfl HOi.out (nn i) (cc i) (pp i) (xs i) rfl HXi.out.1 HXi.out.2.2 (HXi.out.2.1.later HBi.out) s1 HBi.out.size ?_); intro v1 w1 hO1 hg1; have HO1 := Lib.hid hO1; have HB1 := Lib.hid (HBi.out.grown hg1 HBi.out.size (fun j hj => owns_block HOi.out j hj)); clear hO1 hg1)
            | fail)
          go_roundw
          case rel => exact ⟨i + 1, by go_num, by omega, Lib.hid (by rw [sumN, catN, List.map_append]; exact HO1.out), HB1⟩
          case measure => simp [intOf]; omega
        · obtain rfl : i = j := by omega
          go_wp2
          go_ret
          obtain ⟨p, c, hv, hc, hq⟩ := sqn_of_owns HOi.out HLN.out.symm
          exact ⟨p, c, by rw [hv]; rfl, hc.1, Lib.hid hq, HBi⟩
end Go.Proofs.Ytamcobncfbjdmaa
