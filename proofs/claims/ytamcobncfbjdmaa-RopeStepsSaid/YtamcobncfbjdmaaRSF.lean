/- The law's own examples. -/
import Derived.Test.YtamcobncfbjdmaaRSE
namespace Go.Proofs.Ytamcobncfbjdmaa
open Go.RowKit Go.Shelf

theorem bt {w A B : World} (h : Below w.heap.size w A) (k : Below A.heap.size A B) : Below w.heap.size w B := h.trans (k.mono h.size)
abbrev cA : ByteArray := ⟨#[97]⟩
abbrev cB : ByteArray := ⟨#[98]⟩
abbrev cC : ByteArray := ⟨#[99]⟩
abbrev cD : ByteArray := ⟨#[100]⟩
abbrev cX : ByteArray := ⟨#[120]⟩
theorem ofO_leaf (l : List ByteArray) (h1 : 1 ≤ l.length) (h2 : l.length ≤ 16) : ofO l = some (.leaf l) := by
  rw [ofO, if_neg (by rintro rfl; simp at h1)]
  obtain ⟨n, hn⟩ : ∃ n, l.length = n + 1 := ⟨l.length - 1, by omega⟩
  rw [hn, bld, if_pos h2]
/-- Of of a list of one to sixteen texts that lies in a new block. -/
theorem pOf_new (l : List ByteArray) (h1 : 1 ≤ l.length) (h2 : l.length ≤ 16) (w : World) :
    Calls Try.prog 41 #[.slice (some ⟨w.heap.size, 0, none⟩) l.length l.length] (w.alloc (.cells (l.map encS).toArray 9)) (fun r w' => ∃ a, r = .returned (.agg #[.pointer a]) ∧ Hid (Nd encS w' a (.leaf l)) ∧ Hid (Below w.heap.size w w')) := by
  have hb : Below w.heap.size w (w.alloc (.cells (l.map encS).toArray 9)) := (Below.refl _ _).alloc (Nat.le_refl _) _
  refine (pOfS_any _ l _ (.inr ⟨w.heap.size, 0, l.length, rfl, by simp, Nat.le_refl _, h1, fun j x hx => ?_⟩) (by omega)).mono ?_
  · have := heap_alloc_new w (.cells (l.map encS).toArray 9)
    simp only [World.cell?, this, Nat.zero_add]
    simp [hx]
  · rintro r w' ⟨a, rfl, h3, h4⟩
    refine ⟨a, rfl, Lib.hid ?_, Lib.hid (hb.trans (h4.out.mono hb.size))⟩
    have := h3.out
    rw [ofO_leaf l h1 h2] at this
    exact this

abbrev l4 : List ByteArray := [cA, cB, cC, cD]
abbrev l1 : List ByteArray := [cX]
abbrev l3 : List ByteArray := [cA, cX, cD]
set_option maxRecDepth 100000 in
set_option maxHeartbeats 6400000 in
theorem awake_any (w : World) : Calls Try.prog 11 #[] w (fun r w' => r = .returned (.bool true) ∧ Hid (Below w.heap.size w w')) := by
  have C1 := Lib.hid (pOf_new l4 (by decide) (by decide) w)
  have C2 := Lib.hid (fun w => pOf_new l1 (by decide) (by decide) w)
  have C3 : Hid (∀ a b w', Nd encS w' a (.leaf l4) → Nd encS w' b (.leaf l1) → Calls Try.prog 42 #[.agg #[.pointer a], .int .i64 1, .int .i64 3, .agg #[.pointer b]] w' (fun r w'' => ∃ c, r = .returned (.agg #[.pointer c]) ∧ Hid (Nd encS w'' c (.leaf l3)) ∧ Hid (Below w'.heap.size w' w''))) := Lib.hid fun a b w' x y => pReplaceS_any a b l4 l1 1 3 w' x y (by decide) (by decide) (by decide) (by decide) (by decide) (by decide)
  have C4 : Hid (∀ a w', Nd encS w' a (.leaf l3) → Calls Try.prog 43 #[.agg #[.pointer a], .int .i64 9] w' (fun r w'' => ∃ a1, r = .returned (.tuple #[.agg #[.pointer a1], .agg #[.pointer none]]) ∧ Hid (Nd encS w'' a1 (.leaf l3)) ∧ Hid (Below w'.heap.size w' w''))) := Lib.hid fun a w' x => by
    refine (pSplitS_any a l3 9 w' x (by decide) (by decide)).mono ?_
    rintro r w'' ⟨a1, a2, rfl, h1, h2, h3⟩
    have h2' : a2 = none := h2.out
    subst h2'
    exact ⟨a1, rfl, h1, h3⟩
  have C5 : Hid (∀ a w', Nd encS w' a (.leaf l3) → Calls Try.prog 45 #[.agg #[.pointer a]] w' (fun r w'' => ∃ g c, r = .returned (.slice (some ⟨g, 0, none⟩) 3 c) ∧ Hid (∀ j x, l3[j]? = some x → w''.cell? ⟨g, j, none⟩ = some (encS x)) ∧ g < w''.heap.size ∧ Hid (Below w'.heap.size w' w''))) := Lib.hid fun a w' x => pList3_any a l3 w' x rfl
  have C6 : Hid (∀ (g c : Nat) (w' : World), g < w'.heap.size → (∀ j x, l3[j]? = some x → w'.cell? ⟨g, j, none⟩ = some (encS x)) → Calls Try.prog 44 #[.slice (some ⟨g, 0, none⟩) 3 c, .slice (some ⟨w'.heap.size, 0, none⟩) 3 3] (w'.alloc (.cells #[.string cA, .string cX, .string cD] 9)) (fun r w'' => r = .returned (.bool true) ∧ Hid (Below (w'.heap.size + 1) (w'.alloc (.cells #[.string cA, .string cX, .string cD] 9)) w''))) := Lib.hid fun g c w' hg hx => by
    refine (Try.slices_Equal_string g 0 3 c w'.heap.size 0 3 3 l3 l3 _ (by decide) (by decide) (by decide) (by decide) (fun j hj => ?_) (fun j hj => ?_)).mono ?_
    · rw [Nat.zero_add]
      have hb : Below w'.heap.size w' (w'.alloc (.cells #[.string cA, .string cX, .string cD] 9)) := (Below.refl _ _).alloc (Nat.le_refl _) _
      exact (hb.cell (p := ⟨g, j, none⟩) hg).trans (hx j _ (by rw [List.getD_eq_getElem?_getD, List.getElem?_eq_getElem hj]; rfl))
    · have := heap_alloc_new w' (.cells #[.string cA, .string cX, .string cD] 9)
      simp only [World.cell?, this, Nat.zero_add]
      match j, hj with
      | 0, _ => rfl
      | 1, _ => rfl
      | 2, _ => rfl
      | n + 3, h => exact absurd h (by simp)
    · rintro r w'' ⟨rfl, q, rfl⟩
      exact ⟨by rw [show decide (List.take 3 l3 = List.take 3 l3) = true from decide_eq_true rfl], Lib.hid (below_drewN (by have := Below.refl (w'.alloc (.cells #[.string cA, .string cX, .string cD] 9)).heap.size (w'.alloc (.cells #[.string cA, .string cX, .string cD] 9)); rwa [World.size_alloc] at this) q)⟩
  have C7 : Hid (∀ a w', Nd encS w' a (.leaf l3) → Calls Try.prog 46 #[.agg #[.pointer a]] w' (fun r w'' => r = .returned (.int .i64 3) ∧ Hid (Below w'.heap.size w' w''))) := Lib.hid fun a w' x => pLenS_any a (some (.leaf l3)) w' x
  have C8 : Hid (∀ w', Calls Try.prog 46 #[.agg #[.pointer none]] w' (fun r w'' => r = .returned (.int .i64 0) ∧ Hid (Below w'.heap.size w' w''))) := Lib.hid fun w' => pLenS_any none none w' rfl
  go_enter Try.func11, Try.ntmps11
  go_wp2_with (first
    | (go_at_call 42; have hmark := HB2.out; refine (C3.out _ _ _ HM1.out HN2.out).mono ?_; rintro r w3 ⟨c, rfl, HN3, HB3⟩; have HN3' := Lib.hid (HN3.out.later ((Below.refl _ w3).alloc (Nat.le_refl _) (.cells #[.pointer c] 74))))
    | (go_at_call 41; have hmark := HB1.out; refine (C2.out _).mono ?_; rintro r w2 ⟨a2, rfl, HN2, HB2⟩; have HM1 := Lib.hid (HN1.out.later HB2.out))
    | (go_at_call 41; refine C1.out.mono ?_; rintro r w1 ⟨a1, rfl, HN1, HB1⟩)
    | (go_at_call 43; refine (C4.out _ _ HN3'.out).mono ?_; rintro r w4 ⟨a4, rfl, HN4, HB4⟩; have b1 : Boxed w4 w3.heap.size 74 (.pointer c) := (HB4.out.block _ (by simp)).trans (Boxed.new w3 74 (.pointer c)); have x1 := ((b1.alloc (.cells #[.pointer a4] 74)).alloc (.cells #[.pointer none] 74)).cell; have hb2 := Lib.hid (((Below.refl _ w4).alloc (Nat.le_refl _) (.cells #[.pointer a4] 74)).alloc (by simp) (.cells #[.pointer none] 74)); have HNX := Lib.hid ((HN3'.out.later HB4.out).later hb2.out); have K2 := Lib.hid (box2 w4 (.cells #[.pointer a4] 74) (.cells #[.pointer none] 74)); have HN4X := Lib.hid (HN4.out.later hb2.out))
    | (go_at_call 45; refine (C5.out _ _ HNX.out).mono ?_; rintro r w5 ⟨g, c5, rfl, hx5, hg5, HB5⟩; have s5 := HB5.out.size; simp only [World.size_alloc] at s5; have y2 := Lib.hid ((HB5.out.block w4.heap.size (by simp; omega)).trans K2.out.1); have y3 := Lib.hid ((HB5.out.block (w4.heap.size + 1) (by simp)).trans K2.out.2); have HN45 := Lib.hid (HN4X.out.later HB5.out))
    | (go_at_call 44; have hmark := hx5.out; refine (C6.out _ _ w5 hg5 hx5.out).mono ?_; rintro r w6 ⟨rfl, HB6⟩; have s6 := HB6.out.size; simp only [World.size_alloc] at s6; have z2 : Boxed w6 w4.heap.size 74 (.pointer a4) := (HB6.out.block _ (by omega)).trans (Boxed.alloc y2.out (.cells #[.string cA, .string cX, .string cD] 9)); have z3 : Boxed w6 (w4.heap.size + 1) 74 (.pointer none) := (HB6.out.block _ (by omega)).trans (Boxed.alloc y3.out (.cells #[.string cA, .string cX, .string cD] 9)); have x2 := z2.cell; have HZ3 := Lib.hid z3; have HN46 := Lib.hid ((HN45.out.later ((Below.refl _ w5).alloc (Nat.le_refl _) (.cells #[.string cA, .string cX, .string cD] 9))).later (by rw [World.size_alloc]; exact HB6.out)); clear z2 z3)
    | (go_at_call 46; refine (C7.out _ _ HN46.out).mono ?_; rintro r w7 ⟨rfl, HB7⟩; have x3 := cell_of ((HB7.out.block (w4.heap.size + 1) (by omega)).trans HZ3.out))
    | (go_at_call 46; refine (C8.out _).mono ?_; rintro r w8 ⟨rfl, HB8⟩)
    | fail)
  have hA : ∀ (A : World) (o : Obj), Below A.heap.size A (A.alloc o) := fun A o => (Below.refl _ A).alloc (Nat.le_refl _) o
  have q1 := bt (bt (bt HB1.out HB2.out) HB3.out) (hA w3 (.cells #[.pointer c] 74))
  have q2 := bt (bt (bt (bt q1 HB4.out) hb2.out) HB5.out) (hA w5 (.cells #[.string cA, .string cX, .string cD] 9))
  have q3 := bt (bt (bt q2 (by rw [World.size_alloc]; exact HB6.out)) HB7.out) HB8.out
  go_ret
  exact ⟨rfl, Lib.hid q3⟩
end Go.Proofs.Ytamcobncfbjdmaa
