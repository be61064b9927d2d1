/- Expressions out of metacode: what is asked. -/
import Derived.Test.YtfajodndpoepcaaIn
namespace Go.Proofs.Ytfajodndpoepcaa
open Go.RowKit TmM

/-- the variable whose letter a text is. -/
def kindOf (t : ByteArray) : Int := if t = str 83 then 5 else if t = str 84 then 6 else if t = str 69 then 7 else 0
/-- the expression that has a list of terms as its metacode. -/
def dn : Fo → Option Fo
  | .nil => some .nil
  | .cons k t c r =>
    if k = 4 then (dn c).bind fun l => (dn r).map (Fo.cons 4 ⟨#[]⟩ l)
    else if k = 1 ∧ t = str 42 then
      match r with
      | .nil => none
      | .cons k2 t2 c2 r2 =>
        if k2 = 1 ∧ t2 = str 86 then (dn r2).map (Fo.cons 1 (str 42) .nil)
        else if k2 = 4 then
          match c2 with
          | .nil => none
          | .cons k3 t3 _ c3 => if k3 = 2 then (dn c3).bind fun l => (dn r2).map (Fo.cons 8 t3 l) else none
        else match r2 with
          | .nil => none
          | .cons k4 t4 _ r4 => if k2 = 1 ∧ kindOf t2 ≠ 0 ∧ k4 = 2 then (dn r4).map (Fo.cons (kindOf t2) t4 .nil) else none
    else (dn r).map (Fo.cons k t .nil)

theorem dn_nil : dn .nil = some .nil := by rw [dn.eq_def]
theorem dn_group (t : ByteArray) (c r : Fo) : dn (.cons 4 t c r) = (dn c).bind fun l => (dn r).map (Fo.cons 4 ⟨#[]⟩ l) := by
  rw [dn.eq_def]; dsimp only; rw [if_pos rfl]
theorem dn_plain {k : Int} {t : ByteArray} (c r : Fo) (h4 : k ≠ 4) (h : ¬ (k = 1 ∧ t = str 42)) : dn (.cons k t c r) = (dn r).map (Fo.cons k t .nil) := by
  rw [dn.eq_def]; dsimp only; rw [if_neg h4, if_neg h]
theorem dn_end (c : Fo) : dn (.cons 1 (str 42) c .nil) = none := by
  rw [dn.eq_def]; dsimp only; rw [if_neg (by decide), if_pos ⟨rfl, rfl⟩]
theorem dn_star (c c2 r2 : Fo) : dn (.cons 1 (str 42) c (.cons 1 (str 86) c2 r2)) = (dn r2).map (Fo.cons 1 (str 42) .nil) := by
  rw [dn.eq_def]; dsimp only; rw [if_neg (by decide), if_pos ⟨rfl, rfl⟩, if_pos ⟨rfl, rfl⟩]
theorem dn_call0 (c : Fo) (t2 : ByteArray) (r2 : Fo) : dn (.cons 1 (str 42) c (.cons 4 t2 .nil r2)) = none := by
  rw [dn.eq_def]; dsimp only; rw [if_neg (by decide), if_pos ⟨rfl, rfl⟩, if_neg (by simp), if_pos rfl]
theorem dn_call1 (c : Fo) (t2 : ByteArray) (r2 : Fo) {k3 : Int} (t3 : ByteArray) (c' c3 : Fo) (h : k3 ≠ 2) : dn (.cons 1 (str 42) c (.cons 4 t2 (.cons k3 t3 c' c3) r2)) = none := by
  rw [dn.eq_def]; dsimp only; rw [if_neg (by decide), if_pos ⟨rfl, rfl⟩, if_neg (by simp), if_pos rfl, if_neg h]
theorem dn_call (c : Fo) (t2 : ByteArray) (r2 : Fo) (t3 : ByteArray) (c' c3 : Fo) : dn (.cons 1 (str 42) c (.cons 4 t2 (.cons 2 t3 c' c3) r2)) = (dn c3).bind fun l => (dn r2).map (Fo.cons 8 t3 l) := by
  rw [dn.eq_def]; dsimp only; rw [if_neg (by decide), if_pos ⟨rfl, rfl⟩, if_neg (by simp), if_pos rfl, if_pos rfl]
theorem dn_var0 (c : Fo) {k2 : Int} {t2 : ByteArray} (c2 : Fo) (h : ¬ (k2 = 1 ∧ t2 = str 86)) (h4 : k2 ≠ 4) : dn (.cons 1 (str 42) c (.cons k2 t2 c2 .nil)) = none := by
  rw [dn.eq_def]; dsimp only; rw [if_neg (by decide), if_pos ⟨rfl, rfl⟩, if_neg h, if_neg h4]
theorem dn_var (c : Fo) {k2 : Int} {t2 : ByteArray} (c2 : Fo) (k4 : Int) (t4 : ByteArray) (c4 r4 : Fo) (h : ¬ (k2 = 1 ∧ t2 = str 86)) (h4 : k2 ≠ 4) :
    dn (.cons 1 (str 42) c (.cons k2 t2 c2 (.cons k4 t4 c4 r4))) = if k2 = 1 ∧ kindOf t2 ≠ 0 ∧ k4 = 2 then (dn r4).map (Fo.cons (kindOf t2) t4 .nil) else none := by
  rw [dn.eq_def]; dsimp only; rw [if_neg (by decide), if_pos ⟨rfl, rfl⟩, if_neg h, if_neg h4]

theorem dn_up : ∀ (f : Fo), formB 8 f = true → dn (up f) = some f := by
  intro f
  induction f with
  | nil => intro _; rfl
  | cons k t c r ic ir =>
    intro hf
    simp only [formB, Bool.and_eq_true, decide_eq_true_eq] at hf
    obtain ⟨⟨⟨hr, hk8⟩, hc⟩, hrr⟩ := hf
    have hp := right_parts hr
    have hk1 := (right_kind hr).1
    have IC := ic hc
    have IR := ir hrr
    clear ic ir hr hc hrr
    have hk : k = 1 ∨ k = 2 ∨ k = 3 ∨ k = 4 ∨ k = 5 ∨ k = 6 ∨ k = 7 ∨ k = 8 := by omega
    clear hk1 hk8
    have n1 : ¬ str 83 = str 86 := by decide
    have n2 : ¬ str 84 = str 86 := by decide
    have n3 : ¬ str 69 = str 86 := by decide
    have n4 : kindOf (str 83) = 5 := by decide
    have n5 : kindOf (str 84) = 6 := by decide
    have n6 : kindOf (str 69) = 7 := by decide
    rcases hk with rfl | rfl | rfl | rfl | rfl | rfl | rfl | rfl
    · have hcn := hp.1 (by decide) (by decide)
      subst hcn
      by_cases ht : t = str 42
      · subst ht; rw [show up (.cons 1 (str 42) .nil r) = .cons 1 (str 42) .nil (.cons 1 (str 86) .nil (up r)) by simp [up], dn_star, IR]; rfl
      · rw [show up (.cons 1 t .nil r) = .cons 1 t .nil (up r) by simp [up, ht], dn_plain _ _ (by decide) (by simp [ht]), IR]; rfl
    · have hcn := hp.1 (by decide) (by decide)
      subst hcn
      rw [show up (.cons 2 t .nil r) = .cons 2 t .nil (up r) by simp [up], dn_plain _ _ (by decide) (by simp), IR]; rfl
    · have hcn := hp.1 (by decide) (by decide)
      subst hcn
      rw [show up (.cons 3 t .nil r) = .cons 3 t .nil (up r) by simp [up], dn_plain _ _ (by decide) (by simp), IR]; rfl
    · have := hp.2 rfl
      subst this
      rw [show up (.cons 4 ⟨#[]⟩ c r) = .cons 4 ⟨#[]⟩ (up c) (up r) by simp [up], dn_group, IC, IR]; rfl
    · have hcn := hp.1 (by decide) (by decide)
      subst hcn
      rw [show up (.cons 5 t .nil r) = .cons 1 (str 42) .nil (.cons 1 (str 83) .nil (.cons 2 t .nil (up r))) by simp [up, ofKind], dn_var _ _ _ _ _ _ (by simp [n1]) (by decide), if_pos ⟨rfl, by rw [n4]; decide, rfl⟩, n4, IR]; rfl
    · have hcn := hp.1 (by decide) (by decide)
      subst hcn
      rw [show up (.cons 6 t .nil r) = .cons 1 (str 42) .nil (.cons 1 (str 84) .nil (.cons 2 t .nil (up r))) by simp [up, ofKind], dn_var _ _ _ _ _ _ (by simp [n2]) (by decide), if_pos ⟨rfl, by rw [n5]; decide, rfl⟩, n5, IR]; rfl
    · have hcn := hp.1 (by decide) (by decide)
      subst hcn
      rw [show up (.cons 7 t .nil r) = .cons 1 (str 42) .nil (.cons 1 (str 69) .nil (.cons 2 t .nil (up r))) by simp [up, ofKind], dn_var _ _ _ _ _ _ (by simp [n3]) (by decide), if_pos ⟨rfl, by rw [n6]; decide, rfl⟩, n6, IR]; rfl
    · rw [show up (.cons 8 t c r) = .cons 1 (str 42) .nil (.cons 4 ⟨#[]⟩ (.cons 2 t .nil (up c)) (up r)) by simp [up], dn_call, IC, IR]; rfl

theorem dn_start (f : Fo) : dn f = (dn (f.drop 0)).map (Fo.nil.app ·) := by rw [Fo.drop_zero]; cases dn f <;> rfl
theorem dn_step {f : Fo} {i j : Nat} {P : Fo} {k : Int} {t : ByteArray} {c : Fo} (h : dn f = (dn (f.drop i)).map (P.app ·)) (hs : dn (f.drop i) = (dn (f.drop j)).map (Fo.cons k t c)) : dn f = (dn (f.drop j)).map ((P.app (.cons k t c .nil)).app ·) := by
  rw [h, hs, Option.map_map]
  congr 1
  funext l
  simp [Function.comp, Fo.app_assoc, Fo.app]
theorem dn_fail {f : Fo} {i : Nat} {P : Fo} (h : dn f = (dn (f.drop i)).map (P.app ·)) (hs : dn (f.drop i) = none) : dn f = none := by rw [h, hs]; rfl
theorem dn_done {f : Fo} {P : Fo} (h : dn f = (dn (f.drop f.len)).map (P.app ·)) : dn f = some P := by rw [h, Fo.drop_len, dn_nil]; simp

/-- what the reference's dn answers. -/
def dnR (f : Fo) : Fo × Bool := match dn f with
  | some g => (g, true)
  | none => (.nil, false)
def OutDn (w : World) (f : Fo) (e : Ending) (w' : World) : Prop :=
  ∃ a cap, e = .returned (.tuple #[.slice a (dnR f).1.len cap, .bool (dnR f).2]) ∧ Hid (SlS (fun b => w.heap.size ≤ b ∧ b < w'.heap.size) w' a cap (dnR f).1) ∧ Below w.heap.size w w'
theorem dnR_none {f : Fo} (h : dn f = none) : dnR f = (.nil, false) := by unfold dnR; rw [h]
theorem dnR_some {f g : Fo} (h : dn f = some g) : dnR f = (g, true) := by unfold dnR; rw [h]
theorem outDn_none {w w' : World} {f : Fo} (h : dn f = none) (hb : Below w.heap.size w w') : OutDn w f (.returned (.tuple #[.slice none 0 0, .bool false])) w' :=
  ⟨none, 0, by rw [dnR_none h]; rfl, Lib.hid (by rw [dnR_none h]; exact SlS.nil), hb⟩
theorem outDn_some {w w' : World} {f g : Fo} {v : Value} (h : dn f = some g) (hB : Built w.heap.size w' v g) (hb : Below w.heap.size w w') : OutDn w f (.returned (.tuple #[v, .bool true])) w' := by
  obtain ⟨a, cap, rfl, hs⟩ := hB.sls
  exact ⟨a, cap, by rw [dnR_some h], Lib.hid (by rw [dnR_some h]; exact hs), hb⟩

theorem text_beq (t s : ByteArray) : (t.toList == s.toList) = decide (t = s) := by
  rw [ByteArray.toList_eq, ByteArray.toList_eq, Bool.eq_iff_iff, beq_iff_eq, decide_eq_true_iff]
  constructor
  · intro h
    obtain ⟨d⟩ := t
    obtain ⟨d'⟩ := s
    have : d = d' := Array.toList_inj.1 h
    rw [this]
  · rintro rfl; rfl

theorem Sl.tail {n : Nat} {w : World} {b o cap : Nat} {k : Int} {t : ByteArray} {c r : Fo} (h : Sl n w (some ⟨b, o, none⟩) cap (.cons k t c r)) : Sl n w (some ⟨b, o + 3, none⟩) (cap - 1) r := by
  obtain ⟨hl, hm, _, h4⟩ := h
  rw [Fo.len_cons] at hl
  rcases h4 with h4 | ⟨b', o', zs, ha, hlt, hc, a, cp, ys, rfl, _, hr⟩
  · cases h4
  · cases ha
    exact ⟨by omega, by omega, by simp, .inr ⟨b, o + 3, ys, rfl, hlt, fun j hj => by rw [show o + 3 + j = o + (j + 3) by omega]; exact hc (j + 3) (by simp; omega), hr⟩⟩

/-- is t the char s. -/
theorem ris_any (k : Int) (t s : ByteArray) (a : Option Addr) (l c : Nat) (w : World) :
    Calls Try.prog 51 #[.agg #[.int .i64 k, .string t, .slice a l c], .string s] w (OutV w (.bool (decide (k = 1 ∧ t = s)))) := by
  have hb : Below w.heap.size w (w.alloc (.cells #[.int .i64 k, .string t, .slice a l c] 35)) := (Below.refl _ _).alloc (Nat.le_refl _) _
  have HT := Lib.hid (text_beq t s)
  by_cases h1 : k = 1
  · subst h1
    obtain ⟨q, hq⟩ : ∃ q, q = (t.toList == s.toList) := ⟨_, rfl⟩
    have HQ := Lib.hid hq
    rw [← hq] at HT
    go_enter Try.func51, Try.ntmps51
    go_wp2
    go_ret
    refine ⟨?_, hb⟩
    have h := HT.out
    rw [HQ.out] at h
    simp [h]
  · have q1 : (k == 1) = false := by simpa using h1
    have HD := Lib.hid (show decide (k = 1 ∧ t = s) = false from decide_eq_false (fun h => h1 h.1))
    clear h1
    go_enter Try.func51, Try.ntmps51
    go_wp2
    go_ret
    exact ⟨by rw [HD.out]; rfl, hb⟩

/-- the kind that the first n letters give. -/
def kindTo (k2 : Int) (t2 : ByteArray) : Nat → Int
  | 0 => 0
  | n + 1 => if k2 = 1 ∧ t2 = letterOf (5 + (n : Int)) then 5 + (n : Int) else kindTo k2 t2 n
theorem kindTo_end (k2 : Int) (t2 : ByteArray) : kindTo k2 t2 3 = if k2 = 1 then kindOf t2 else 0 := by
  have l5 : letterOf (5 + ((0 : Nat) : Int)) = str 83 := rfl
  have l6 : letterOf (5 + ((1 : Nat) : Int)) = str 84 := rfl
  have l7 : letterOf (5 + ((2 : Nat) : Int)) = str 69 := rfl
  have n1 : ¬ str 69 = str 83 := by decide
  have n2 : ¬ str 69 = str 84 := by decide
  have n3 : ¬ str 84 = str 83 := by decide
  have n4 : ¬ str 83 = str 69 := by decide
  have n5 : ¬ str 83 = str 84 := by decide
  simp only [kindTo, l5, l6, l7, kindOf]
  by_cases h : k2 = 1
  · by_cases h7 : t2 = str 69
    · subst h7; simp [h, n1, n2]
    · by_cases h6 : t2 = str 84
      · subst h6; simp [h, h7, n3]
      · by_cases h5 : t2 = str 83
        · subst h5; simp [h, n4, n5]
        · simp [h, h5, h6, h7]
  · simp [h]
theorem dn_varX (c : Fo) {k2 : Int} {t2 : ByteArray} (c2 r2 : Fo) (h : ¬ (k2 = 1 ∧ t2 = str 86)) (h4 : k2 ≠ 4) (h0 : kindTo k2 t2 3 = 0) : dn (.cons 1 (str 42) c (.cons k2 t2 c2 r2)) = none := by
  cases r2 with
  | nil => exact dn_var0 c c2 h h4
  | cons k4 t4 c4 r4 =>
    rw [dn_var c c2 k4 t4 c4 r4 h h4, if_neg]
    rintro ⟨h1, h2, _⟩
    rw [kindTo_end, if_pos h1] at h0
    exact h2 h0
theorem dn_varY (c : Fo) {k2 : Int} {t2 : ByteArray} (c2 : Fo) {k4 : Int} (t4 : ByteArray) (c4 r4 : Fo) (h : ¬ (k2 = 1 ∧ t2 = str 86)) (h4 : k2 ≠ 4) (h2 : k4 ≠ 2) : dn (.cons 1 (str 42) c (.cons k2 t2 c2 (.cons k4 t4 c4 r4))) = none := by
  rw [dn_var c c2 k4 t4 c4 r4 h h4, if_neg]
  rintro ⟨_, _, h3⟩
  exact h2 h3
theorem dn_varZ (c : Fo) {k2 : Int} {t2 : ByteArray} (c2 : Fo) (t4 : ByteArray) (c4 r4 : Fo) (h : ¬ (k2 = 1 ∧ t2 = str 86)) (h4 : k2 ≠ 4) (h0 : kindTo k2 t2 3 ≠ 0) : dn (.cons 1 (str 42) c (.cons k2 t2 c2 (.cons 2 t4 c4 r4))) = (dn r4).map (Fo.cons (kindTo k2 t2 3) t4 .nil) := by
  rw [kindTo_end] at h0 ⊢
  by_cases h1 : k2 = 1
  · rw [if_pos h1] at h0 ⊢
    rw [dn_var c c2 2 t4 c4 r4 h h4, if_pos ⟨h1, h0, rfl⟩]
  · rw [if_neg h1] at h0; exact absurd rfl h0
end Go.Proofs.Ytfajodndpoepcaa
