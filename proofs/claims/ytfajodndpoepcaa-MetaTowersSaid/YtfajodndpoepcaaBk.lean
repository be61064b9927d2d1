/- Metacode and back: what the laws on both ask of data. -/
import Derived.Test.YtfajodndpoepcaaDp
namespace Go.Proofs.Ytfajodndpoepcaa
open Go.RowKit TmM

/-- what holds of all that has an expression. -/
theorem dn_ind {P : Fo → Fo → Prop} (h0 : P .nil .nil)
    (h4 : ∀ t c r l m, P c l → P r m → P (.cons 4 t c r) (.cons 4 ⟨#[]⟩ l m))
    (hp : ∀ (k : Int) t c r m, k ≠ 4 → ¬ (k = 1 ∧ t = str 42) → P r m → P (.cons k t c r) (.cons k t .nil m))
    (hs : ∀ c c2 r2 m, P r2 m → P (.cons 1 (str 42) c (.cons 1 (str 86) c2 r2)) (.cons 1 (str 42) .nil m))
    (hc : ∀ c t2 t3 c' c3 r2 l m, P c3 l → P r2 m → P (.cons 1 (str 42) c (.cons 4 t2 (.cons 2 t3 c' c3) r2)) (.cons 8 t3 l m))
    (hv : ∀ c t2 c2 t4 c4 r4 m, kindOf t2 ≠ 0 → P r4 m → P (.cons 1 (str 42) c (.cons 1 t2 c2 (.cons 2 t4 c4 r4))) (.cons (kindOf t2) t4 .nil m)) :
    ∀ (N : Nat) (f g : Fo), f.count ≤ N → dn f = some g → P f g := by
  intro N
  induction N with
  | zero =>
    intro f g hN h
    obtain rfl : f = .nil := by cases f with
      | nil => rfl
      | cons k t c r => simp [Fo.count] at hN
    rw [dn_nil] at h
    cases h
    exact h0
  | succ N ih =>
    intro f g hN h
    cases f with
    | nil => rw [dn_nil] at h; cases h; exact h0
    | cons k t c r =>
      simp only [Fo.count] at hN
      by_cases k4 : k = 4
      · subst k4
        rw [dn_group] at h
        cases hl : dn c with
        | none => rw [hl] at h; cases h
        | some l =>
          cases hm : dn r with
          | none => rw [hl, hm] at h; cases h
          | some m =>
            rw [hl, hm] at h
            cases h
            exact h4 t c r l m (ih c l (by omega) hl) (ih r m (by omega) hm)
      · by_cases hst : k = 1 ∧ t = str 42
        · obtain ⟨rfl, rfl⟩ := hst
          cases r with
          | nil => rw [dn_end] at h; cases h
          | cons k2 t2 c2 r2 =>
            simp only [Fo.count] at hN
            by_cases hV : k2 = 1 ∧ t2 = str 86
            · obtain ⟨rfl, rfl⟩ := hV
              rw [dn_star] at h
              cases hm : dn r2 with
              | none => rw [hm] at h; cases h
              | some m =>
                rw [hm] at h
                cases h
                exact hs c c2 r2 m (ih r2 m (by omega) hm)
            · by_cases h24 : k2 = 4
              · subst h24
                cases c2 with
                | nil => rw [dn_call0] at h; cases h
                | cons k3 t3 c' c3 =>
                  simp only [Fo.count] at hN
                  by_cases h32 : k3 = 2
                  · subst h32
                    rw [dn_call] at h
                    cases hl : dn c3 with
                    | none => rw [hl] at h; cases h
                    | some l =>
                      cases hm : dn r2 with
                      | none => rw [hl, hm] at h; cases h
                      | some m =>
                        rw [hl, hm] at h
                        cases h
                        exact hc c t2 t3 c' c3 r2 l m (ih c3 l (by omega) hl) (ih r2 m (by omega) hm)
                  · rw [dn_call1 _ _ _ _ _ _ h32] at h; cases h
              · cases r2 with
                | nil => rw [dn_var0 _ _ hV h24] at h; cases h
                | cons k4' t4 c4 r4 =>
                  simp only [Fo.count] at hN
                  rw [dn_var _ _ _ _ _ _ hV h24] at h
                  by_cases hq : k2 = 1 ∧ kindOf t2 ≠ 0 ∧ k4' = 2
                  · rw [if_pos hq] at h
                    obtain ⟨rfl, hq2, rfl⟩ := hq
                    cases hm : dn r4 with
                    | none => rw [hm] at h; cases h
                    | some m =>
                      rw [hm] at h
                      cases h
                      exact hv c t2 c2 t4 c4 r4 m hq2 (ih r4 m (by omega) hm)
                  · rw [if_neg hq] at h; cases h
        · rw [dn_plain c r k4 hst] at h
          cases hm : dn r with
          | none => rw [hm] at h; cases h
          | some m =>
            rw [hm] at h
            cases h
            exact hp k t c r m k4 hst (ih r m (by omega) hm)

theorem dn_parts {f g : Fo} (h : dn f = some g) : g.count ≤ f.count ∧ (Small f → Small g) := by
  refine dn_ind (P := fun f g => g.count ≤ f.count ∧ (Small f → Small g)) ?_ ?_ ?_ ?_ ?_ ?_ f.count f g (Nat.le_refl _) h
  · exact ⟨Nat.le_refl _, id⟩
  · rintro t c r l m ⟨h1, h2⟩ ⟨h3, h4⟩
    exact ⟨by simp only [Fo.count]; omega, fun h => ⟨by decide, h2 h.2.1, h4 h.2.2⟩⟩
  · rintro k t c r m _ _ ⟨h3, h4⟩
    exact ⟨by simp only [Fo.count]; omega, fun h => ⟨h.1, trivial, h4 h.2.2⟩⟩
  · rintro c c2 r2 m ⟨h3, h4⟩
    exact ⟨by simp only [Fo.count]; omega, fun h => ⟨by decide, trivial, h4 h.2.2.2.2⟩⟩
  · rintro c t2 t3 c' c3 r2 l m ⟨h1, h2⟩ ⟨h3, h4⟩
    exact ⟨by simp only [Fo.count]; omega, fun h => ⟨h.2.2.2.1.1, h2 h.2.2.2.1.2.2, h4 h.2.2.2.2⟩⟩
  · rintro c t2 c2 t4 c4 r4 m _ ⟨h3, h4⟩
    exact ⟨by simp only [Fo.count]; omega, fun h => ⟨h.2.2.2.2.1, trivial, h4 h.2.2.2.2.2.2⟩⟩

/-- what Dn answers. -/
def dnX (f : Fo) : Fo × Int := if wrongC 4 f ≠ 0 then (.nil, wrongC 4 f) else match dn f with
  | none => (.nil, 110)
  | some g => if wrongC 8 g ≠ 0 then (.nil, 110) else (g, 0)

theorem wrong_formM {most : Int} {f : Fo} (h : wrongC most f = 0) : f.count ≤ 4000 ∧ f.depth ≤ 100 ∧ formB most f = true := by
  unfold wrongC at h
  by_cases h1 : 4000 < f.count
  · rw [if_pos h1] at h; omega
  · rw [if_neg h1] at h
    by_cases h2 : 100 < f.depth
    · rw [if_pos h2] at h; omega
    · rw [if_neg h2] at h
      cases hf : formB most f
      · rw [hf] at h; simp at h
      · exact ⟨by omega, by omega, rfl⟩
theorem wrong_mk {most : Int} {f : Fo} (h1 : f.count ≤ 4000) (h2 : f.depth ≤ 100) (h3 : formB most f = true) : wrongC most f = 0 := by
  unfold wrongC
  rw [if_neg (by omega), if_neg (by omega), if_pos h3]
theorem fits_mk {g : Fo} (h1 : g.count ≤ 4000) (h2 : g.depth ≤ 100) : fitsC g = 0 := by
  unfold fitsC
  rw [if_neg (by omega), if_neg (by omega)]

theorem form_mono {m m' : Int} (h : m ≤ m') : ∀ {f : Fo}, formB m f = true → formB m' f = true
  | .nil, _ => rfl
  | .cons k t c r, hf => by
    simp only [formB, Bool.and_eq_true, decide_eq_true_eq] at hf ⊢
    exact ⟨⟨⟨hf.1.1.1, by omega⟩, form_mono h hf.1.2⟩, form_mono h hf.2⟩

theorem letter_plain {b : UInt8} (h : letterB b = true) : plainB b = true := by
  simp only [letterB, plainB, Bool.or_eq_true, Bool.and_eq_true, decide_eq_true_eq] at h ⊢
  omega
theorem digit_plain {b : UInt8} (h : digitB b = true) : plainB b = true := by
  simp only [digitB, plainB, Bool.and_eq_true, decide_eq_true_eq] at h ⊢
  omega
theorem inner_plain {b : UInt8} (h : innerB b = true) : plainB b = true := by
  simp only [innerB, Bool.or_eq_true, beq_iff_eq] at h
  rcases h with ((h | h) | h) | h
  · exact letter_plain h
  · exact digit_plain h
  · simp [plainB, h]
  · simp [plainB, h]
theorem var_word {s : List UInt8} (h : varB s = true) : wordB s = true := by
  simp only [varB, wordB, Bool.and_eq_true, decide_eq_true_eq, List.all_eq_true] at h ⊢
  refine ⟨⟨h.1.1, by omega⟩, fun b hb => ?_⟩
  have := h.2 b hb
  rcases Bool.or_eq_true _ _ ▸ this with h1 | h1
  · exact letter_plain h1
  · exact digit_plain h1
theorem name_word {s : List UInt8} (h : nameB 40 s = true) : wordB s = true := by
  cases s with
  | nil => cases h
  | cons b r =>
    simp only [nameB, wordB, Bool.and_eq_true, decide_eq_true_eq, List.all_eq_true] at h ⊢
    exact ⟨⟨by simp, by omega⟩, fun x hx => inner_plain (h.2 x hx)⟩

theorem right_w (t : ByteArray) : rightB 2 t .nil = wordB t.data.toList := by
  rw [rightB, if_neg (by simp), if_neg (by decide), if_pos rfl]
theorem right_var {k : Int} {t : ByteArray} {c : Fo} (hk : k = 5 ∨ k = 6 ∨ k = 7) (h : rightB k t c = true) : varB t.data.toList = true := by
  rcases hk with rfl | rfl | rfl
  all_goals
    unfold rightB at h
    split at h
    · cases h
    · simpa using h
theorem right_call {t : ByteArray} {c : Fo} (h : rightB 8 t c = true) : nameB 40 t.data.toList = true := by
  unfold rightB at h
  rw [if_neg (by simp), if_neg (by decide), if_neg (by decide), if_neg (by decide), if_neg (by decide), if_neg (by decide), if_pos rfl] at h
  exact h
theorem right_g (c : Fo) : rightB 4 ⟨#[]⟩ c = true := by
  unfold rightB
  rw [if_neg (by simp), if_neg (by decide), if_neg (by decide), if_neg (by decide), if_pos rfl]
  rfl
theorem right_str (b : UInt8) : rightB 1 (str b) .nil = true := by
  unfold rightB
  rw [if_neg (by simp), if_pos rfl]
  rfl

theorem form_up : ∀ {f : Fo}, formB 8 f = true → formB 4 (up f) = true
  | .nil, _ => rfl
  | .cons k t c r, hf => by
    simp only [formB, Bool.and_eq_true, decide_eq_true_eq] at hf
    obtain ⟨⟨⟨hr, hk8⟩, hc⟩, hrr⟩ := hf
    have IC := form_up hc
    have IR := form_up hrr
    have hk1 := (right_kind hr).1
    have hp := right_parts hr
    simp only [up]
    by_cases h4 : k = 4
    · simp [h4, formB, right_g, IC, IR]
    · by_cases h5 : k = 5 ∨ k = 6 ∨ k = 7
      · have hv := var_word (right_var h5 hr)
        simp [h4, h5, formB, right_str, right_w, hv, IR]
      · by_cases h8 : k = 8
        · subst h8
          have hv := name_word (right_call hr)
          simp [formB, right_str, right_g, right_w, hv, IC, IR]
        · have hcn := hp.1 h4 h8
          subst hcn
          by_cases hst : k = 1 ∧ t = str 42
          · obtain ⟨rfl, rfl⟩ := hst
            simp [formB, right_str, IR]
          · simp only [h4, h5, h8, hst, if_false, formB, hr, IR, Bool.and_true, Bool.true_and, decide_eq_true_eq]
            omega

theorem ofKind_kindOf {t : ByteArray} (h : kindOf t ≠ 0) : str (ofKind (kindOf t)) = t ∧ (kindOf t = 5 ∨ kindOf t = 6 ∨ kindOf t = 7) := by
  unfold kindOf at h ⊢
  by_cases h5 : t = str 83
  · subst h5; simp [ofKind]
  · by_cases h6 : t = str 84
    · subst h6; rw [if_neg h5, if_pos rfl]; simp [ofKind]
    · by_cases h7 : t = str 69
      · subst h7; rw [if_neg h5, if_neg h6, if_pos rfl]; simp [ofKind]
      · rw [if_neg h5, if_neg h6, if_neg h7] at h; exact absurd rfl h

theorem up_dn {f g : Fo} (hf : formB 4 f = true) (h : dn f = some g) : up g = f := by
  refine dn_ind (P := fun f g => formB 4 f = true → up g = f) ?_ ?_ ?_ ?_ ?_ ?_ f.count f g (Nat.le_refl _) h hf
  · intro _; rfl
  · intro t c r l m h1 h2 hf
    simp only [formB, Bool.and_eq_true, decide_eq_true_eq] at hf
    have ht := (right_parts hf.1.1.1).2 rfl
    rw [show up (.cons 4 ⟨#[]⟩ l m) = .cons 4 ⟨#[]⟩ (up l) (up m) by simp [up], h1 hf.1.2, h2 hf.2, ht]
  · intro k t c r m k4 hst h2 hf
    simp only [formB, Bool.and_eq_true, decide_eq_true_eq] at hf
    have hk := right_kind hf.1.1.1
    have hk4 := hf.1.1.2
    have hc := (right_parts hf.1.1.1).1 k4 (by omega)
    have h5 : ¬ (k = 5 ∨ k = 6 ∨ k = 7) := by omega
    have h8 : ¬ k = 8 := by omega
    simp only [up, k4, h5, h8, hst, if_false, h2 hf.2, hc]
  · intro c c2 r2 m h2 hf
    simp only [formB, Bool.and_eq_true, decide_eq_true_eq] at hf
    have hc := (right_parts hf.1.1.1).1 (by decide) (by decide)
    have hc2 := (right_parts hf.2.1.1.1).1 (by decide) (by decide)
    rw [show up (.cons 1 (str 42) .nil m) = .cons 1 (str 42) .nil (.cons 1 (str 86) .nil (up m)) by simp [up], h2 hf.2.2, hc, hc2]
  · intro c t2 t3 c' c3 r2 l m h1 h2 hf
    simp only [formB, Bool.and_eq_true, decide_eq_true_eq] at hf
    have hc := (right_parts hf.1.1.1).1 (by decide) (by decide)
    have ht := (right_parts hf.2.1.1.1).2 rfl
    have hc' := (right_parts hf.2.1.2.1.1.1).1 (by decide) (by decide)
    rw [show up (.cons 8 t3 l m) = .cons 1 (str 42) .nil (.cons 4 ⟨#[]⟩ (.cons 2 t3 .nil (up l)) (up m)) by simp [up], h1 hf.2.1.2.2, h2 hf.2.2, hc, ht, hc']
  · intro c t2 c2 t4 c4 r4 m hk h2 hf
    simp only [formB, Bool.and_eq_true, decide_eq_true_eq] at hf
    have hc := (right_parts hf.1.1.1).1 (by decide) (by decide)
    have hc2 := (right_parts hf.2.1.1.1).1 (by decide) (by decide)
    have hc4 := (right_parts hf.2.2.1.1.1).1 (by decide) (by decide)
    obtain ⟨e1, e2⟩ := ofKind_kindOf hk
    have h4 : ¬ kindOf t2 = 4 := by omega
    simp only [up, h4, e2, if_true, if_false, e1, h2 hf.2.2.2, hc, hc2, hc4]

theorem dnX_err {f : Fo} (h : wrongC 4 f ≠ 0) : dnX f = (.nil, wrongC 4 f) := by rw [dnX, if_pos h]
theorem dnX_none {f : Fo} (h : wrongC 4 f = 0) (hd : dn f = none) : dnX f = (.nil, 110) := by rw [dnX, if_neg (by simp [h]), hd]
theorem dnX_bad {f g : Fo} (h : wrongC 4 f = 0) (hd : dn f = some g) (hw : wrongC 8 g ≠ 0) : dnX f = (.nil, 110) := by
  rw [dnX, if_neg (by simp [h]), hd]; simp [hw]
theorem dnX_some {f g : Fo} (h : wrongC 4 f = 0) (hd : dn f = some g) (hw : wrongC 8 g = 0) : dnX f = (g, 0) := by
  rw [dnX, if_neg (by simp [h]), hd]; simp [hw]
theorem dnX_ok {f : Fo} (h : (dnX f).2 = 0) : wrongC 4 f = 0 ∧ ∃ g, dn f = some g ∧ wrongC 8 g = 0 ∧ dnX f = (g, 0) := by
  by_cases h1 : wrongC 4 f = 0
  · refine ⟨h1, ?_⟩
    cases hd : dn f with
    | none => rw [dnX_none h1 hd] at h; simp at h
    | some g =>
      by_cases h2 : wrongC 8 g = 0
      · exact ⟨g, rfl, h2, dnX_some h1 hd h2⟩
      · rw [dnX_bad h1 hd h2] at h; simp at h
  · rw [dnX_err h1] at h; exact absurd h h1

theorem upR_mk {f : Fo} (h : wrongC 8 f = 0) (hf : fitsC (up f) = 0) : upR f = (up f, 0) := by
  rw [upR, if_neg (by simp [h]), if_neg (by simp [hf])]
/-- what was made metacode comes back. -/
theorem dnX_up {f : Fo} (h : (upR f).2 = 0) : wrongC 4 (up f) = 0 ∧ dnX (up f) = (f, 0) := by
  obtain ⟨h1, h2, _⟩ := upR_ok h
  have p := fits_parts h2
  have q := wrong_formM h1
  have h4 := wrong_mk p.1 p.2 (form_up q.2.2)
  exact ⟨h4, dnX_some h4 (dn_up f q.2.2) h1⟩
theorem upR_dn {f : Fo} (h : (dnX f).2 = 0) : upR (dnX f).1 = (f, 0) := by
  obtain ⟨h4, g, hd, hw, he⟩ := dnX_ok h
  have q := wrong_formM h4
  have hu := up_dn q.2.2 hd
  rw [he]
  have := upR_mk hw (by rw [hu]; exact fits_mk q.1 q.2.1)
  rwa [hu] at this

def starB : Fo → Bool
  | .nil => false
  | .cons k t c r => (decide (k = 1 ∧ t = str 42) || starB c) || starB r
theorem starB_app (f g : Fo) : starB (f.app g) = (starB f || starB g) := by induction f with
  | nil => simp [starB]
  | cons k t c r _ ih => simp [Fo.app, starB, ih, Bool.or_assoc]
theorem star_split (f : Fo) (n : Nat) : starB f = (starB (f.take n) || starB (f.drop n)) := by rw [← starB_app, Fo.take_app_drop]
theorem star_next {f : Fo} {n : Nat} {k t c g} (hd : f.drop n = .cons k t c g) : starB (f.take (n + 1)) = (starB (f.take n) || (decide (k = 1 ∧ t = str 42) || starB c)) := by
  rw [Fo.take_succ hd, starB_app]; simp [starB]
theorem up_plain : ∀ {f : Fo}, formB 4 f = true → starB f = false → up f = f
  | .nil, _, _ => rfl
  | .cons k t c r, hf, hst => by
    simp only [formB, Bool.and_eq_true, decide_eq_true_eq] at hf
    simp only [starB, Bool.or_eq_false_iff, decide_eq_false_iff_not] at hst
    have hk := right_kind hf.1.1.1
    have hk4 := hf.1.1.2
    have IR := up_plain hf.2 hst.2
    have IC := up_plain hf.1.2 hst.1.2
    have hp := right_parts hf.1.1.1
    by_cases h4 : k = 4
    · have ht := hp.2 h4
      simp only [up, h4, if_true, IC, IR, ht]
    · have h5 : ¬ (k = 5 ∨ k = 6 ∨ k = 7) := by omega
      have h8 : ¬ k = 8 := by omega
      have hc := hp.1 h4 h8
      simp only [up, h4, h5, h8, hst.1.1, if_false, IR, hc]
theorem plain_back {f : Fo} (h : wrongC 4 f = 0) (hst : starB f = false) : upR f = (f, 0) ∧ dnX f = (f, 0) := by
  have q := wrong_formM h
  have q8 := form_mono (m := 4) (m' := 8) (by decide) q.2.2
  have hu := up_plain q.2.2 hst
  have hw := wrong_mk q.1 q.2.1 q8
  have h1 : upR f = (f, 0) := by
    have := upR_mk hw (by rw [hu]; exact fits_mk q.1 q.2.1)
    rwa [hu] at this
  have h2 := dn_up f q8
  rw [hu] at h2
  exact ⟨h1, dnX_some h h2 hw⟩
end Go.Proofs.Ytfajodndpoepcaa
