/- Metacode tells expressions apart, and goes together piece by piece. -/
import Derived.Test.YtfajodndpoepcaaUd
import Derived.Test.YtfajodndpoepcaaTc
namespace Go.Proofs.Ytfajodndpoepcaa
open Go.RowKit TmM
theorem len0 {c : Fo} (h : c.len = 0) : c = .nil := by cases c with
  | nil => rfl
  | cons k t c r => simp at h
theorem right_parts {k : Int} {t : ByteArray} {c : Fo} (h : rightB k t c = true) : (k ≠ 4 → k ≠ 8 → c = .nil) ∧ (k = 4 → t = ⟨#[]⟩) := by
  unfold rightB at h
  refine ⟨fun h4 h8 => ?_, fun h4 => ?_⟩
  · by_cases hc : 0 < c.len
    · rw [if_pos ⟨h4, h8, hc⟩] at h; cases h
    · exact len0 (by omega)
  · subst h4
    rw [if_neg (by simp), if_neg (by decide), if_neg (by decide), if_neg (by decide), if_pos rfl] at h
    have hs : t.size = 0 := by simpa using h
    obtain ⟨d⟩ := t
    have : d = #[] := Array.eq_empty_of_size_eq_zero hs
    rw [this]

theorem up_inj : ∀ (e f : Fo), formB 8 e = true → formB 8 f = true → up e = up f → e = f := by
  intro e
  induction e with
  | nil =>
    intro f _ hf h
    cases f with
    | nil => rfl
    | cons k t c r =>
      exfalso
      simp only [up] at h
      repeat' split at h
      all_goals cases h
  | cons k t c r ic ir =>
    intro f he hf h
    cases f with
    | nil =>
      exfalso
      simp only [up] at h
      repeat' split at h
      all_goals cases h
    | cons k' t' c' r' =>
      simp only [formB, Bool.and_eq_true, decide_eq_true_eq] at he hf
      obtain ⟨⟨⟨hr, hk8⟩, hc⟩, hrr⟩ := he
      obtain ⟨⟨⟨hr', hk8'⟩, hc'⟩, hrr'⟩ := hf
      have hp := right_parts hr
      have hp' := right_parts hr'
      have hk1 := (right_kind hr).1
      have hk1' := (right_kind hr').1
      have IC := ic c' hc hc'
      have IR := ir r' hrr hrr'
      clear ic ir hr hr' hc hc' hrr hrr'
      have hk : k = 1 ∨ k = 2 ∨ k = 3 ∨ k = 4 ∨ k = 5 ∨ k = 6 ∨ k = 7 ∨ k = 8 := by omega
      have hk' : k' = 1 ∨ k' = 2 ∨ k' = 3 ∨ k' = 4 ∨ k' = 5 ∨ k' = 6 ∨ k' = 7 ∨ k' = 8 := by omega
      clear hk1 hk8 hk1' hk8'
      have n1 : ¬ str 42 = str 86 := by decide
      have n2 : (83 : UInt8) ≠ 86 := by decide
      by_cases ht : t = str 42 <;> by_cases ht' : t' = str 42 <;>
      rcases hk with rfl | rfl | rfl | rfl | rfl | rfl | rfl | rfl <;> rcases hk' with rfl | rfl | rfl | rfl | rfl | rfl | rfl | rfl <;>
      first
        | (exfalso; simp [up, ofKind, str, ht, ht'] at h; done)
        | (simp_all [up, ofKind]; done)
        | (simp [up, ofKind, ht, ht'] at h; simp_all; done)

theorem count_up3 (f : Fo) : (up f).count ≤ 3 * f.count := by induction f with
  | nil => simp [up, Fo.count]
  | cons k t c r ic ih =>
    simp only [up]
    repeat' split
    all_goals simp [Fo.count]; omega

theorem up_eqF {e f : Fo} (he : formB 8 e = true) (hf : formB 8 f = true) : eqF (up e) (up f) = eqF e f := by
  rw [Bool.eq_iff_iff, eqF_iff, eqF_iff]
  exact ⟨up_inj e f he hf, fun h => by rw [h]⟩

/-- an expression that has metacode. -/
theorem upR_ok {f : Fo} (h : (upR f).2 = 0) : wrongC 8 f = 0 ∧ fitsC (up f) = 0 ∧ (upR f).1 = up f := by
  unfold upR at h ⊢
  by_cases h1 : wrongC 8 f = 0
  · rw [if_neg (by simp [h1])] at h ⊢
    by_cases h2 : fitsC (up f) = 0
    · rw [if_neg (by simp [h2])]
      exact ⟨h1, h2, rfl⟩
    · rw [if_pos h2] at h; exact absurd h h2
  · rw [if_pos h1] at h; exact absurd h h1
theorem fits_parts {g : Fo} (h : fitsC g = 0) : g.count ≤ 4000 ∧ g.depth ≤ 100 := by
  unfold fitsC at h
  by_cases h1 : 4000 < g.count
  · rw [if_pos h1] at h; omega
  · rw [if_neg h1] at h
    by_cases h2 : 100 < g.depth
    · rw [if_pos h2] at h; omega
    · exact ⟨by omega, by omega⟩
theorem upR_pieces {e f : Fo} (he : (upR e).2 = 0) (hf : (upR f).2 = 0) (hc : e.count ≤ 600) (hc' : f.count ≤ 600) : upR (e.app f) = ((up e).app (up f), 0) := by
  obtain ⟨e1, e2, _⟩ := upR_ok he
  obtain ⟨f1, f2, _⟩ := upR_ok hf
  have we := wrong_form e1
  have wf := wrong_form f1
  have pe := fits_parts e2
  have pf := fits_parts f2
  have c1 := count_up3 e
  have c2 := count_up3 f
  have hw : wrongC 8 (e.app f) = 0 := by
    unfold wrongC
    rw [if_neg (by rw [Fo.count_app]; omega), if_neg (by rw [Fo.depth_app]; omega), if_pos (by rw [formB_app, we.2.2, wf.2.2]; rfl)]
  have hft : fitsC (up (e.app f)) = 0 := by
    unfold fitsC
    rw [up_app, if_neg (by rw [Fo.count_app]; omega), if_neg (by rw [Fo.depth_app]; omega)]
  unfold upR
  rw [if_neg (by simp [hw]), if_neg (by simp [hft]), up_app]
end Go.Proofs.Ytfajodndpoepcaa
