/- Expressions as plain data: a list of terms, each with its kind, its text and its kids. -/
namespace Go.Proofs.Ytajdpchojimigaa
namespace TmM

inductive Fo where
  | nil
  | cons (k : Int) (t : ByteArray) (c : Fo) (r : Fo)

namespace Fo
def len : Fo → Nat
  | nil => 0
  | cons _ _ _ r => r.len + 1
def count : Fo → Nat
  | nil => 0
  | cons _ _ c r => c.count + r.count + 1
def deepens (k : Int) (c : Fo) : Bool := k = 4 || k = 8 || decide (0 < c.len)
def depth : Fo → Nat
  | nil => 0
  | cons k _ c r => max (c.depth + if deepens k c then 1 else 0) r.depth
def app : Fo → Fo → Fo
  | nil, g => g
  | cons k t c r, g => cons k t c (r.app g)
def drop : Nat → Fo → Fo
  | 0, f => f
  | _ + 1, nil => nil
  | n + 1, cons _ _ _ r => r.drop n
def take : Nat → Fo → Fo
  | 0, _ => nil
  | _ + 1, nil => nil
  | n + 1, cons k t c r => cons k t c (r.take n)

@[simp] theorem app_nil (f : Fo) : f.app nil = f := by induction f with
  | nil => rfl
  | cons k t c r _ ih => simp [app, ih]
theorem app_assoc (f g h : Fo) : (f.app g).app h = f.app (g.app h) := by induction f with
  | nil => rfl
  | cons k t c r _ ih => simp [app, ih]
@[simp] theorem nil_app (f : Fo) : nil.app f = f := rfl
@[simp] theorem len_nil : nil.len = 0 := rfl
@[simp] theorem len_cons (k t c r) : (cons k t c r).len = r.len + 1 := rfl
@[simp] theorem len_app (f g : Fo) : (f.app g).len = f.len + g.len := by induction f with
  | nil => simp
  | cons k t c r _ ih => simp [app, ih]; omega
@[simp] theorem count_app (f g : Fo) : (f.app g).count = f.count + g.count := by induction f with
  | nil => simp [count]
  | cons k t c r _ ih => simp only [app, count, ih]; omega
@[simp] theorem depth_app (f g : Fo) : (f.app g).depth = max f.depth g.depth := by induction f with
  | nil => simp [depth]
  | cons k t c r _ ih => simp only [app, depth, ih]; omega
theorem len_le_count (f : Fo) : f.len ≤ f.count := by induction f with
  | nil => simp [count]
  | cons k t c r _ ih => simp only [len_cons, count]; omega
theorem depth_le_count (f : Fo) : f.depth ≤ f.count := by induction f with
  | nil => simp [depth]
  | cons k t c r ic ih => simp only [depth, count]; split <;> omega
theorem drop_zero (f : Fo) : f.drop 0 = f := by cases f <;> rfl
theorem take_zero (f : Fo) : f.take 0 = nil := by cases f <;> rfl
theorem len_drop (n : Nat) (f : Fo) : (f.drop n).len = f.len - n := by
  induction n generalizing f with
  | zero => simp [drop_zero]
  | succ n ih => cases f with
    | nil => simp [drop]
    | cons k t c r => simp [drop, ih]
theorem drop_len (f : Fo) : f.drop f.len = nil := by induction f with
  | nil => rfl
  | cons k t c r _ ih => simpa [drop] using ih
theorem take_len (f : Fo) : f.take f.len = f := by induction f with
  | nil => rfl
  | cons k t c r _ ih => simpa [take] using ih
/-- what stands at an index, and what stands behind it. -/
theorem drop_at {n : Nat} {f : Fo} (h : n < f.len) : ∃ k t c, f.drop n = cons k t c (f.drop (n + 1)) := by
  induction n generalizing f with
  | zero => cases f with
    | nil => simp at h
    | cons k t c r => exact ⟨k, t, c, by simp [drop]⟩
  | succ n ih => cases f with
    | nil => simp at h
    | cons k t c r => simpa [drop] using ih (f := r) (by simpa using h)
theorem take_app_drop (n : Nat) (f : Fo) : (f.take n).app (f.drop n) = f := by
  induction n generalizing f with
  | zero => simp [drop_zero, take_zero]
  | succ n ih => cases f with
    | nil => simp [drop, take]
    | cons k t c r => simp [drop, take, app, ih]
theorem take_succ {n : Nat} {f : Fo} {k t c g} (h : f.drop n = cons k t c g) : f.take (n + 1) = (f.take n).app (cons k t c nil) := by
  induction n generalizing f with
  | zero => rw [drop_zero] at h; subst h; simp [take]
  | succ n ih => cases f with
    | nil => simp [drop] at h
    | cons k' t' c' r => simp [take, app, ih (f := r) (by simpa [drop] using h)]
theorem count_drop_le (n : Nat) (f : Fo) : (f.drop n).count ≤ f.count := by
  have := congrArg count (take_app_drop n f); simp at this; omega
theorem depth_drop_le (n : Nat) (f : Fo) : (f.drop n).depth ≤ f.depth := by
  have := congrArg depth (take_app_drop n f); simp at this; omega
theorem count_kid {n : Nat} {f : Fo} {k t c g} (h : f.drop n = cons k t c g) : c.count < f.count := by
  have := count_drop_le n f; rw [h] at this; simp [count] at this; omega
end Fo

/-- the bytes of texts. -/
def letterB (b : UInt8) : Bool := (97 ≤ b.toNat && b.toNat ≤ 122) || (65 ≤ b.toNat && b.toNat ≤ 90)
def digitB (b : UInt8) : Bool := 48 ≤ b.toNat && b.toNat ≤ 57
def innerB (b : UInt8) : Bool := letterB b || digitB b || b.toNat == 45 || b.toNat == 95
def plainB (b : UInt8) : Bool := 32 ≤ b.toNat && b.toNat ≤ 126

def nameB (most : Nat) (s : List UInt8) : Bool := match s with
  | [] => false
  | b :: _ => decide (s.length ≤ most) && letterB b && s.all innerB
def wordB (s : List UInt8) : Bool := decide (0 < s.length) && decide (s.length ≤ 60) && s.all plainB
def varB (s : List UInt8) : Bool := decide (0 < s.length) && decide (s.length ≤ 40) && s.all (fun b => letterB b || digitB b)
def unsign (s : List UInt8) : List UInt8 := match s with
  | 45 :: r => r
  | s => s
def numB (s : List UInt8) : Bool := s == [48] || (let r := unsign s; decide (0 < r.length) && decide (r.length ≤ 500) && r.all digitB && !(r.head? == some 48))

/-- whether a term is right by itself. -/
def rightB (k : Int) (t : ByteArray) (c : Fo) : Bool :=
  if k ≠ 4 ∧ k ≠ 8 ∧ 0 < c.len then false
  else if k = 1 then decide (t.size = 1)
  else if k = 2 then wordB t.data.toList
  else if k = 3 then numB t.data.toList
  else if k = 4 then decide (t.size = 0)
  else if k = 5 ∨ k = 6 ∨ k = 7 then varB t.data.toList
  else if k = 8 then nameB 40 t.data.toList
  else false

/-- whether all terms are right, and of kinds up to one. -/
def formB (most : Int) : Fo → Bool
  | .nil => true
  | .cons k t c r => rightB k t c && decide (k ≤ most) && formB most c && formB most r

/-- the error of an expression. -/
def wrongC (most : Int) (f : Fo) : Int := if 4000 < f.count then 5 else if 100 < f.depth then 6 else if formB most f then 0 else 2

@[simp] theorem formB_app (most : Int) (f g : Fo) : formB most (f.app g) = (formB most f && formB most g) := by induction f with
  | nil => simp [formB]
  | cons k t c r _ ih => simp [Fo.app, formB, ih, Bool.and_assoc]

theorem right_kind {k : Int} {t : ByteArray} {c : Fo} (h : rightB k t c = true) : 1 ≤ k ∧ k ≤ 8 := by
  unfold rightB at h
  repeat' split at h
  all_goals first | omega | simp at h

/-- all texts are short. -/
def Small : Fo → Prop
  | .nil => True
  | .cons _ t c r => t.size ≤ 1000000 ∧ Small c ∧ Small r
theorem Small.drop {f : Fo} (h : Small f) (n : Nat) : Small (f.drop n) := by
  induction n generalizing f with
  | zero => rwa [Fo.drop_zero]
  | succ n ih => cases f with
    | nil => exact h
    | cons k t c r => exact ih h.2.2
theorem Small.at {f : Fo} (h : Small f) {n : Nat} {k t c r} (hd : f.drop n = .cons k t c r) : t.size ≤ 1000000 ∧ Small c := by
  have := h.drop n; rw [hd] at this; exact ⟨this.1, this.2.1⟩
@[simp] theorem small_app (f g : Fo) : Small (f.app g) ↔ Small f ∧ Small g := by induction f with
  | nil => simp [Small]
  | cons k t c r _ ih => simp [Fo.app, Small, ih, and_assoc]

theorem form_split (most : Int) (f : Fo) (n : Nat) : formB most f = (formB most (f.take n) && formB most (f.drop n)) := by
  rw [← formB_app, Fo.take_app_drop]
theorem form_next {most : Int} {f : Fo} {n : Nat} {k t c g} (hd : f.drop n = .cons k t c g) : formB most (f.take (n + 1)) = (formB most (f.take n) && (rightB k t c && decide (k ≤ most) && formB most c)) := by
  rw [Fo.take_succ hd, formB_app]; simp [formB]

/-- metacode. -/
def str (b : UInt8) : ByteArray := ⟨#[b]⟩
def ofKind (k : Int) : UInt8 := if k = 5 then 83 else if k = 6 then 84 else 69
def up : Fo → Fo
  | .nil => .nil
  | .cons k t c r =>
    if k = 4 then .cons 4 ⟨#[]⟩ (up c) (up r)
    else if k = 5 ∨ k = 6 ∨ k = 7 then .cons 1 (str 42) .nil (.cons 1 (str (ofKind k)) .nil (.cons 2 t .nil (up r)))
    else if k = 8 then .cons 1 (str 42) .nil (.cons 4 ⟨#[]⟩ (.cons 2 t .nil (up c)) (up r))
    else .cons k t .nil (if k = 1 ∧ t = str 42 then .cons 1 (str 86) .nil (up r) else up r)

/-- the metacode of a single term. -/
def up1 (k : Int) (t : ByteArray) (c : Fo) : Fo := up (.cons k t c .nil)
theorem up_cons (k : Int) (t : ByteArray) (c r : Fo) : up (.cons k t c r) = (up1 k t c).app (up r) := by
  unfold up1
  by_cases h1 : k = 4
  · simp [up, h1, Fo.app]
  · by_cases h2 : k = 5 ∨ k = 6 ∨ k = 7
    · simp [up, h1, h2, Fo.app]
    · by_cases h3 : k = 8
      · simp [up, h3, Fo.app]
      · by_cases h4 : k = 1 ∧ t = str 42
        · obtain ⟨rfl, rfl⟩ := h4
          simp [up, Fo.app]
        · simp [up, h1, h2, h3, h4, Fo.app]
theorem up_app (f g : Fo) : up (f.app g) = (up f).app (up g) := by induction f with
  | nil => simp [up]
  | cons k t c r _ ih => rw [Fo.app, up_cons, ih, up_cons k t c r, Fo.app_assoc]
theorem count_up (f : Fo) : (up f).count ≤ 4 * f.count := by induction f with
  | nil => simp [up, Fo.count]
  | cons k t c r ic ih =>
    simp only [up]
    repeat' split
    all_goals simp [Fo.count]; omega

end TmM
end Go.Proofs.Ytajdpchojimigaa
