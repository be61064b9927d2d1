/- Plain mathematics of digits and limbs. -/
import Derived.Lib.ItoaNum
import Derived.Lib.Atoi
import Derived.Lib.Repeat
/-
  Plain mathematics of decimal digits, the lowest one first.
-/
namespace Go.Proofs.ArM

def val : List Int → Int
  | [] => 0
  | d :: l => d + 10 * val l

def Dig (l : List Int) : Prop := ∀ d ∈ l, 0 ≤ d ∧ d ≤ 9

def p10 : Nat → Int
  | 0 => 1
  | n + 1 => 10 * p10 n

theorem p10_pos (n : Nat) : 0 < p10 n := by
  induction n with
  | zero => simp [p10]
  | succ n ih => simp only [p10]; omega

theorem p10_add (m n : Nat) : p10 (m + n) = p10 m * p10 n := by
  induction m with
  | zero => simp [p10]
  | succ m ih => rw [Nat.succ_add]; simp only [p10]; rw [ih, Int.mul_assoc]

theorem p10_mono {m n : Nat} (h : m ≤ n) : p10 m ≤ p10 n := by
  obtain ⟨k, rfl⟩ := Nat.exists_eq_add_of_le h
  rw [p10_add]
  have h1 := p10_pos m
  have h2 : 1 ≤ p10 k := by have := p10_pos k; omega
  have := Int.mul_le_mul_of_nonneg_left h2 (Int.le_of_lt h1)
  omega

theorem Dig.nil : Dig [] := by intro d h; cases h
theorem Dig.cons {d : Int} {l : List Int} (hd : 0 ≤ d ∧ d ≤ 9) (h : Dig l) : Dig (d :: l) := by
  intro x hx
  rcases List.mem_cons.1 hx with rfl | hx
  · exact hd
  · exact h x hx
theorem Dig.head {d : Int} {l : List Int} (h : Dig (d :: l)) : 0 ≤ d ∧ d ≤ 9 := h d (by simp)
theorem Dig.tail {d : Int} {l : List Int} (h : Dig (d :: l)) : Dig l := fun x hx => h x (by simp [hx])
theorem Dig.append {a b : List Int} (ha : Dig a) (hb : Dig b) : Dig (a ++ b) := by
  intro x hx
  rcases List.mem_append.1 hx with h | h
  · exact ha x h
  · exact hb x h
theorem Dig.take {a : List Int} (ha : Dig a) (n : Nat) : Dig (a.take n) := fun x hx => ha x (List.mem_of_mem_take hx)
theorem Dig.drop {a : List Int} (ha : Dig a) (n : Nat) : Dig (a.drop n) := fun x hx => ha x (List.mem_of_mem_drop hx)
theorem Dig.getD {a : List Int} (ha : Dig a) (n : Nat) : 0 ≤ a.getD n 0 ∧ a.getD n 0 ≤ 9 := by
  by_cases h : n < a.length
  · have : a.getD n 0 = a[n] := by simp [List.getD, h]
    rw [this]; exact ha _ (List.getElem_mem h)
  · have : a.getD n 0 = 0 := by simp [List.getD, List.getElem?_eq_none (Nat.le_of_not_lt h)]
    omega

theorem val_append (a b : List Int) : val (a ++ b) = val a + p10 a.length * val b := by
  induction a with
  | nil => simp [val, p10]
  | cons d a ih =>
    simp only [List.cons_append, val, List.length_cons, p10, ih]
    rw [Int.mul_add, Int.mul_assoc]; omega

theorem val_nonneg {l : List Int} (h : Dig l) : 0 ≤ val l := by
  induction l with
  | nil => simp [val]
  | cons d l ih => have := h.head; have := ih h.tail; simp only [val]; omega

theorem val_lt {l : List Int} (h : Dig l) : val l < p10 l.length := by
  induction l with
  | nil => simp [val, p10]
  | cons d l ih => have := h.head; have := ih h.tail; simp only [val, List.length_cons, p10]; omega

/-- No zero at the end: the digits of a number, one list for each. -/
def Canon (l : List Int) : Prop := Dig l ∧ l.getLast? ≠ some 0

theorem Canon.tail {d : Int} {l : List Int} (h : Canon (d :: l)) : Canon l := by
  refine ⟨h.1.tail, ?_⟩
  cases l with
  | nil => simp
  | cons e l => simpa [List.getLast?_cons_cons] using h.2

theorem canon_pos {l : List Int} (h : Canon l) (hl : l ≠ []) : 0 < val l := by
  induction l with
  | nil => exact absurd rfl hl
  | cons d l ih =>
    have hd := h.1.head
    cases l with
    | nil =>
      have : d ≠ 0 := by have := h.2; simpa using this
      simp only [val]; omega
    | cons e l => have := ih h.tail (by simp); simp only [val] at this ⊢; omega

theorem canon_unique {a : List Int} : ∀ {b : List Int}, Canon a → Canon b → val a = val b → a = b := by
  induction a with
  | nil =>
    intro b _ hb h
    cases b with
    | nil => rfl
    | cons e b => have := canon_pos hb (by simp); simp only [val] at h this; omega
  | cons d a ih =>
    intro b ha hb h
    cases b with
    | nil => have := canon_pos ha (by simp); simp only [val] at h this; omega
    | cons e b =>
      have h1 := ha.1.head; have h2 := hb.1.head
      simp only [val] at h
      have hde : d = e := by omega
      subst hde
      rw [ih ha.tail hb.tail (by omega)]

theorem canon_take {l : List Int} (h : Dig l) {n : Nat} (hn : n ≤ l.length) (hz : ∀ j, n ≤ j → j < l.length → l.getD j 0 = 0) (hp : n = 0 ∨ l.getD (n - 1) 0 ≠ 0) :
    Canon (l.take n) ∧ val (l.take n) = val l := by
  refine ⟨⟨h.take n, ?_⟩, ?_⟩
  · rcases hp with rfl | hp
    · simp
    · intro he
      rw [List.getLast?_eq_getElem?, List.length_take, Nat.min_eq_left hn] at he
      have hn0 : 0 < n := by
        rcases Nat.eq_zero_or_pos n with rfl | h0
        · simp at he
        · exact h0
      rw [List.getElem?_take, if_pos (by omega)] at he
      apply hp
      simp [List.getD, he]
  · have hd : val (l.drop n) = 0 := by
      have : ∀ m : List Int, (∀ j, j < m.length → m.getD j 0 = 0) → val m = 0 := by
        intro m
        induction m with
        | nil => intro _; rfl
        | cons d m ih =>
          intro hm
          have h0 := hm 0 (by simp)
          have := ih (fun j hj => by have := hm (j + 1) (by simp; omega); simpa using this)
          simp at h0
          simp only [val]; omega
      apply this
      intro j hj
      rw [List.length_drop] at hj
      have := hz (n + j) (by omega) (by omega)
      simpa [List.getD, List.getElem?_drop] using this
    have := val_append (l.take n) (l.drop n)
    rw [List.take_append_drop, hd] at this
    omega

theorem val_take_succ (l : List Int) (n : Nat) : val (l.take (n + 1)) = val (l.take n) + p10 n * l.getD n 0 := by
  induction l generalizing n with
  | nil => simp [val]
  | cons d l ih =>
    cases n with
    | zero => simp [val, p10]
    | succ n =>
      have h := ih n
      simp only [List.take_succ_cons, val, h, p10, List.getD_cons_succ]
      rw [Int.mul_add, Int.mul_assoc]; omega

theorem val_snoc (l : List Int) (d : Int) : val (l ++ [d]) = val l + p10 l.length * d := by
  rw [val_append]; simp [val]

theorem take_of_ge {l : List Int} {n : Nat} (h : l.length ≤ n) : l.take n = l := List.take_of_length_le h

theorem getD_ge {l : List Int} {n : Nat} (h : l.length ≤ n) : l.getD n 0 = 0 := by
  simp [List.getD, List.getElem?_eq_none h]

/-- the digits of a number -/
def digs (n : Nat) : List Int := if h : n = 0 then [] else ((n % 10 : Nat) : Int) :: digs (n / 10)
termination_by n
decreasing_by omega

theorem digs_zero : digs 0 = [] := by rw [digs]; simp
theorem digs_pos {n : Nat} (h : n ≠ 0) : digs n = ((n % 10 : Nat) : Int) :: digs (n / 10) := by rw [digs]; simp [h]

theorem val_digs (n : Nat) : val (digs n) = n := by
  induction n using Nat.strongRecOn with
  | _ n ih =>
    by_cases h : n = 0
    · subst h; simp [digs_zero, val]
    · rw [digs_pos h]; simp only [val]; rw [ih (n / 10) (by omega)]; omega

theorem canon_digs (n : Nat) : Canon (digs n) := by
  induction n using Nat.strongRecOn with
  | _ n ih =>
    by_cases h : n = 0
    · subst h; rw [digs_zero]; exact ⟨Dig.nil, by simp⟩
    · have hc := ih (n / 10) (by omega)
      rw [digs_pos h]
      refine ⟨hc.1.cons (by omega), ?_⟩
      by_cases h9 : n / 10 = 0
      · rw [h9, digs_zero]; simp; omega
      · rw [digs_pos h9] at hc ⊢
        rw [List.getLast?_cons_cons]; exact hc.2

theorem eq_digs {l : List Int} (h : Canon l) : l = digs (val l).toNat :=
  canon_unique h (canon_digs _) (by rw [val_digs, Int.toNat_of_nonneg (val_nonneg h.1)])

theorem canon_eq {l : List Int} {n : Nat} (h : Canon l) (hv : val l = n) : l = digs n := by
  have := eq_digs h; rw [hv] at this; simpa using this

theorem digs_len {n k : Nat} (h : (n : Int) < p10 k) : (digs n).length ≤ k := by
  apply Nat.le_of_not_lt
  intro hlt
  have hc := canon_digs n
  have hv := val_digs n
  rcases List.eq_nil_or_concat (digs n) with h0 | ⟨l, d, hl⟩
  · rw [h0] at hlt; simp at hlt
  · rw [hl] at hc hv hlt
    simp only [List.concat_eq_append] at hc hv hlt
    rw [val_snoc] at hv
    have h1 := val_nonneg (l := l) (fun x hx => hc.1 x (by simp [hx]))
    have hd : 0 ≤ d ∧ d ≤ 9 := hc.1 d (by simp)
    have hd0 : d ≠ 0 := by have := hc.2; simpa using this
    have hp : p10 k ≤ p10 l.length := p10_mono (by simp at hlt; omega)
    have hpp := p10_pos l.length
    have : p10 l.length * 1 ≤ p10 l.length * d := Int.mul_le_mul_of_nonneg_left (by omega) (Int.le_of_lt hpp)
    omega

theorem digs_lt (n : Nat) : (n : Int) < p10 (digs n).length := by
  have := val_lt (canon_digs n).1; rwa [val_digs] at this

end Go.Proofs.ArM

namespace Go.Proofs.ArM

theorem canon_ge {l : List Int} (h : Canon l) (hl : l ≠ []) : p10 (l.length - 1) ≤ val l := by
  induction l with
  | nil => exact absurd rfl hl
  | cons d l ih =>
    have hd := h.1.head
    cases l with
    | nil =>
      have : d ≠ 0 := by have := h.2; simpa using this
      simp only [val, List.length_cons, List.length_nil, Nat.zero_add, Nat.sub_self, p10]; omega
    | cons e l =>
      have := ih h.tail (by simp)
      simp only [List.length_cons, Nat.add_sub_cancel] at this ⊢
      rw [val, p10]; omega

theorem len_lt {a b : List Int} (ha : Dig a) (hb : Canon b) (h : a.length < b.length) : val a < val b := by
  have h1 := val_lt ha
  have h2 := canon_ge hb (by intro e; rw [e] at h; simp at h)
  have h3 := p10_mono (show a.length ≤ b.length - 1 by omega)
  omega

theorem len_le {a b : List Int} (ha : Canon a) (hb : Dig b) (h : val a ≤ val b) : a.length ≤ b.length := by
  apply Nat.le_of_not_lt
  intro hl
  have := len_lt hb ha hl
  omega

theorem val_split (l : List Int) (j : Nat) (hj : j < l.length) : val l = val (l.take j) + p10 j * l.getD j 0 + p10 (j + 1) * val (l.drop (j + 1)) := by
  have h := val_append (l.take (j + 1)) (l.drop (j + 1))
  rw [List.take_append_drop, val_take_succ, List.length_take, Nat.min_eq_left (by omega)] at h
  exact h

theorem drop_lt {a b : List Int} (ha : Dig a) (hb : Dig b) {j : Nat} (hj : j < a.length) (hl : a.length = b.length) (hd : a.drop (j + 1) = b.drop (j + 1)) (h : a.getD j 0 < b.getD j 0) : val a < val b := by
  rw [val_split a j hj, val_split b j (by omega), hd]
  have h1 := val_lt (ha.take j)
  have h2 := val_nonneg (hb.take j)
  rw [List.length_take, Nat.min_eq_left (by omega)] at h1
  have h3 : p10 j * (a.getD j 0 + 1) ≤ p10 j * b.getD j 0 := Int.mul_le_mul_of_nonneg_left (by omega) (Int.le_of_lt (p10_pos j))
  rw [Int.mul_add] at h3
  omega

theorem drop_step {a b : List Int} {j : Nat} (hj : j < a.length) (hl : a.length = b.length) (hd : a.drop (j + 1) = b.drop (j + 1)) (h : a.getD j 0 = b.getD j 0) : a.drop j = b.drop j := by
  rw [List.drop_eq_getElem_cons hj, List.drop_eq_getElem_cons (by omega : j < b.length), hd]
  simp [List.getD, hj, show j < b.length by omega] at h
  rw [h]

/-- -1, 0 or 1 -/
def ordZ (a b : Int) : Int := if a < b then -1 else if b < a then 1 else 0
theorem ordZ_lt {a b : Int} (h : a < b) : ordZ a b = -1 := by simp [ordZ, h]
theorem ordZ_gt {a b : Int} (h : b < a) : ordZ a b = 1 := by rw [ordZ, if_neg (by omega), if_pos h]
theorem ordZ_eq {a b : Int} (h : a = b) : ordZ a b = 0 := by simp [ordZ, h]

end Go.Proofs.ArM

namespace Go.Proofs.ArM

theorem val_set (l : List Int) (j : Nat) (d : Int) (hj : j < l.length) : val (l.set j d) = val l + p10 j * (d - l.getD j 0) := by
  induction l generalizing j with
  | nil => simp at hj
  | cons e l ih =>
    cases j with
    | zero => simp [val, p10]; omega
    | succ j =>
      have := ih j (by simpa using hj)
      simp only [List.set_cons_succ, val, this, p10, List.getD_cons_succ]
      rw [Int.mul_add, Int.mul_assoc]; omega

theorem Dig.set {l : List Int} (h : Dig l) (j : Nat) {d : Int} (hd : 0 ≤ d ∧ d ≤ 9) : Dig (l.set j d) := by
  intro x hx
  rcases List.mem_or_eq_of_mem_set hx with h' | rfl
  · exact h x h'
  · exact hd

theorem val_replicate (n : Nat) : val (List.replicate n 0) = 0 := by
  induction n with
  | zero => rfl
  | succ n ih => rw [List.replicate_succ, val, ih]; rfl

theorem dig_replicate (n : Nat) : Dig (List.replicate n 0) := by
  intro d hd
  have := List.eq_of_mem_replicate hd
  omega

/-- one step of the inner loop of a product -/
theorem times_step {os xs ys : List Int} {i k : Nat} {cy t : Int} (ho : Dig os) (hx : Dig xs) (hy : Dig ys) (hj : i + k < os.length) (h0 : 0 ≤ cy) (h9 : cy ≤ 9)
    (ht : t = os.getD (i + k) 0 + cy + xs.getD i 0 * ys.getD k 0)
    (hv : val os + p10 (i + k) * cy = val (xs.take i) * val ys + p10 i * (xs.getD i 0 * val (ys.take k))) :
    Dig (os.set (i + k) (t % 10)) ∧ 0 ≤ t / 10 ∧ t / 10 ≤ 9 ∧
    val (os.set (i + k) (t % 10)) + p10 (i + (k + 1)) * (t / 10) = val (xs.take i) * val ys + p10 i * (xs.getD i 0 * val (ys.take (k + 1))) := by
  have a := hx.getD i
  have b := hy.getD k
  have c := ho.getD (i + k)
  have p0 : 0 ≤ xs.getD i 0 * ys.getD k 0 := Int.mul_nonneg a.1 b.1
  have p81 : xs.getD i 0 * ys.getD k 0 ≤ 81 := Int.le_trans (Int.mul_le_mul_of_nonneg_right a.2 b.1) (by omega)
  refine ⟨ho.set _ (by omega), by omega, by omega, ?_⟩
  rw [val_set _ _ _ hj, val_take_succ ys k]
  generalize os.getD (i + k) 0 = oj at *
  generalize ys.getD k 0 = dy at *
  generalize xs.getD i 0 = dx at *
  have e1 : p10 (i + (k + 1)) = p10 (i + k) * 10 := by rw [show i + (k + 1) = (i + k) + 1 from by omega, p10, Int.mul_comm]
  have e2 : p10 (i + k) = p10 i * p10 k := p10_add i k
  have e3 : p10 (i + k) * (t % 10 - oj) + p10 (i + k) * 10 * (t / 10) = p10 (i + k) * cy + p10 (i + k) * (dx * dy) := by
    rw [Int.mul_assoc, ← Int.mul_add, ← Int.mul_add]
    congr 1
    omega
  have e4 : p10 i * (dx * (val (ys.take k) + p10 k * dy)) = p10 i * (dx * val (ys.take k)) + p10 (i + k) * (dx * dy) := by
    rw [Int.mul_add, Int.mul_add, e2, Int.mul_left_comm dx, Int.mul_assoc]
  rw [e1, e4]
  omega

/-- behind the last digit no carry is left -/
theorem times_last {os xs ys : List Int} {i : Nat} {cy : Int} (ho : Dig os) (hx : Dig xs) (hy : Dig ys) (hi : i < xs.length) (h0 : 0 ≤ cy)
    (hv : val os + p10 (i + (ys.length + 1)) * cy = val (xs.take i) * val ys + p10 i * (xs.getD i 0 * val (ys.take (ys.length + 1)))) : cy = 0 := by
  rw [take_of_ge (show ys.length ≤ ys.length + 1 by omega)] at hv
  have e : val (xs.take i) * val ys + p10 i * (xs.getD i 0 * val ys) = val (xs.take (i + 1)) * val ys := by
    rw [val_take_succ, Int.add_mul, Int.mul_assoc]
  rw [e] at hv
  have h1 := val_lt (hx.take (i + 1))
  rw [List.length_take, Nat.min_eq_left (by omega)] at h1
  have h2 := val_lt hy
  have h3 := val_nonneg (hx.take (i + 1))
  have h4 := val_nonneg hy
  have h5 := val_nonneg ho
  have h6 : val (xs.take (i + 1)) * val ys < p10 (i + 1) * p10 ys.length := by
    have hp := p10_pos (i + 1)
    have hq := p10_pos ys.length
    have q1 : val (xs.take (i + 1)) * val ys ≤ val (xs.take (i + 1)) * (p10 ys.length - 1) := Int.mul_le_mul_of_nonneg_left (by omega) h3
    have q2 : val (xs.take (i + 1)) * (p10 ys.length - 1) ≤ (p10 (i + 1) - 1) * (p10 ys.length - 1) := Int.mul_le_mul_of_nonneg_right (by omega) (by omega)
    have q3 : (p10 (i + 1) - 1) * (p10 ys.length - 1) = p10 (i + 1) * p10 ys.length - p10 (i + 1) - (p10 ys.length - 1) := by
      rw [Int.sub_mul, Int.mul_sub]; omega
    omega
  rw [← p10_add, show i + 1 + ys.length = i + (ys.length + 1) from by omega] at h6
  apply Classical.byContradiction
  intro hne
  have : p10 (i + (ys.length + 1)) * 1 ≤ p10 (i + (ys.length + 1)) * cy := Int.mul_le_mul_of_nonneg_left (by omega) (Int.le_of_lt (p10_pos _))
  omega

end Go.Proofs.ArM

namespace Go.Proofs.ArM

theorem div_total {A B Q R : Int} (h : Q * B + R = A) (h0 : 0 ≤ R) (h1 : R < B) : Q = A / B ∧ R = A % B := by
  subst h
  have hB : B ≠ 0 := by omega
  rw [Int.add_comm, Int.add_mul_ediv_right _ _ hB, Int.add_mul_emod_self_right, Int.ediv_eq_zero_of_lt h0 h1, Int.emod_eq_of_lt h0 h1]
  omega

theorem val_drop (l : List Int) (j : Nat) (hj : j < l.length) : val (l.drop j) = l.getD j 0 + 10 * val (l.drop (j + 1)) := by
  rw [List.drop_eq_getElem_cons hj, val]
  simp [List.getD, hj]

/-- what long division knows ahead of a digit, and behind it -/
theorem div_step {xs qs : List Int} {i : Nat} {B R R2 c : Int} (hj : i < xs.length) (hq : i < qs.length) (hz : qs.getD i 0 = 0)
    (hv : val qs * B + p10 (i + 1) * R = p10 (i + 1) * val (xs.drop (i + 1))) (hc : c * B + R2 = xs.getD i 0 + 10 * R) :
    val (qs.set i c) * B + p10 i * R2 = p10 i * val (xs.drop i) := by
  rw [val_set _ _ _ hq, hz, val_drop xs i hj, Int.sub_zero, Int.add_mul, Int.mul_assoc]
  have e : p10 i * (c * B) + p10 i * R2 = p10 i * xs.getD i 0 + p10 (i + 1) * R := by
    rw [← Int.mul_add, hc, Int.mul_add, p10, ← Int.mul_assoc, Int.mul_comm (p10 i) 10]
  have e2 : p10 i * (xs.getD i 0 + 10 * val (xs.drop (i + 1))) = p10 i * xs.getD i 0 + p10 (i + 1) * val (xs.drop (i + 1)) := by
    rw [Int.mul_add, p10, ← Int.mul_assoc, Int.mul_comm (p10 i) 10]
  omega

/-- the digit of long division stays below ten -/
theorem div_digit {B R R2 c d : Int} (h0 : 0 ≤ R) (h1 : R < B) (hd : d ≤ 9) (hc : c * B + R2 = d + 10 * R) (hge : B ≤ R2) : c + 1 ≤ 9 := by
  apply Classical.byContradiction
  intro hn
  have : 9 * B ≤ c * B := Int.mul_le_mul_of_nonneg_right (by omega) (by omega)
  omega

end Go.Proofs.ArM

namespace Go.Proofs.ArM

theorem set_same {l : List Int} {i : Nat} {d : Int} (h : i < l.length) (hd : l.getD i 0 = d) : l.set i d = l := by
  have : l[i] = d := by simpa [List.getD, h] using hd
  rw [← this, List.set_getElem_self]

theorem getD_set_same {l : List Int} {i : Nat} {d : Int} (h : i < l.length) : (l.set i d).getD i 0 = d := by
  simp [List.getD, h]

theorem getD_set_ne {l : List Int} {i j : Nat} {d : Int} (h : i ≠ j) : (l.set i d).getD j 0 = l.getD j 0 := by
  simp [List.getD, List.getElem?_set_ne h]

end Go.Proofs.ArM

namespace Go.Proofs.ArM

def dch (d : Int) : UInt8 := (48 + d).toNat.toUInt8
theorem dch_toNat {d : Int} (h : 0 ≤ d ∧ d ≤ 9) : ((dch d).toNat : Int) = 48 + d := by
  unfold dch
  have : (48 + d).toNat < 256 := by omega
  simp [Nat.toUInt8, UInt8.toNat_ofNat']
  omega

def textOf (neg : Bool) (ds : List Int) : List UInt8 := if ds = [] then [48] else (if neg then [45] else []) ++ ds.reverse.map dch
/-- the text of an integer -/
def numT (n : Int) : List UInt8 := textOf (decide (n < 0)) (digs n.natAbs)

theorem drop_rev_succ (l : List Int) (i : Nat) (h : i < l.length) : (l.drop i).reverse.map dch = (l.drop (i + 1)).reverse.map dch ++ [dch (l.getD i 0)] := by
  have e : l.drop i = l.getD i 0 :: l.drop (i + 1) := by
    rw [List.drop_eq_getElem_cons h]; simp [List.getD, h]
  rw [e, List.reverse_cons, List.map_append]
  rfl

end Go.Proofs.ArM

namespace Go.Proofs.ArM

def digB (b : UInt8) : Bool := decide (48 ≤ b.toNat) && decide (b.toNat ≤ 57)
def coreB (l : List UInt8) : Bool := decide (1 ≤ l.length) && decide (l.length ≤ 500) && !(decide ((l.headD 0).toNat = 48) && decide (1 < l.length)) && l.all digB
/-- is it a number's text? -/
def validB (l : List UInt8) : Bool := if (l.headD 0).toNat = 45 then !(l.tail == [48]) && coreB l.tail else coreB l

theorem coreB_no {l : List UInt8} (h : l.length < 1 ∨ 500 < l.length ∨ ((l.headD 0).toNat = 48 ∧ 1 < l.length) ∨ ∃ j, ∃ h : j < l.length, digB l[j] = false) : coreB l = false := by
  rcases h with h | h | h | ⟨j, hj, h⟩
  · simp [coreB, show ¬ 1 ≤ l.length by omega]
  · simp [coreB, show ¬ l.length ≤ 500 by omega]
  · simp only [coreB, h.1, h.2, decide_true, Bool.and_self, Bool.not_true, Bool.and_false, Bool.false_and]
  · have : l.all digB = false := by
      rw [List.all_eq_false]
      exact ⟨l[j], List.getElem_mem hj, by simp [h]⟩
    simp [coreB, this]

theorem coreB_yes {l : List UInt8} (h1 : 1 ≤ l.length) (h2 : l.length ≤ 500) (h3 : ¬ ((l.headD 0).toNat = 48 ∧ 1 < l.length)) (h4 : ∀ j, ∀ h : j < l.length, digB l[j] = true) : coreB l = true := by
  have : l.all digB = true := by
    rw [List.all_eq_true]
    intro x hx
    obtain ⟨j, hj, rfl⟩ := List.getElem_of_mem hx
    exact h4 j hj
  simp only [coreB, this, Bool.and_true, Bool.and_eq_true, decide_eq_true_eq, Bool.not_eq_true', Bool.and_eq_false_iff, decide_eq_false_iff_not]
  refine ⟨⟨h1, h2⟩, ?_⟩
  by_cases h : (l.headD 0).toNat = 48
  · exact .inr (fun h' => h3 ⟨h, h'⟩)
  · exact .inl h

end Go.Proofs.ArM

namespace Go.Proofs.ArM

/-- the digit of a byte -/
def dv (b : UInt8) : Int := (b.toNat : Int) - 48
theorem dv_dig {b : UInt8} (h : digB b = true) : 0 ≤ dv b ∧ dv b ≤ 9 := by
  simp [digB] at h; unfold dv; omega
theorem dch_dv {b : UInt8} (h : digB b = true) : dch (dv b) = b := by
  simp [digB] at h
  unfold dch dv
  have : (48 + ((b.toNat : Int) - 48)).toNat = b.toNat := by omega
  rw [this]; simp
theorem dv_dch {d : Int} (h : 0 ≤ d ∧ d ≤ 9) : dv (dch d) = d := by
  unfold dv; rw [dch_toNat h]; omega
theorem digB_dch {d : Int} (h : 0 ≤ d ∧ d ≤ 9) : digB (dch d) = true := by
  have := dch_toNat h
  simp [digB]; omega

/-- the digits of a text, the lowest one first -/
def digsOf (l : List UInt8) : List Int := l.reverse.map dv
/-- the integer of a text -/
def numOf (l : List UInt8) : Int := if (l.headD 0).toNat = 45 then -val (digsOf l.tail) else val (digsOf l)

theorem coreB_parts {l : List UInt8} (h : coreB l = true) : 1 ≤ l.length ∧ l.length ≤ 500 ∧ ¬ ((l.headD 0).toNat = 48 ∧ 1 < l.length) ∧ ∀ b ∈ l, digB b = true := by
  simp only [coreB, Bool.and_eq_true, decide_eq_true_eq, Bool.not_eq_true', Bool.and_eq_false_iff, decide_eq_false_iff_not, List.all_eq_true] at h
  refine ⟨h.1.1.1, h.1.1.2, ?_, h.2⟩
  rintro ⟨a, b⟩
  rcases h.1.2 with h1 | h1
  · exact h1 a
  · exact h1 b

theorem dig_digsOf {l : List UInt8} (h : ∀ b ∈ l, digB b = true) : Dig (digsOf l) := by
  intro d hd
  simp only [digsOf, List.mem_map, List.mem_reverse] at hd
  obtain ⟨b, hb, rfl⟩ := hd
  exact dv_dig (h b hb)

theorem core_text {l : List UInt8} (h : coreB l = true) : l = [48] ∨ (Canon (digsOf l) ∧ digsOf l ≠ [] ∧ (digsOf l).reverse.map dch = l) := by
  obtain ⟨h1, _, h3, h4⟩ := coreB_parts h
  have hback : (digsOf l).reverse.map dch = l := by
    simp only [digsOf, ← List.map_reverse, List.reverse_reverse, List.map_map]
    have : l.map (dch ∘ dv) = l.map id := List.map_congr_left fun b hb => dch_dv (h4 b hb)
    rw [this, List.map_id]
  cases l with
  | nil => simp at h1
  | cons a l =>
    by_cases hz : a.toNat = 48
    · have hl : l = [] := by
        cases l with
        | nil => rfl
        | cons b l => exact absurd ⟨by simpa using hz, by simp⟩ h3
      subst hl
      left
      have : a = 48 := by apply UInt8.toNat_inj.1; simpa using hz
      rw [this]
    · right
      refine ⟨⟨dig_digsOf h4, ?_⟩, by simp [digsOf], hback⟩
      simp only [digsOf, List.reverse_cons, List.map_append, List.map_cons, List.map_nil]
      rw [List.getLast?_append]
      simp [dv]; omega

theorem textOf_digs_zero (b : Bool) : textOf b (digs 0) = [48] := by simp [textOf, digs_zero]

/-- a right text is that of its number -/
theorem valid_text {l : List UInt8} (h : validB l = true) : l = numT (numOf l) ∧ (digs (numOf l).natAbs).length ≤ 500 := by
  by_cases h45 : (l.headD 0).toNat = 45
  · rw [validB, if_pos h45, Bool.and_eq_true] at h
    obtain ⟨hne, hc⟩ := h
    have hl : l = 45 :: l.tail := by
      cases l with
      | nil => simp at h45
      | cons a l =>
        have : a = 45 := by apply UInt8.toNat_inj.1; simpa using h45
        rw [this]; rfl
    rcases core_text hc with hz | ⟨hcan, hnn, hback⟩
    · rw [hz] at hne; simp at hne
    · have hpos := canon_pos hcan hnn
      have hd : digsOf l.tail = digs (numOf l).natAbs := by
        rw [numOf, if_pos h45]
        exact canon_eq hcan (by omega)
      refine ⟨?_, ?_⟩
      · rw [numT, ← hd, show decide (numOf l < 0) = true from by rw [numOf, if_pos h45]; simp; omega, textOf, if_neg hnn, if_pos rfl, hback]
        exact hl
      · rw [← hd]; have := (coreB_parts hc).2.1; simpa [digsOf] using this
  · rw [validB, if_neg h45] at h
    rcases core_text h with hz | ⟨hcan, hnn, hback⟩
    · subst hz
      have : numOf [48] = 0 := by simp [numOf, digsOf, val, dv]
      rw [this]
      exact ⟨by simp [numT, textOf_digs_zero], by simp [digs_zero]⟩
    · have hpos := canon_pos hcan hnn
      have hd : digsOf l = digs (numOf l).natAbs := by
        rw [numOf, if_neg h45]
        exact canon_eq hcan (by omega)
      refine ⟨?_, ?_⟩
      · rw [numT, ← hd, show decide (numOf l < 0) = false from by rw [numOf, if_neg h45]; simp; omega, textOf, if_neg hnn]
        simp [hback]
      · rw [← hd]; have := (coreB_parts h).2.1; simpa [digsOf] using this

end Go.Proofs.ArM

namespace Go.Proofs.ArM
/-- a number's text, or word that it is too large -/
def resB (n : Int) : List UInt8 × Int := if 500 < (digs n.natAbs).length then ([], 7) else (numT n, 0)
end Go.Proofs.ArM

/- The text of a number is a number's text: plain mathematics. -/
namespace Go.Proofs.ArM

theorem digs_rev_cons {n : Nat} (h : n ≠ 0) : ∃ d l, (digs n).reverse = d :: l ∧ 1 ≤ d ∧ d ≤ 9 := by
  have hc := canon_digs n
  have hne : digs n ≠ [] := by rw [digs_pos h]; simp
  rcases hr : (digs n).reverse with _ | ⟨d, l⟩
  · simp at hr; exact absurd hr hne
  · have e : digs n = (d :: l).reverse := by rw [← hr, List.reverse_reverse]
    have hl : (digs n).getLast? = some d := by rw [e]; simp
    have hd0 : d ≠ 0 := by intro e0; exact hc.2 (by rw [hl, e0])
    have hm : d ∈ digs n := by rw [e]; simp
    have := hc.1 d hm
    exact ⟨d, l, rfl, by omega, this.2⟩

theorem digsOf_map {ds : List Int} (h : Dig ds) : digsOf (ds.reverse.map dch) = ds := by
  unfold digsOf
  rw [← List.map_reverse, List.reverse_reverse, List.map_map]
  conv => rhs; rw [← List.map_id ds]
  apply List.map_congr_left
  intro d hd
  exact dv_dch (h d hd)

theorem core_text_of {ds : List Int} (h : Dig ds) (hl : ds.length ≤ 500) {d : Int} {l : List Int} (hr : ds.reverse = d :: l) (h1 : 1 ≤ d) (h9 : d ≤ 9) :
    coreB (ds.reverse.map dch) = true := by
  have hb := dch_toNat (d := d) ⟨by omega, h9⟩
  have hlen : ds.length = l.length + 1 := by
    have := congrArg List.length hr
    simpa using this
  rw [hr, List.map_cons, coreB]
  simp only [Bool.and_eq_true, decide_eq_true_eq, List.length_cons, List.length_map, List.all_eq_true, Bool.not_eq_true']
  refine ⟨⟨⟨by omega, by omega⟩, ?_⟩, ?_⟩
  · have hx : ¬ (dch d).toNat = 48 := by omega
    simp [hx]
  · intro b hbm
    rcases List.mem_cons.1 hbm with rfl | hbm
    · exact digB_dch ⟨by omega, h9⟩
    · obtain ⟨x, hx, rfl⟩ := List.mem_map.1 hbm
      have : x ∈ ds := by
        rw [← List.mem_reverse, hr]; exact List.mem_cons_of_mem _ hx
      exact digB_dch (h x this)

/-- a number's own text is right, and is that number's -/
theorem text_valid {m : Int} (h : (digs m.natAbs).length ≤ 500) : validB (numT m) = true ∧ numOf (numT m) = m := by
  by_cases h0 : m = 0
  · subst h0
    have : numT 0 = [48] := by simp [numT, textOf, digs_zero]
    rw [this]
    exact ⟨by decide, by simp [numOf, digsOf, val, dv]⟩
  · have hn : m.natAbs ≠ 0 := by omega
    obtain ⟨d, l, hr, h1, h9⟩ := digs_rev_cons hn
    have hc := canon_digs m.natAbs
    have hb := dch_toNat (d := d) ⟨by omega, h9⟩
    have hcore := core_text_of hc.1 h hr h1 h9
    have hdo := digsOf_map hc.1
    have hne : digs m.natAbs ≠ [] := by rw [digs_pos hn]; simp
    have hh : ((digs m.natAbs).reverse.map dch).headD 0 = dch d := by rw [hr]; rfl
    by_cases hneg : m < 0
    · have e : numT m = 45 :: (digs m.natAbs).reverse.map dch := by
        rw [numT, textOf, if_neg hne, decide_eq_true hneg]; rfl
      rw [e]
      refine ⟨?_, ?_⟩
      · rw [validB, if_pos (by rfl), Bool.and_eq_true]
        refine ⟨?_, hcore⟩
        rw [List.tail_cons, hr, List.map_cons]
        simp only [Bool.not_eq_true', beq_eq_false_iff_ne, ne_eq]
        intro hx
        have := congrArg (fun l => (l.headD 0).toNat) hx
        simp at this
        omega
      · rw [numOf, if_pos (by rfl), List.tail_cons, hdo, val_digs]; omega
    · have e : numT m = (digs m.natAbs).reverse.map dch := by
        rw [numT, textOf, if_neg hne, decide_eq_false hneg]; rfl
      rw [e]
      have h45 : ¬ (((digs m.natAbs).reverse.map dch).headD 0).toNat = 45 := by rw [hh]; omega
      refine ⟨?_, ?_⟩
      · rw [validB, if_neg h45]; exact hcore
      · rw [numOf, if_neg h45, hdo, val_digs]; omega

end Go.Proofs.ArM

/-
  Plain mathematics of digits to the base 10000, the lowest one first.
-/
namespace Go.Proofs.ArM

def Lval : List Int → Int
  | [] => 0
  | d :: l => d + 10000 * Lval l

def LDig (l : List Int) : Prop := ∀ d ∈ l, 0 ≤ d ∧ d ≤ 9999

def Lp10 : Nat → Int
  | 0 => 1
  | n + 1 => 10000 * Lp10 n

theorem Lp10_pos (n : Nat) : 0 < Lp10 n := by
  induction n with
  | zero => simp [Lp10]
  | succ n ih => simp only [Lp10]; omega

theorem Lp10_add (m n : Nat) : Lp10 (m + n) = Lp10 m * Lp10 n := by
  induction m with
  | zero => simp [Lp10]
  | succ m ih => rw [Nat.succ_add]; simp only [Lp10]; rw [ih, Int.mul_assoc]

theorem Lp10_mono {m n : Nat} (h : m ≤ n) : Lp10 m ≤ Lp10 n := by
  obtain ⟨k, rfl⟩ := Nat.exists_eq_add_of_le h
  rw [Lp10_add]
  have h1 := Lp10_pos m
  have h2 : 1 ≤ Lp10 k := by have := Lp10_pos k; omega
  have := Int.mul_le_mul_of_nonneg_left h2 (Int.le_of_lt h1)
  omega

theorem LDig.nil : LDig [] := by intro d h; cases h
theorem LDig.cons {d : Int} {l : List Int} (hd : 0 ≤ d ∧ d ≤ 9999) (h : LDig l) : LDig (d :: l) := by
  intro x hx
  rcases List.mem_cons.1 hx with rfl | hx
  · exact hd
  · exact h x hx
theorem LDig.head {d : Int} {l : List Int} (h : LDig (d :: l)) : 0 ≤ d ∧ d ≤ 9999 := h d (by simp)
theorem LDig.tail {d : Int} {l : List Int} (h : LDig (d :: l)) : LDig l := fun x hx => h x (by simp [hx])
theorem LDig.append {a b : List Int} (ha : LDig a) (hb : LDig b) : LDig (a ++ b) := by
  intro x hx
  rcases List.mem_append.1 hx with h | h
  · exact ha x h
  · exact hb x h
theorem LDig.take {a : List Int} (ha : LDig a) (n : Nat) : LDig (a.take n) := fun x hx => ha x (List.mem_of_mem_take hx)
theorem LDig.drop {a : List Int} (ha : LDig a) (n : Nat) : LDig (a.drop n) := fun x hx => ha x (List.mem_of_mem_drop hx)
theorem LDig.getD {a : List Int} (ha : LDig a) (n : Nat) : 0 ≤ a.getD n 0 ∧ a.getD n 0 ≤ 9999 := by
  by_cases h : n < a.length
  · have : a.getD n 0 = a[n] := by simp [List.getD, h]
    rw [this]; exact ha _ (List.getElem_mem h)
  · have : a.getD n 0 = 0 := by simp [List.getD, List.getElem?_eq_none (Nat.le_of_not_lt h)]
    omega

theorem Lval_append (a b : List Int) : Lval (a ++ b) = Lval a + Lp10 a.length * Lval b := by
  induction a with
  | nil => simp [Lval, Lp10]
  | cons d a ih =>
    simp only [List.cons_append, Lval, List.length_cons, Lp10, ih]
    rw [Int.mul_add, Int.mul_assoc]; omega

theorem Lval_nonneg {l : List Int} (h : LDig l) : 0 ≤ Lval l := by
  induction l with
  | nil => simp [Lval]
  | cons d l ih => have := h.head; have := ih h.tail; simp only [Lval]; omega

theorem Lval_lt {l : List Int} (h : LDig l) : Lval l < Lp10 l.length := by
  induction l with
  | nil => simp [Lval, Lp10]
  | cons d l ih => have := h.head; have := ih h.tail; simp only [Lval, List.length_cons, Lp10]; omega

/-- No zero at the end: the digits of a number, one list for each. -/
def LCanon (l : List Int) : Prop := LDig l ∧ l.getLast? ≠ some 0

theorem LCanon.tail {d : Int} {l : List Int} (h : LCanon (d :: l)) : LCanon l := by
  refine ⟨h.1.tail, ?_⟩
  cases l with
  | nil => simp
  | cons e l => simpa [List.getLast?_cons_cons] using h.2

theorem Lcanon_pos {l : List Int} (h : LCanon l) (hl : l ≠ []) : 0 < Lval l := by
  induction l with
  | nil => exact absurd rfl hl
  | cons d l ih =>
    have hd := h.1.head
    cases l with
    | nil =>
      have : d ≠ 0 := by have := h.2; simpa using this
      simp only [Lval]; omega
    | cons e l => have := ih h.tail (by simp); simp only [Lval] at this ⊢; omega

theorem Lcanon_unique {a : List Int} : ∀ {b : List Int}, LCanon a → LCanon b → Lval a = Lval b → a = b := by
  induction a with
  | nil =>
    intro b _ hb h
    cases b with
    | nil => rfl
    | cons e b => have := Lcanon_pos hb (by simp); simp only [Lval] at h this; omega
  | cons d a ih =>
    intro b ha hb h
    cases b with
    | nil => have := Lcanon_pos ha (by simp); simp only [Lval] at h this; omega
    | cons e b =>
      have h1 := ha.1.head; have h2 := hb.1.head
      simp only [Lval] at h
      have hde : d = e := by omega
      subst hde
      rw [ih ha.tail hb.tail (by omega)]

theorem Lcanon_take {l : List Int} (h : LDig l) {n : Nat} (hn : n ≤ l.length) (hz : ∀ j, n ≤ j → j < l.length → l.getD j 0 = 0) (hp : n = 0 ∨ l.getD (n - 1) 0 ≠ 0) :
    LCanon (l.take n) ∧ Lval (l.take n) = Lval l := by
  refine ⟨⟨h.take n, ?_⟩, ?_⟩
  · rcases hp with rfl | hp
    · simp
    · intro he
      rw [List.getLast?_eq_getElem?, List.length_take, Nat.min_eq_left hn] at he
      have hn0 : 0 < n := by
        rcases Nat.eq_zero_or_pos n with rfl | h0
        · simp at he
        · exact h0
      rw [List.getElem?_take, if_pos (by omega)] at he
      apply hp
      simp [List.getD, he]
  · have hd : Lval (l.drop n) = 0 := by
      have : ∀ m : List Int, (∀ j, j < m.length → m.getD j 0 = 0) → Lval m = 0 := by
        intro m
        induction m with
        | nil => intro _; rfl
        | cons d m ih =>
          intro hm
          have h0 := hm 0 (by simp)
          have := ih (fun j hj => by have := hm (j + 1) (by simp; omega); simpa using this)
          simp at h0
          simp only [Lval]; omega
      apply this
      intro j hj
      rw [List.length_drop] at hj
      have := hz (n + j) (by omega) (by omega)
      simpa [List.getD, List.getElem?_drop] using this
    have := Lval_append (l.take n) (l.drop n)
    rw [List.take_append_drop, hd] at this
    omega

theorem Lval_take_succ (l : List Int) (n : Nat) : Lval (l.take (n + 1)) = Lval (l.take n) + Lp10 n * l.getD n 0 := by
  induction l generalizing n with
  | nil => simp [Lval]
  | cons d l ih =>
    cases n with
    | zero => simp [Lval, Lp10]
    | succ n =>
      have h := ih n
      simp only [List.take_succ_cons, Lval, h, Lp10, List.getD_cons_succ]
      rw [Int.mul_add, Int.mul_assoc]; omega

theorem Lval_snoc (l : List Int) (d : Int) : Lval (l ++ [d]) = Lval l + Lp10 l.length * d := by
  rw [Lval_append]; simp [Lval]

theorem Ltake_of_ge {l : List Int} {n : Nat} (h : l.length ≤ n) : l.take n = l := List.take_of_length_le h

theorem LgetD_ge {l : List Int} {n : Nat} (h : l.length ≤ n) : l.getD n 0 = 0 := by
  simp [List.getD, List.getElem?_eq_none h]

/-- the digits of a number -/
def Ldigs (n : Nat) : List Int := if h : n = 0 then [] else ((n % 10000 : Nat) : Int) :: Ldigs (n / 10000)
termination_by n
decreasing_by omega

theorem Ldigs_zero : Ldigs 0 = [] := by rw [Ldigs]; simp
theorem Ldigs_pos {n : Nat} (h : n ≠ 0) : Ldigs n = ((n % 10000 : Nat) : Int) :: Ldigs (n / 10000) := by rw [Ldigs]; simp [h]

theorem Lval_digs (n : Nat) : Lval (Ldigs n) = n := by
  induction n using Nat.strongRecOn with
  | _ n ih =>
    by_cases h : n = 0
    · subst h; simp [Ldigs_zero, Lval]
    · rw [Ldigs_pos h]; simp only [Lval]; rw [ih (n / 10000) (by omega)]; omega

theorem Lcanon_digs (n : Nat) : LCanon (Ldigs n) := by
  induction n using Nat.strongRecOn with
  | _ n ih =>
    by_cases h : n = 0
    · subst h; rw [Ldigs_zero]; exact ⟨LDig.nil, by simp⟩
    · have hc := ih (n / 10000) (by omega)
      rw [Ldigs_pos h]
      refine ⟨hc.1.cons (by omega), ?_⟩
      by_cases h9 : n / 10000 = 0
      · rw [h9, Ldigs_zero]; simp; omega
      · rw [Ldigs_pos h9] at hc ⊢
        rw [List.getLast?_cons_cons]; exact hc.2

theorem Leq_digs {l : List Int} (h : LCanon l) : l = Ldigs (Lval l).toNat :=
  Lcanon_unique h (Lcanon_digs _) (by rw [Lval_digs, Int.toNat_of_nonneg (Lval_nonneg h.1)])

theorem Lcanon_eq {l : List Int} {n : Nat} (h : LCanon l) (hv : Lval l = n) : l = Ldigs n := by
  have := Leq_digs h; rw [hv] at this; simpa using this

theorem Ldigs_len {n k : Nat} (h : (n : Int) < Lp10 k) : (Ldigs n).length ≤ k := by
  apply Nat.le_of_not_lt
  intro hlt
  have hc := Lcanon_digs n
  have hv := Lval_digs n
  rcases List.eq_nil_or_concat (Ldigs n) with h0 | ⟨l, d, hl⟩
  · rw [h0] at hlt; simp at hlt
  · rw [hl] at hc hv hlt
    simp only [List.concat_eq_append] at hc hv hlt
    rw [Lval_snoc] at hv
    have h1 := Lval_nonneg (l := l) (fun x hx => hc.1 x (by simp [hx]))
    have hd : 0 ≤ d ∧ d ≤ 9999 := hc.1 d (by simp)
    have hd0 : d ≠ 0 := by have := hc.2; simpa using this
    have hp : Lp10 k ≤ Lp10 l.length := Lp10_mono (by simp at hlt; omega)
    have hpp := Lp10_pos l.length
    have : Lp10 l.length * 1 ≤ Lp10 l.length * d := Int.mul_le_mul_of_nonneg_left (by omega) (Int.le_of_lt hpp)
    omega

theorem Ldigs_lt (n : Nat) : (n : Int) < Lp10 (Ldigs n).length := by
  have := Lval_lt (Lcanon_digs n).1; rwa [Lval_digs] at this

end Go.Proofs.ArM

namespace Go.Proofs.ArM

theorem Lcanon_ge {l : List Int} (h : LCanon l) (hl : l ≠ []) : Lp10 (l.length - 1) ≤ Lval l := by
  induction l with
  | nil => exact absurd rfl hl
  | cons d l ih =>
    have hd := h.1.head
    cases l with
    | nil =>
      have : d ≠ 0 := by have := h.2; simpa using this
      simp only [Lval, List.length_cons, List.length_nil, Nat.zero_add, Nat.sub_self, Lp10]; omega
    | cons e l =>
      have := ih h.tail (by simp)
      simp only [List.length_cons, Nat.add_sub_cancel] at this ⊢
      rw [Lval, Lp10]; omega

theorem Llen_lt {a b : List Int} (ha : LDig a) (hb : LCanon b) (h : a.length < b.length) : Lval a < Lval b := by
  have h1 := Lval_lt ha
  have h2 := Lcanon_ge hb (by intro e; rw [e] at h; simp at h)
  have h3 := Lp10_mono (show a.length ≤ b.length - 1 by omega)
  omega

theorem Llen_le {a b : List Int} (ha : LCanon a) (hb : LDig b) (h : Lval a ≤ Lval b) : a.length ≤ b.length := by
  apply Nat.le_of_not_lt
  intro hl
  have := Llen_lt hb ha hl
  omega

theorem Lval_split (l : List Int) (j : Nat) (hj : j < l.length) : Lval l = Lval (l.take j) + Lp10 j * l.getD j 0 + Lp10 (j + 1) * Lval (l.drop (j + 1)) := by
  have h := Lval_append (l.take (j + 1)) (l.drop (j + 1))
  rw [List.take_append_drop, Lval_take_succ, List.length_take, Nat.min_eq_left (by omega)] at h
  exact h

theorem Ldrop_lt {a b : List Int} (ha : LDig a) (hb : LDig b) {j : Nat} (hj : j < a.length) (hl : a.length = b.length) (hd : a.drop (j + 1) = b.drop (j + 1)) (h : a.getD j 0 < b.getD j 0) : Lval a < Lval b := by
  rw [Lval_split a j hj, Lval_split b j (by omega), hd]
  have h1 := Lval_lt (ha.take j)
  have h2 := Lval_nonneg (hb.take j)
  rw [List.length_take, Nat.min_eq_left (by omega)] at h1
  have h3 : Lp10 j * (a.getD j 0 + 1) ≤ Lp10 j * b.getD j 0 := Int.mul_le_mul_of_nonneg_left (by omega) (Int.le_of_lt (Lp10_pos j))
  rw [Int.mul_add] at h3
  omega

theorem Ldrop_step {a b : List Int} {j : Nat} (hj : j < a.length) (hl : a.length = b.length) (hd : a.drop (j + 1) = b.drop (j + 1)) (h : a.getD j 0 = b.getD j 0) : a.drop j = b.drop j := by
  rw [List.drop_eq_getElem_cons hj, List.drop_eq_getElem_cons (by omega : j < b.length), hd]
  simp [List.getD, hj, show j < b.length by omega] at h
  rw [h]

/-- -1, 0 or 1 -/
def LordZ (a b : Int) : Int := if a < b then -1 else if b < a then 1 else 0
theorem LordZ_lt {a b : Int} (h : a < b) : LordZ a b = -1 := by simp [LordZ, h]
theorem LordZ_gt {a b : Int} (h : b < a) : LordZ a b = 1 := by rw [LordZ, if_neg (by omega), if_pos h]
theorem LordZ_eq {a b : Int} (h : a = b) : LordZ a b = 0 := by simp [LordZ, h]

end Go.Proofs.ArM

namespace Go.Proofs.ArM

theorem Lval_set (l : List Int) (j : Nat) (d : Int) (hj : j < l.length) : Lval (l.set j d) = Lval l + Lp10 j * (d - l.getD j 0) := by
  induction l generalizing j with
  | nil => simp at hj
  | cons e l ih =>
    cases j with
    | zero => simp [Lval, Lp10]; omega
    | succ j =>
      have := ih j (by simpa using hj)
      simp only [List.set_cons_succ, Lval, this, Lp10, List.getD_cons_succ]
      rw [Int.mul_add, Int.mul_assoc]; omega

theorem LDig.set {l : List Int} (h : LDig l) (j : Nat) {d : Int} (hd : 0 ≤ d ∧ d ≤ 9999) : LDig (l.set j d) := by
  intro x hx
  rcases List.mem_or_eq_of_mem_set hx with h' | rfl
  · exact h x h'
  · exact hd

theorem Lval_replicate (n : Nat) : Lval (List.replicate n 0) = 0 := by
  induction n with
  | zero => rfl
  | succ n ih => rw [List.replicate_succ, Lval, ih]; rfl

theorem Ldig_replicate (n : Nat) : LDig (List.replicate n 0) := by
  intro d hd
  have := List.eq_of_mem_replicate hd
  omega

/-- one step of the inner loop of a product -/
theorem Ltimes_step {os xs ys : List Int} {i k : Nat} {cy t : Int} (ho : LDig os) (hx : LDig xs) (hy : LDig ys) (hj : i + k < os.length) (h0 : 0 ≤ cy) (h9 : cy ≤ 9999)
    (ht : t = os.getD (i + k) 0 + cy + xs.getD i 0 * ys.getD k 0)
    (hv : Lval os + Lp10 (i + k) * cy = Lval (xs.take i) * Lval ys + Lp10 i * (xs.getD i 0 * Lval (ys.take k))) :
    LDig (os.set (i + k) (t % 10000)) ∧ 0 ≤ t / 10000 ∧ t / 10000 ≤ 9999 ∧
    Lval (os.set (i + k) (t % 10000)) + Lp10 (i + (k + 1)) * (t / 10000) = Lval (xs.take i) * Lval ys + Lp10 i * (xs.getD i 0 * Lval (ys.take (k + 1))) := by
  have a := hx.getD i
  have b := hy.getD k
  have c := ho.getD (i + k)
  have p0 : 0 ≤ xs.getD i 0 * ys.getD k 0 := Int.mul_nonneg a.1 b.1
  have p81 : xs.getD i 0 * ys.getD k 0 ≤ 99980001 := Int.le_trans (Int.mul_le_mul_of_nonneg_right a.2 b.1) (by omega)
  refine ⟨ho.set _ (by omega), by omega, by omega, ?_⟩
  rw [Lval_set _ _ _ hj, Lval_take_succ ys k]
  generalize os.getD (i + k) 0 = oj at *
  generalize ys.getD k 0 = dy at *
  generalize xs.getD i 0 = dx at *
  have e1 : Lp10 (i + (k + 1)) = Lp10 (i + k) * 10000 := by rw [show i + (k + 1) = (i + k) + 1 from by omega, Lp10, Int.mul_comm]
  have e2 : Lp10 (i + k) = Lp10 i * Lp10 k := Lp10_add i k
  have e3 : Lp10 (i + k) * (t % 10000 - oj) + Lp10 (i + k) * 10000 * (t / 10000) = Lp10 (i + k) * cy + Lp10 (i + k) * (dx * dy) := by
    rw [Int.mul_assoc, ← Int.mul_add, ← Int.mul_add]
    congr 1
    omega
  have e4 : Lp10 i * (dx * (Lval (ys.take k) + Lp10 k * dy)) = Lp10 i * (dx * Lval (ys.take k)) + Lp10 (i + k) * (dx * dy) := by
    rw [Int.mul_add, Int.mul_add, e2, Int.mul_left_comm dx, Int.mul_assoc]
  rw [e1, e4]
  omega

/-- behind the last digit no carry is left -/
theorem Ltimes_last {os xs ys : List Int} {i : Nat} {cy : Int} (ho : LDig os) (hx : LDig xs) (hy : LDig ys) (hi : i < xs.length) (h0 : 0 ≤ cy)
    (hv : Lval os + Lp10 (i + (ys.length + 1)) * cy = Lval (xs.take i) * Lval ys + Lp10 i * (xs.getD i 0 * Lval (ys.take (ys.length + 1)))) : cy = 0 := by
  rw [Ltake_of_ge (show ys.length ≤ ys.length + 1 by omega)] at hv
  have e : Lval (xs.take i) * Lval ys + Lp10 i * (xs.getD i 0 * Lval ys) = Lval (xs.take (i + 1)) * Lval ys := by
    rw [Lval_take_succ, Int.add_mul, Int.mul_assoc]
  rw [e] at hv
  have h1 := Lval_lt (hx.take (i + 1))
  rw [List.length_take, Nat.min_eq_left (by omega)] at h1
  have h2 := Lval_lt hy
  have h3 := Lval_nonneg (hx.take (i + 1))
  have h4 := Lval_nonneg hy
  have h5 := Lval_nonneg ho
  have h6 : Lval (xs.take (i + 1)) * Lval ys < Lp10 (i + 1) * Lp10 ys.length := by
    have hp := Lp10_pos (i + 1)
    have hq := Lp10_pos ys.length
    have q1 : Lval (xs.take (i + 1)) * Lval ys ≤ Lval (xs.take (i + 1)) * (Lp10 ys.length - 1) := Int.mul_le_mul_of_nonneg_left (by omega) h3
    have q2 : Lval (xs.take (i + 1)) * (Lp10 ys.length - 1) ≤ (Lp10 (i + 1) - 1) * (Lp10 ys.length - 1) := Int.mul_le_mul_of_nonneg_right (by omega) (by omega)
    have q3 : (Lp10 (i + 1) - 1) * (Lp10 ys.length - 1) = Lp10 (i + 1) * Lp10 ys.length - Lp10 (i + 1) - (Lp10 ys.length - 1) := by
      rw [Int.sub_mul, Int.mul_sub]; omega
    omega
  rw [← Lp10_add, show i + 1 + ys.length = i + (ys.length + 1) from by omega] at h6
  apply Classical.byContradiction
  intro hne
  have : Lp10 (i + (ys.length + 1)) * 1 ≤ Lp10 (i + (ys.length + 1)) * cy := Int.mul_le_mul_of_nonneg_left (by omega) (Int.le_of_lt (Lp10_pos _))
  omega

end Go.Proofs.ArM

namespace Go.Proofs.ArM

theorem Ldiv_total {A B Q R : Int} (h : Q * B + R = A) (h0 : 0 ≤ R) (h1 : R < B) : Q = A / B ∧ R = A % B := by
  subst h
  have hB : B ≠ 0 := by omega
  rw [Int.add_comm, Int.add_mul_ediv_right _ _ hB, Int.add_mul_emod_self_right, Int.ediv_eq_zero_of_lt h0 h1, Int.emod_eq_of_lt h0 h1]
  omega

theorem Lval_drop (l : List Int) (j : Nat) (hj : j < l.length) : Lval (l.drop j) = l.getD j 0 + 10000 * Lval (l.drop (j + 1)) := by
  rw [List.drop_eq_getElem_cons hj, Lval]
  simp [List.getD, hj]

end Go.Proofs.ArM

namespace Go.Proofs.ArM

theorem Lset_same {l : List Int} {i : Nat} {d : Int} (h : i < l.length) (hd : l.getD i 0 = d) : l.set i d = l := by
  have : l[i] = d := by simpa [List.getD, h] using hd
  rw [← this, List.set_getElem_self]

theorem LgetD_set_same {l : List Int} {i : Nat} {d : Int} (h : i < l.length) : (l.set i d).getD i 0 = d := by
  simp [List.getD, h]

theorem LgetD_set_ne {l : List Int} {i j : Nat} {d : Int} (h : i ≠ j) : (l.set i d).getD j 0 = l.getD j 0 := by
  simp [List.getD, List.getElem?_set_ne h]

end Go.Proofs.ArM

/- Digits to the base 10000 and decimal digits: plain mathematics. -/
namespace Go.Proofs.ArM

theorem Ldigs_len_iff {n k : Nat} : (Ldigs n).length ≤ k ↔ (n : Int) < Lp10 k :=
  ⟨fun h => Int.lt_of_lt_of_le (Ldigs_lt n) (Lp10_mono h), Ldigs_len⟩
theorem digs_len_iff {n k : Nat} : (digs n).length ≤ k ↔ (n : Int) < p10 k :=
  ⟨fun h => Int.lt_of_lt_of_le (digs_lt n) (p10_mono h), digs_len⟩
theorem Lp10_four (k : Nat) : Lp10 k = p10 (4 * k) := by
  induction k with
  | zero => rfl
  | succ k ih =>
    rw [show 4 * (k + 1) = 4 * k + 1 + 1 + 1 + 1 from by omega]
    simp only [Lp10, p10, ih]; omega
theorem large_iff (n : Nat) : 125 < (Ldigs n).length ↔ 500 < (digs n).length := by
  have h1 := @Ldigs_len_iff n 125
  have h2 := @digs_len_iff n 500
  rw [Lp10_four] at h1
  constructor
  · intro h
    apply Nat.lt_of_not_le
    intro h3
    have := h1.2 (h2.1 h3)
    omega
  · intro h
    apply Nat.lt_of_not_le
    intro h3
    have := h2.2 (h1.1 h3)
    omega

theorem dch_ofNat (k : Nat) (h : k < 10) : UInt8.ofNat (48 + k) = dch (k : Int) := by
  apply UInt8.toNat_inj.1
  have := dch_toNat (d := (k : Int)) ⟨by omega, by omega⟩
  rw [UInt8.toNat_ofNat']
  omega

theorem decDigits_digs {n : Nat} (h : n ≠ 0) : Lib.decDigits n = (digs n).reverse.map dch := by
  induction n using Nat.strongRecOn with
  | _ n ih =>
    rw [Lib.decDigits, digs_pos h]
    by_cases h10 : n < 10
    · rw [dif_pos h10, show n / 10 = 0 from by omega, digs_zero, dch_ofNat n h10, show n % 10 = n from by omega]
      rfl
    · rw [dif_neg h10, ih (n / 10) (by omega) (by omega), dch_ofNat _ (by omega)]
      simp
theorem decDigits_zero : Lib.decDigits 0 = [48] := by rw [Lib.decDigits]; rfl
theorem itoa_numT (n : Int) : Lib.itoa n = numT n := by
  unfold Lib.itoa numT textOf
  by_cases h : n < 0
  · have hne : n.natAbs ≠ 0 := by omega
    have hd : digs n.natAbs ≠ [] := by rw [digs_pos hne]; simp
    rw [if_pos h, if_neg hd, decide_eq_true h, decDigits_digs hne]
    rfl
  · rw [if_neg h, decide_eq_false h]
    by_cases h0 : n = 0
    · subst h0; simp [digs_zero, decDigits_zero]
    · have hne : n.toNat ≠ 0 := by omega
      have e : n.natAbs = n.toNat := by omega
      have hd : digs n.toNat ≠ [] := by rw [digs_pos hne]; simp
      rw [e, if_neg hd, decDigits_digs hne]
      rfl

/-- the four decimal digits of a limb, the highest one first -/
def four (d : Nat) : List UInt8 := [dch ((d / 1000 % 10 : Nat) : Int), dch ((d / 100 % 10 : Nat) : Int), dch ((d / 10 % 10 : Nat) : Int), dch ((d % 10 : Nat) : Int)]
theorem four_dec {d : Nat} (h : d < 10000) : (Lib.decDigits d).length ≤ 4 ∧ 1 ≤ (Lib.decDigits d).length ∧ Lib.repeatL [48] (4 - (Lib.decDigits d).length) ++ Lib.decDigits d = four d := by
  have z : dch ((0 : Nat) : Int) = 48 := rfl
  by_cases h1 : d < 10
  · rw [Lib.decDigits, dif_pos h1, dch_ofNat d h1, four, show d / 1000 % 10 = 0 from by omega, show d / 100 % 10 = 0 from by omega, show d / 10 % 10 = 0 from by omega, show d % 10 = d from by omega, z]
    simp [Lib.repeatL]
  · rw [Lib.decDigits, dif_neg h1, dch_ofNat _ (by omega)]
    by_cases h2 : d < 100
    · rw [Lib.decDigits, dif_pos (by omega), dch_ofNat _ (by omega), four, show d / 1000 % 10 = 0 from by omega, show d / 100 % 10 = 0 from by omega, show d / 10 % 10 = d / 10 from by omega, z]
      simp [Lib.repeatL]
    · rw [Lib.decDigits, dif_neg (by omega), dch_ofNat _ (by omega)]
      by_cases h3 : d < 1000
      · rw [Lib.decDigits, dif_pos (by omega), dch_ofNat _ (by omega), four, show d / 1000 % 10 = 0 from by omega, show d / 100 % 10 = d / 10 / 10 from by omega, z]
        simp [Lib.repeatL]
      · rw [Lib.decDigits, dif_neg (by omega), dch_ofNat _ (by omega), Lib.decDigits, dif_pos (by omega), dch_ofNat _ (by omega), four, show d / 1000 % 10 = d / 10 / 10 / 10 from by omega, show d / 100 % 10 = d / 10 / 10 % 10 from by omega]
        simp [Lib.repeatL]
theorem four_step {V d : Nat} (hV : V ≠ 0) (h : d < 10000) : (digs (V * 10000 + d)).reverse.map dch = (digs V).reverse.map dch ++ four d := by
  rw [digs_pos (by omega), digs_pos (by omega), digs_pos (by omega), digs_pos (by omega),
    show (V * 10000 + d) / 10 / 10 / 10 / 10 = V from by omega, show (V * 10000 + d) % 10 = d % 10 from by omega, show (V * 10000 + d) / 10 % 10 = d / 10 % 10 from by omega,
    show (V * 10000 + d) / 10 / 10 % 10 = d / 100 % 10 from by omega, show (V * 10000 + d) / 10 / 10 / 10 % 10 = d / 1000 % 10 from by omega]
  simp [four]

theorem decFrom_digs (l : List UInt8) : ∀ acc : Nat, (∀ b ∈ l, digB b = true) → ∃ n : Nat, Lib.decFrom acc l = some n ∧ (n : Int) = acc * p10 l.length + val (digsOf l) := by
  induction l with
  | nil => intro acc _; exact ⟨acc, rfl, by simp [p10, digsOf, val]⟩
  | cons b l ih =>
    intro acc h
    have hb := h b (by simp)
    have hd : Lib.digitVal b = some (b.toNat - 48) := by
      simp [digB] at hb
      rw [Lib.digitVal, if_pos (by omega)]
    obtain ⟨n, h1, h2⟩ := ih (acc * 10 + (b.toNat - 48)) (fun x hx => h x (by simp [hx]))
    refine ⟨n, by simp only [Lib.decFrom, hd]; exact h1, ?_⟩
    rw [h2]
    have e : digsOf (b :: l) = digsOf l ++ [dv b] := by simp [digsOf]
    rw [e, val_append]
    have hl : (digsOf l).length = l.length := by simp [digsOf]
    rw [hl]
    have hv : ((b.toNat - 48 : Nat) : Int) = dv b := by
      simp [digB] at hb; unfold dv; omega
    simp only [List.length_cons, p10, val]
    have e3 : ((acc * 10 + (b.toNat - 48) : Nat) : Int) = (acc : Int) * 10 + dv b := by rw [Int.natCast_add, Int.natCast_mul, hv]; rfl
    rw [e3, Int.add_mul, Int.mul_assoc, Int.mul_add, Int.mul_comm (dv b), show (10 : Int) * 0 = 0 from rfl, Int.mul_zero]
    omega

theorem atoi_digs {l : List UInt8} (h : ∀ b ∈ l, digB b = true) (hne : l ≠ []) : Lib.atoi l = some (val (digsOf l)) := by
  cases l with
  | nil => exact absurd rfl hne
  | cons b l =>
    have hb := h b (by simp)
    simp [digB] at hb
    have h45 : ¬ (b == 45) = true := by
      intro e
      have e2 : b = 45 := by simpa using e
      subst e2
      exact absurd hb.1 (by decide)
    have h43 : ¬ (b == 43) = true := by
      intro e
      have e2 : b = 43 := by simpa using e
      subst e2
      exact absurd hb.1 (by decide)
    obtain ⟨n, h1, h2⟩ := decFrom_digs (b :: l) 0 h
    rw [Lib.atoi, if_neg h45, if_neg h43, Lib.decNat, if_neg (by simp), h1]
    simp at h2
    simp [h2]

theorem digsOf_append (a b : List UInt8) : digsOf (a ++ b) = digsOf b ++ digsOf a := by simp [digsOf]
theorem digsOf_length (a : List UInt8) : (digsOf a).length = a.length := by simp [digsOf]

/-- one more limb of a text -/
theorem limb_step {t : List UInt8} {xs : List Int} {e e' : Nat} {d : Int} (ht : ∀ b ∈ t, digB b = true) (he : e ≤ t.length) (he' : e' = e - 4) (h0 : 0 < e)
    (hx : LDig xs) (hl : e + 4 * xs.length = t.length) (hv : Lval xs = val (digsOf (t.drop e))) (hd : d = val (digsOf ((t.drop e').take (e - e')))) :
    LDig (xs ++ [d]) ∧ Lval (xs ++ [d]) = val (digsOf (t.drop e')) := by
  have hch : Dig (digsOf ((t.drop e').take (e - e'))) := dig_digsOf (fun b hb => ht b (List.mem_of_mem_drop (List.mem_of_mem_take hb)))
  have h1 := val_nonneg hch
  have h2 := val_lt hch
  have hlen : (digsOf ((t.drop e').take (e - e'))).length ≤ 4 := by
    rw [digsOf_length, List.length_take]; omega
  have h3 := p10_mono hlen
  have h4 : p10 4 = 10000 := rfl
  rw [← hd] at h1 h2
  refine ⟨hx.append (LDig.nil.cons (by omega)), ?_⟩
  have e1 : t.drop e' = (t.drop e').take (e - e') ++ t.drop e := by
    have := List.take_append_drop (e - e') (t.drop e')
    rw [List.drop_drop, show e' + (e - e') = e from by omega] at this
    exact this.symm
  rw [Lval_snoc, e1, digsOf_append, val_append, ← hv, ← hd, digsOf_length, List.length_drop, Lp10_four, show t.length - e = 4 * xs.length from by omega]

end Go.Proofs.ArM

/- One step of each loop of the program's arithmetic: plain mathematics. -/
namespace Go.Proofs.ArM

theorem Lplus_step {xs ys zs : List Int} {k : Nat} {c0 s : Int} (hx : LDig xs) (hy : LDig ys) (hz : LDig zs) (hl : zs.length = k) (h0 : 0 ≤ c0) (h1 : c0 ≤ 1)
    (hs : s = xs.getD k 0 + ys.getD k 0 + c0) (hv : Lval zs + Lp10 k * c0 = Lval (xs.take k) + Lval (ys.take k)) :
    LDig (zs ++ [s % 10000]) ∧ 0 ≤ s / 10000 ∧ s / 10000 ≤ 1 ∧ Lval (zs ++ [s % 10000]) + Lp10 (k + 1) * (s / 10000) = Lval (xs.take (k + 1)) + Lval (ys.take (k + 1)) := by
  have a := hx.getD k
  have b := hy.getD k
  refine ⟨hz.append (LDig.nil.cons (by omega)), by omega, by omega, ?_⟩
  rw [Lval_snoc, hl, Lval_take_succ, Lval_take_succ]
  have e : s = 10000 * (s / 10000) + s % 10000 := by omega
  have : Lp10 k * s = Lp10 (k + 1) * (s / 10000) + Lp10 k * (s % 10000) := by
    have e2 : Lp10 k * s = Lp10 k * (10000 * (s / 10000) + s % 10000) := by rw [← e]
    rw [e2, Int.mul_add, ← Int.mul_assoc]; simp only [Lp10]; rw [Int.mul_comm (Lp10 k) 10000]
  rw [hs] at this e ⊢
  rw [Int.mul_add, Int.mul_add] at this
  omega

/-- the carry goes behind the last limb -/
theorem Lplus_end {zs : List Int} {n : Nat} {c0 : Int} (hz : LDig zs) (hl : zs.length = n) (h0 : 0 ≤ c0) (h1 : c0 ≤ 9999) {v : Int} (hv : Lval zs + Lp10 n * c0 = v) :
    LDig (zs ++ [c0]) ∧ Lval (zs ++ [c0]) = v :=
  ⟨hz.append (LDig.nil.cons ⟨h0, h1⟩), by rw [Lval_snoc, hl, hv]⟩

theorem Lless_step {xs ys zs : List Int} {k : Nat} {b0 d b1 e : Int} (hx : LDig xs) (hy : LDig ys) (hz : LDig zs) (hl : zs.length = k) (h0 : 0 ≤ b0) (h1 : b0 ≤ 1)
    (hd : d = xs.getD k 0 - ys.getD k 0 - b0) (hb : (d < 0 ∧ b1 = 1 ∧ e = d + 10000) ∨ (0 ≤ d ∧ b1 = 0 ∧ e = d)) (hv : Lval zs - Lp10 k * b0 = Lval (xs.take k) - Lval (ys.take k)) :
    LDig (zs ++ [e]) ∧ 0 ≤ b1 ∧ b1 ≤ 1 ∧ Lval (zs ++ [e]) - Lp10 (k + 1) * b1 = Lval (xs.take (k + 1)) - Lval (ys.take (k + 1)) := by
  have a := hx.getD k
  have b := hy.getD k
  refine ⟨hz.append (LDig.nil.cons (by omega)), by omega, by omega, ?_⟩
  rw [Lval_snoc, hl, Lval_take_succ, Lval_take_succ]
  have e1 : Lp10 k * e = Lp10 k * (xs.getD k 0 - ys.getD k 0 - b0 + 10000 * b1) := by congr 1; omega
  rw [e1, Lp10, Int.mul_add, Int.mul_sub, Int.mul_sub, ← Int.mul_assoc, Int.mul_comm (Lp10 k) 10000]
  omega

theorem Lless_end {xs ys zs : List Int} {b0 : Int} (hz : LDig zs) (hl : zs.length = xs.length) (h0 : 0 ≤ b0) (hle : Lval ys ≤ Lval xs) (hyl : ys.length ≤ xs.length)
    (hv : Lval zs - Lp10 xs.length * b0 = Lval (xs.take xs.length) - Lval (ys.take xs.length)) : Lval zs = Lval xs - Lval ys := by
  rw [Ltake_of_ge (Nat.le_refl _), Ltake_of_ge hyl] at hv
  have h1 := Lval_lt hz
  rw [hl] at h1
  have : ¬ 1 ≤ b0 := by
    intro h
    have : Lp10 xs.length * 1 ≤ Lp10 xs.length * b0 := Int.mul_le_mul_of_nonneg_left h (Int.le_of_lt (Lp10_pos _))
    omega
  have e : b0 = 0 := by omega
  rw [e] at hv
  omega

theorem Lsmall_step {xs zs : List Int} {k : Nat} {c0 f ad s : Int} (hx : LDig xs) (hz : LDig zs) (hl : zs.length = k) (h0 : 0 ≤ c0) (h1 : c0 ≤ 9999) (hf0 : 0 ≤ f) (hf1 : f ≤ 9999)
    (hs : s = xs.getD k 0 * f + c0) (hv : Lval zs + Lp10 k * c0 = Lval (xs.take k) * f + ad) :
    LDig (zs ++ [s % 10000]) ∧ 0 ≤ s ∧ s ≤ 99999999 ∧ 0 ≤ s / 10000 ∧ s / 10000 ≤ 9999 ∧ Lval (zs ++ [s % 10000]) + Lp10 (k + 1) * (s / 10000) = Lval (xs.take (k + 1)) * f + ad := by
  have a := hx.getD k
  have p0 : 0 ≤ xs.getD k 0 * f := Int.mul_nonneg a.1 hf0
  have p1 : xs.getD k 0 * f ≤ 9999 * f := Int.mul_le_mul_of_nonneg_right a.2 hf0
  refine ⟨hz.append (LDig.nil.cons (by omega)), by omega, by omega, by omega, by omega, ?_⟩
  rw [Lval_snoc, hl, Lval_take_succ]
  have e : s = 10000 * (s / 10000) + s % 10000 := by omega
  have h2 : Lp10 k * s = Lp10 (k + 1) * (s / 10000) + Lp10 k * (s % 10000) := by
    have e2 : Lp10 k * s = Lp10 k * (10000 * (s / 10000) + s % 10000) := by rw [← e]
    rw [e2, Int.mul_add, ← Int.mul_assoc]; simp only [Lp10]; rw [Int.mul_comm (Lp10 k) 10000]
  have h3 : Lp10 k * s = Lp10 k * (xs.getD k 0 * f) + Lp10 k * c0 := by rw [hs, Int.mul_add]
  rw [Int.add_mul, Int.mul_assoc]
  omega

theorem Lring3 (P a b c : Int) : P * ((a * 10000 + b) * 10000 + c) = P * c + 10000 * P * b + 10000 * (10000 * P) * a := by grind
theorem Lring2 (P a b : Int) : P * (a * 10000 + b + 1) = P * b + P + 10000 * P * a := by grind

/-- the estimate of a limb is at most the quotient -/
theorem Lestimate_le {n : Nat} {xs ys : List Int} (hx : LDig xs) (hy : LDig ys) (hn : ys.length = n) (h0 : 0 < n) (hxl : xs.length ≤ n + 1) {x2 y2 est : Int}
    (hx2 : 2 ≤ n → x2 = xs.getD (n - 2) 0) (hx1 : n = 1 → x2 = 0) (hy2 : 2 ≤ n → y2 = ys.getD (n - 2) 0) (hy1 : n = 1 → y2 = 0)
    (he : est = ((xs.getD n 0 * 10000 + xs.getD (n - 1) 0) * 10000 + x2) / (ys.getD (n - 1) 0 * 10000 + y2 + 1)) : 0 ≤ est ∧ est * Lval ys ≤ Lval xs := by
  have a0 := hx.getD n; have a1 := hx.getD (n - 1); have b1 := hy.getD (n - 1)
  have b2 : 0 ≤ y2 ∧ y2 ≤ 9999 := by
    rcases Nat.lt_or_ge n 2 with h | h
    · rw [hy1 (by omega)]; omega
    · rw [hy2 h]; exact hy.getD _
  have a2 : 0 ≤ x2 ∧ x2 ≤ 9999 := by
    rcases Nat.lt_or_ge n 2 with h | h
    · rw [hx1 (by omega)]; omega
    · rw [hx2 h]; exact hx.getD _
  generalize hD : ys.getD (n - 1) 0 * 10000 + y2 + 1 = D at he
  generalize hH : (xs.getD n 0 * 10000 + xs.getD (n - 1) 0) * 10000 + x2 = H at he
  have hDp : 0 < D := by omega
  have hHp : 0 ≤ H := by omega
  have e0 : 0 ≤ est := by rw [he]; exact Int.ediv_nonneg hHp (Int.le_of_lt hDp)
  have e1 : est * D ≤ H := by rw [he]; exact Int.ediv_mul_le _ (by omega)
  refine ⟨e0, ?_⟩
  have xv : Lval xs = Lval (xs.take (n + 1)) := by rw [Ltake_of_ge hxl]
  have yv : Lval ys = Lval (ys.take n) := by rw [Ltake_of_ge (by omega)]
  rcases Nat.lt_or_ge n 2 with h | h
  · obtain rfl : n = 1 := by omega
    rw [hx1 rfl] at hH
    rw [hy1 rfl] at hD
    rw [Lval_take_succ, Lval_take_succ] at xv
    rw [Lval_take_succ] at yv
    simp only [List.take_zero, Lval, Lp10] at xv yv
    simp only [Nat.sub_self] at hH hD
    have e2 : est * (D - 1) ≤ est * D := Int.mul_le_mul_of_nonneg_left (by omega) e0
    have e3 : est * (D - 1) = est * Lval ys * 10000 := by rw [Int.mul_assoc]; congr 1; omega
    omega
  · obtain ⟨m, rfl⟩ : ∃ m, n = m + 2 := ⟨n - 2, by omega⟩
    have hx2' := hx2 h
    have hy2' := hy2 h
    simp only [show m + 2 - 1 = m + 1 from by omega, show m + 2 - 2 = m from by omega] at *
    rw [Lval_take_succ, Lval_take_succ, Lval_take_succ] at xv
    rw [Lval_take_succ, Lval_take_succ] at yv
    have p := Lp10_pos m
    have vx := Lval_nonneg (hx.take m)
    have vy := Lval_lt (hy.take m)
    rw [List.length_take, Nat.min_eq_left (by omega)] at vy
    have q1 : Lval xs = Lval (xs.take m) + Lp10 m * H := by
      have := Lring3 (Lp10 m) (xs.getD (m + 2) 0) (xs.getD (m + 1) 0) (xs.getD m 0)
      rw [xv, ← hH, hx2', this]
      simp only [Lp10]
      omega
    have q2 : Lval ys ≤ Lp10 m * D := by
      have := Lring2 (Lp10 m) (ys.getD (m + 1) 0) (ys.getD m 0)
      rw [yv, ← hD, hy2', this, Lp10]
      omega
    have q3 : est * Lval ys ≤ est * (Lp10 m * D) := Int.mul_le_mul_of_nonneg_left q2 e0
    have q4 : est * (Lp10 m * D) = Lp10 m * (est * D) := by rw [Int.mul_left_comm]
    have q5 : Lp10 m * (est * D) ≤ Lp10 m * H := Int.mul_le_mul_of_nonneg_left e1 (Int.le_of_lt p)
    omega

end Go.Proofs.ArM

/- Long division: plain mathematics. -/
namespace Go.Proofs.ArM

theorem Ldiv_step {xs qs : List Int} {i : Nat} {B R R2 c : Int} (hj : i < xs.length) (hq : i < qs.length) (hz : qs.getD i 0 = 0)
    (hv : Lval qs * B + Lp10 (i + 1) * R = Lp10 (i + 1) * Lval (xs.drop (i + 1))) (hc : c * B + R2 = xs.getD i 0 + 10000 * R) :
    Lval (qs.set i c) * B + Lp10 i * R2 = Lp10 i * Lval (xs.drop i) := by
  rw [Lval_set _ _ _ hq, hz, Lval_drop xs i hj, Int.sub_zero, Int.add_mul, Int.mul_assoc]
  have e : Lp10 i * (c * B) + Lp10 i * R2 = Lp10 i * xs.getD i 0 + Lp10 (i + 1) * R := by
    rw [← Int.mul_add, hc, Int.mul_add, Lp10, ← Int.mul_assoc, Int.mul_comm (Lp10 i) 10000]
  have e2 : Lp10 i * (xs.getD i 0 + 10000 * Lval (xs.drop (i + 1))) = Lp10 i * xs.getD i 0 + Lp10 (i + 1) * Lval (xs.drop (i + 1)) := by
    rw [Int.mul_add, Lp10, ← Int.mul_assoc, Int.mul_comm (Lp10 i) 10000]
  omega

/-- a limb of a quotient is below the base -/
theorem Ldiv_limb {B R d c R2 : Int} (h0 : 0 ≤ R) (h1 : R < B) (hd : d ≤ 9999) (hc : c * B + R2 = d + 10000 * R) (h2 : 0 ≤ R2) : c ≤ 9999 := by
  apply Classical.byContradiction
  intro hn
  have : 10000 * B ≤ c * B := Int.mul_le_mul_of_nonneg_right (by omega) (by omega)
  omega

theorem Lcanon_drop {l : List Int} (h : LCanon l) (n : Nat) : LCanon (l.drop n) := by
  refine ⟨h.1.drop n, ?_⟩
  rw [List.getLast?_drop]
  split
  · simp
  · exact h.2

theorem Lcanon_digs_of {l : List Int} (h : LCanon l) : l = Ldigs (Lval l).toNat := Leq_digs h

/-- the beginning of a division: fewer limbs than the divisor has -/
theorem Lstart_lt {l ys : List Int} (hl : LDig l) (hy : LCanon ys) (h : l.length < ys.length) : Lval l < Lval ys := Llen_lt hl hy h

theorem Ldigs_ne {n : Nat} (h : 0 < n) : 0 < (Ldigs n).length := by
  rw [Ldigs_pos (by omega)]; simp

/-- one limb more ahead of a number -/
theorem Lcons_val (d : Int) (R : Nat) : Lval (d :: Ldigs R) = d + 10000 * (R : Int) := by rw [Lval, Lval_digs]

theorem Ldiv_end {A B : Nat} {Q R : Int} (h : Q * B + R = A) (h0 : 0 ≤ R) (h1 : R < B) : Q = ((A / B : Nat) : Int) ∧ R = ((A % B : Nat) : Int) := by
  have := Ldiv_total h h0 h1
  rw [Int.natCast_ediv, Int.natCast_emod]
  exact this

end Go.Proofs.ArM
