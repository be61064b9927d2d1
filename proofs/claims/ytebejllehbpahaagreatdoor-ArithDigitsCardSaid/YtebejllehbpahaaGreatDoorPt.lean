/- Roots. -/
import Derived.Test.YtebejllehbpahaaGreatDoorPc
import Derived.Test.YtebejllehbpahaaGreatDoorPf
import Derived.Test.YtebejllehbpahaaGreatDoorPg
/- Powers of ten, and the search for a root. -/
namespace Go.Proofs.YtebejllehbpahaaGreatDoor
open Go.RowKit Go.Proofs.ArM

theorem Lten (n : Nat) : List.replicate (n / 4) 0 ++ [((10 ^ (n % 4) : Nat) : Int)] = Ldigs (10 ^ n) := by
  have hp : 10 ^ (n % 4) ≤ 10 ^ 3 := Nat.pow_le_pow_right (by omega) (show n % 4 ≤ 3 by omega)
  have hp0 : 0 < 10 ^ (n % 4) := Nat.pow_pos (by omega)
  apply Lcanon_eq
  · refine ⟨(Ldig_replicate _).append (LDig.cons (by omega) LDig.nil), ?_⟩
    have h2 : ((10 ^ (n % 4) : Nat) : Int) ≠ 0 := by omega
    rw [List.getLast?_append]
    intro h
    exact h2 (by simpa using h)
  · rw [Lval_snoc, Lval_replicate, List.length_replicate, Lp10_four, p10_nat, Int.zero_add, ← Int.natCast_mul, ← Nat.pow_add, Nat.div_add_mod]

/-- a root -/
def OutRt (w : World) (A k B : Nat) (e : Ending) (w' : World) : Prop :=
  ∃ a c xs r, e = .returned (.slice a xs.length c) ∧ Sl w'.heap.size w' a c xs ∧ Hid (xs = Ldigs r) ∧ Hid (IsRoot A k r) ∧ Hid (r < B) ∧ Below w.heap.size w w'

end Go.Proofs.YtebejllehbpahaaGreatDoor

/- The program's root. -/
namespace Go.Proofs.YtebejllehbpahaaGreatDoor
open Go.RowKit Go.Proofs.ArM

theorem ten_lt {E k : Nat} (h : E < 4 * k) : ((10 ^ E : Nat) : Int) < Lp10 k := by
  rw [Lp10_four, p10_nat]
  exact Int.ofNat_lt.2 (Nat.pow_lt_pow_right (by decide) h)
theorem below_p10 {x E k : Nat} (h : x < 10 ^ E) (hk : E ≤ k) : (x : Int) < p10 k := by
  rw [p10_nat]
  exact Int.ofNat_lt.2 (Nat.lt_of_lt_of_le h (Nat.pow_le_pow_right (by decide) hk))
theorem below_ten {x E k : Nat} (h : x < 10 ^ E) (hk : E ≤ 4 * k) : (x : Int) < Lp10 k := by
  rw [Lp10_four]; exact below_p10 h hk

theorem root_len {m : Int} {s : List UInt8} (hv : validB s = true) (hm : m = numOf s) : m.natAbs < 10 ^ s.length := by
  have e := (valid_text hv).1
  rw [← hm] at e
  have hl : (digs m.natAbs).length ≤ s.length := by
    rw [e, numT, textOf]
    split
    · rename_i h; rw [h]; simp
    · rw [List.length_append, List.length_map, List.length_reverse]; omega
  have h1 := digs_lt m.natAbs
  have h2 := p10_mono hl
  have h4 : (m.natAbs : Int) < ((10 ^ s.length : Nat) : Int) := by rw [← p10_nat]; omega
  exact Int.ofNat_lt.1 h4

theorem root_size {m : Int} {s : List UInt8} (hv : validB s = true) (hm : m = numOf s) (h0 : ¬ m < 0) (h5 : (digs m.natAbs).length ≤ 500) : s.length ≤ 500 := by
  have e := (valid_text hv).1
  rw [← hm, numT, textOf, decide_eq_false h0] at e
  rw [e]
  split
  · simp
  · simpa using h5

theorem root_div {a k : Nat} (ha : a ≤ 500) (hk : 0 < k) : (a + k - 1) / k ≤ 500 := by
  rw [Nat.div_le_iff_le_mul_add_pred hk]
  have : 500 * 1 ≤ k * 500 := by rw [Nat.mul_comm k]; exact Nat.mul_le_mul_left _ hk
  omega

theorem root_top {A l k : Nat} (hA : A < 10 ^ l) (hk : 0 < k) : A < (10 ^ ((l + k - 1) / k)) ^ k := by
  rw [← Nat.pow_mul]
  refine Nat.lt_of_lt_of_le hA (Nat.pow_le_pow_right (by omega) ?_)
  have := Nat.div_add_mod (l + k - 1) k
  have h2 := Nat.mod_lt (l + k - 1) hk
  rw [Nat.mul_comm]
  omega

theorem rd1b_ok (s : ByteArray) (s1 : Bool) (hs : s.size ≤ 1000000) (hv : validB s.data.toList = true) (h1 : s1 = decide (numOf s.data.toList < 0)) (w : World) (v : Value) (ty ty' : TypeId) :
    Calls Tryz.prog 30 #[.slice (some ⟨w.heap.size + 1, 0, none⟩) 1 1] ((w.alloc (.cells #[v] ty)).alloc (.cells #[.string s] ty')) (OutR1 ((w.alloc (.cells #[v] ty)).alloc (.cells #[.string s] ty')) (numOf s.data.toList) s1) := by
  have h := rd1_ok s s1 hs hv h1 (w.alloc (.cells #[v] ty)) ty'
  rwa [show (w.alloc (.cells #[v] ty)).heap.size = w.heap.size + 1 from by simp] at h
theorem rd1b_no (s : ByteArray) (hs : s.size ≤ 1000000) (hv : validB s.data.toList = false) (w : World) (v : Value) (ty ty' : TypeId) :
    Calls Tryz.prog 30 #[.slice (some ⟨w.heap.size + 1, 0, none⟩) 1 1] ((w.alloc (.cells #[v] ty)).alloc (.cells #[.string s] ty')) (OutRN ((w.alloc (.cells #[v] ty)).alloc (.cells #[.string s] ty'))) := by
  have h := rd1_no s hs hv (w.alloc (.cells #[v] ty)) ty'
  rwa [show (w.alloc (.cells #[v] ty)).heap.size = w.heap.size + 1 from by simp] at h

end Go.Proofs.YtebejllehbpahaaGreatDoor
