/- Bytes of texts: all of them, or one that is not. -/
import Derived.Test.YtajdpchojimigaaMem
namespace Go.Proofs.Ytajdpchojimigaa
open Go.RowKit TmM

theorem get_data {s : ByteArray} {j : Nat} (h : j < s.size) : s[j] = s.data.toList[j]'(by simpa using h) := rfl
theorem all_bad {s : ByteArray} {p : UInt8 → Bool} {k : Nat} (hk : k < s.size) (h : p s[k] = false) : s.data.toList.all p = false := by
  rw [List.all_eq_false]
  refine ⟨s[k], ?_, by simp [h]⟩
  rw [get_data hk]
  exact List.getElem_mem _
theorem all_good {s : ByteArray} {p : UInt8 → Bool} (h : ∀ j (hj : j < s.size), p s[j] = true) : s.data.toList.all p = true := by
  rw [List.all_eq_true]
  intro x hx
  obtain ⟨j, hj, rfl⟩ := List.getElem_of_mem hx
  exact h j (by simpa using hj)
theorem size_list (s : ByteArray) : s.data.toList.length = s.size := Array.length_toList
theorem nil_of {s : ByteArray} (h : s.size = 0) : s.toList = [] := by
  rw [ByteArray.toList_eq]
  exact List.eq_nil_of_length_eq_zero (by rw [size_list]; exact h)
theorem not_nil_of {s : ByteArray} (h : 0 < s.size) : ¬ s.toList = [] := by
  rw [ByteArray.toList_eq]
  intro e
  have h2 := congrArg List.length e
  rw [size_list, List.length_nil] at h2
  omega
theorem empty_of {s : ByteArray} (h : 0 < s.size) : s.toList.isEmpty = false := by
  rw [List.isEmpty_eq_false_iff]; exact not_nil_of h
theorem cons_of {s : ByteArray} (h : 0 < s.size) : ∃ r, s.data.toList = s[0] :: r := by
  obtain ⟨⟨l⟩⟩ := s
  cases l with
  | nil => exact absurd h (Nat.lt_irrefl 0)
  | cons a l => exact ⟨l, rfl⟩
theorem ext_data (s : ByteArray) : (s.extract 1 s.size).data.toList = s.data.toList.tail := by rw [Lib.extract_to_end]; simp

end Go.Proofs.Ytajdpchojimigaa
