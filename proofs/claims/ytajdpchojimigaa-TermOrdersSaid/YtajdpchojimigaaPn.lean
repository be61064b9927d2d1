/- Names of terms: the program. -/
import Derived.Test.YtajdpchojimigaaNm
namespace Go.Proofs.Ytajdpchojimigaa
open Go.RowKit TmM

def prefixF (k : Int) : ByteArray := if k = 5 then ⟨#[115, 46]⟩ else if k = 6 then ⟨#[116, 46]⟩ else if k = 7 then ⟨#[101, 46]⟩ else ⟨#[]⟩
def isVarB (k : Int) : Bool := decide (k = 5) || decide (k = 6) || decide (k = 7)
theorem nameF_prefix {k : Int} (t : ByteArray) (h : isVarB k = true) : nameF k t = prefixF k ++ t := by
  unfold nameF prefixF
  simp only [isVarB, Bool.or_eq_true, decide_eq_true_eq] at h
  rcases h with (rfl | rfl) | rfl <;> rfl
theorem nameF_none {k : Int} (t : ByteArray) (h : isVarB k = false) : nameF k t = ⟨#[]⟩ := by
  simp only [isVarB, Bool.or_eq_false_iff, decide_eq_false_iff_not] at h
  rw [nameF, if_neg h.1.1, if_neg h.1.2, if_neg h.2]
theorem prefixF_none {k : Int} (h : isVarB k = false) : prefixF k = ⟨#[]⟩ := by
  simp only [isVarB, Bool.or_eq_false_iff, decide_eq_false_iff_not] at h
  rw [prefixF, if_neg h.1.1, if_neg h.1.2, if_neg h.2]
theorem prefixF_size {k : Int} (h : isVarB k = true) : (prefixF k).size = 2 := by
  simp only [isVarB, Bool.or_eq_true, decide_eq_true_eq] at h
  rcases h with (rfl | rfl) | rfl <;> rfl

theorem pprefix_any (k : Int) (w : World) : Calls Try.prog 67 #[.int .i64 k] w fun e w' => e = .returned (.string (prefixF k)) ∧ w = w' := by
  rcases (show k = 5 ∨ k = 6 ∨ k = 7 ∨ (k ≠ 5 ∧ k ≠ 6 ∧ k ≠ 7) by omega) with rfl | rfl | rfl | ⟨h5, h6, h7⟩
  · go_enter Try.func67, Try.ntmps67
    go_wp2
    go_ret
    exact ⟨rfl, rfl⟩
  · go_enter Try.func67, Try.ntmps67
    go_wp2
    go_ret
    exact ⟨rfl, rfl⟩
  · go_enter Try.func67, Try.ntmps67
    go_wp2
    go_ret
    exact ⟨rfl, rfl⟩
  · have e5 : (k == 5) = false := by simpa using h5
    have e6 : (k == 6) = false := by simpa using h6
    have e7 : (k == 7) = false := by simpa using h7
    have HN := Lib.hid (show prefixF k = ⟨#[]⟩ from by rw [prefixF, if_neg h5, if_neg h6, if_neg h7])
    clear h5 h6 h7
    go_enter Try.func67, Try.ntmps67
    go_wp2
    go_ret
    exact ⟨by rw [HN.out]; rfl, rfl⟩

theorem pisvar_al (k : Int) (t : ByteArray) (a : Option Addr) (l c : Nat) (w : World) :
    Calls Try.prog 29 #[.agg #[.int .i64 k, .string t, .slice a l c]] w fun e w' => e = .returned (.bool (isVarB k)) ∧ w' = w.alloc (.cells #[.int .i64 k, .string t, .slice a l c] 35) := by
  have PF := Lib.hid (fun w => pprefix_any k w)
  obtain ⟨s, hs⟩ : ∃ s, s = prefixF k := ⟨_, rfl⟩
  rw [← hs] at PF
  obtain ⟨r, hr⟩ : ∃ r, r = isVarB k := ⟨_, rfl⟩
  rw [← hr]
  cases r
  · have hz := nil_of (s := s) (by rw [hs, prefixF_none hr.symm]; rfl)
    clear hs hr
    go_enter Try.func29, Try.ntmps29
    go_wp2_with fail
    refine (PF.out _).mono ?_
    rintro e w2 ⟨rfl, rfl⟩
    go_wp2
    go_ret
    exact ⟨rfl, rfl⟩
  · have h2 : 0 < s.size := by rw [hs, prefixF_size hr.symm]; decide
    have hz1 := empty_of h2
    have hz2 := not_nil_of h2
    clear hs hr h2
    go_enter Try.func29, Try.ntmps29
    go_wp2_with fail
    refine (PF.out _).mono ?_
    rintro e w2 ⟨rfl, rfl⟩
    go_wp2
    go_ret
    exact ⟨rfl, rfl⟩

set_option maxHeartbeats 1600000 in
theorem pname_al (k : Int) (t : ByteArray) (a : Option Addr) (l c : Nat) (w : World) (ht : t.size ≤ 1000000) :
    Calls Try.prog 31 #[.agg #[.int .i64 k, .string t, .slice a l c]] w fun e w' => e = .returned (.string (nameF k t)) ∧ Below w.heap.size w w' := by
  obtain ⟨W, hW⟩ : ∃ W, W = w.alloc (.cells #[.int .i64 k, .string t, .slice a l c] 35) := ⟨_, rfl⟩
  have hb : Below w.heap.size w W := by rw [hW]; exact (Below.refl _ _).alloc (Nat.le_refl _) _
  have hbox : Box W w.heap.size k t a l c := by rw [hW]; exact Box.new _ _ _ _ _ _
  have hbox2 : Box (W.alloc (.cells #[.int .i64 k, .string t, .slice a l c] 35)) w.heap.size k t a l c := hbox.later ((Below.refl _ _).alloc (Nat.le_refl _) _)
  have hb2 : Below w.heap.size w (W.alloc (.cells #[.int .i64 k, .string t, .slice a l c] 35)) := hb.alloc hb.size _
  obtain ⟨x3, x0, x1, x2⟩ := hbox
  have IV := Lib.hid (fun w => pisvar_al k t a l c w)
  obtain ⟨r, hr⟩ : ∃ r, r = isVarB k := ⟨_, rfl⟩
  rw [← hr] at IV
  have HR := Lib.hid hr
  obtain ⟨n, hn⟩ : ∃ n, n = nameF k t := ⟨_, rfl⟩
  rw [← hn]
  have HN := Lib.hid hn
  clear hn hr
  cases r
  · have HF := Lib.hid (show n = ⟨#[]⟩ from by rw [HN.out, nameF_none t HR.out.symm])
    go_enter Try.func31, Try.ntmps31
    go_wp2_with fail
    rw [← hW]
    clear hW
    refine (IV.out W).mono ?_
    rintro e w2 ⟨rfl, hw2⟩
    rw [← hw2] at hb2
    have HB := Lib.hid hb2
    clear hw2 hb2 hbox2
    go_wp2
    go_ret
    exact ⟨by rw [HF.out]; rfl, HB.out⟩
  · have HF := Lib.hid (show n = prefixF k ++ t from by rw [HN.out, nameF_prefix t HR.out.symm])
    have PF := Lib.hid (fun w => pprefix_any k w)
    have hps := prefixF_size HR.out.symm
    obtain ⟨s, hs⟩ : ∃ s, s = prefixF k := ⟨_, rfl⟩
    rw [← hs] at PF HF hps
    clear hs
    go_enter Try.func31, Try.ntmps31
    go_wp2_with fail
    rw [← hW]
    clear hW x0 x1 x2
    refine (IV.out W).mono ?_
    rintro e w2 ⟨rfl, hw2⟩
    rw [← hw2] at hb2 hbox2
    obtain ⟨y3, y0, y1, y2⟩ := hbox2
    have HB := Lib.hid hb2
    have HPS := Lib.hid hps
    have hs2 : s.size ≤ 2 := by omega
    clear hw2 hb2 hps
    have PQ := Lib.hid (fun w => (PF.out w).mono (fun _ w' ⟨a, b⟩ => (⟨a, b.symm⟩ : _ ∧ w' = w)))
    go_wp2_with fail
    go_quiet ((go_at_call 67; exact Calls.quiet_of_same (PQ.out _)))
    go_wp2
    go_ret
    exact ⟨by rw [HF.out]; rfl, below_drewN HB.out _⟩
end Go.Proofs.Ytajdpchojimigaa
