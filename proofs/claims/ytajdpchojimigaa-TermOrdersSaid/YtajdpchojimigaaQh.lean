/- Characters of a text: the program. -/
import Derived.Test.YtajdpchojimigaaBa
import Derived.Test.YtajdpchojimigaaTl
namespace Go.Proofs.Ytajdpchojimigaa
open Go.RowKit TmM

def foC : List UInt8 → Fo
  | [] => .nil
  | b :: r => .cons 1 ⟨#[b]⟩ .nil (foC r)
theorem foC_snoc (b : UInt8) : ∀ l, foC (l ++ [b]) = (foC l).app (.cons 1 ⟨#[b]⟩ .nil .nil)
  | [] => rfl
  | a :: l => by simp only [List.cons_append, foC, foC_snoc b l, Fo.app]
theorem foC_len : ∀ l, (foC l).len = l.length
  | [] => rfl
  | _ :: l => by simp only [foC, Fo.len_cons, foC_len l, List.length_cons]
theorem ext_one (s : ByteArray) (k : Nat) (h : k < s.size) : s.extract k (k + 1) = ⟨#[s[k]]⟩ := by
  apply ByteArray.ext
  rw [ByteArray.data_extract]
  apply Array.ext
  · have h' : k < s.data.size := h
    simp
    try omega
  · intro i h1 h2
    simp at h2
    subst h2
    simp
    rfl

theorem run_slice_str (s : ByteArray) (k e : Nat) (h1 : k ≤ e) (h2 : e ≤ s.size) (w : World) : (Instr.slice 9 (.string s) (some (.int .i64 (k : Int))) (some (.int .i64 (e : Int))) none).run Try.prog w = .ok (.string (s.extract k e)) w := by
  simp [Instr.slice, Instr.sliceBounds, Instr.sliceBound, asIntOf, go_sem, h1, h2]

/-- the first k terms are characters of the text; room for the others follows. -/
def Filled (base gb : Nat) (w : World) (n : Nat) (l : List UInt8) (k : Nat) : Prop :=
  ∃ ys zs, w.ownsRow base 35 3 (.slice (some ⟨gb, 0, none⟩) n n) n (ys ++ zs) ∧ RepsS (fun _ => False) w ys (foC (l.take k)) ∧ zs.length = (n - k) * 3
theorem Filled.cells {base gb n k : Nat} {w : World} {l : List UInt8} (h : Filled base gb w n l k) (hk : k < n) (hl : l.length = n) : (∀ j, w.frozen? ⟨gb, j, none⟩ = false) ∧ ∃ u0 u1 u2, w.cell? ⟨gb, k * 3, none⟩ = some u0 ∧ w.cell? ⟨gb, k * 3 + 1, none⟩ = some u1 ∧ w.cell? ⟨gb, k * 3 + 2, none⟩ = some u2 := by
  obtain ⟨ys, zs, ho, hr, hz⟩ := h
  have hy := hr.length
  rw [foC_len, List.length_take, Nat.min_eq_left (by omega)] at hy
  have hc := ho.cellAt
  refine ⟨ho.frozenAt, zs[0]'(by omega), zs[1]'(by omega), zs[2]'(by omega), ?_, ?_, ?_⟩
  · rw [hc _ (by omega), List.getElem?_append_right (by omega), show k * 3 - ys.length = 0 by omega]; exact List.getElem?_eq_getElem _
  · rw [hc _ (by omega), List.getElem?_append_right (by omega), show k * 3 + 1 - ys.length = 1 by omega]; exact List.getElem?_eq_getElem _
  · rw [hc _ (by omega), List.getElem?_append_right (by omega), show k * 3 + 2 - ys.length = 2 by omega]; exact List.getElem?_eq_getElem _
theorem Filled.next {base gb n k : Nat} {w : World} {l : List UInt8} (h : Filled base gb w n l k) (hk : k < n) (hl : l.length = n) (t : ByteArray) (ht : t = ⟨#[l[k]'(by omega)]⟩) :
    Filled base gb (((w.setCell ⟨gb, k * 3, none⟩ (.int .i64 1)).setCell ⟨gb, k * 3 + 1, none⟩ (.string t)).setCell ⟨gb, k * 3 + 2, none⟩ (.slice none 0 0)) n l (k + 1) := by
  obtain ⟨ys, zs, ho, hr, hz⟩ := h
  have hy := hr.length
  rw [foC_len, List.length_take, Nat.min_eq_left (by omega)] at hy
  match zs, hz with
  | [], hz => simp at hz; omega
  | [_], hz => simp at hz; omega
  | [_, _], hz => simp at hz; omega
  | z0 :: z1 :: z2 :: zs', hz =>
    obtain ⟨s1, _⟩ := ho.stored (k * 3) (.int .i64 1)
    obtain ⟨s2, _⟩ := s1.stored (k * 3 + 1) (.string t)
    obtain ⟨s3, _⟩ := s2.stored (k * 3 + 2) (.slice none 0 0)
    have hset : (((ys ++ z0 :: z1 :: z2 :: zs').set (k * 3) (.int .i64 1)).set (k * 3 + 1) (.string t)).set (k * 3 + 2) (.slice none 0 0) = (ys ++ [.int .i64 1, .string t, .slice none 0 0]) ++ zs' := by
      rw [List.set_append_right _ _ (by omega), List.set_append_right _ _ (by omega), List.set_append_right _ _ (by omega), show k * 3 - ys.length = 0 by omega, show k * 3 + 1 - ys.length = 1 by omega, show k * 3 + 2 - ys.length = 2 by omega]
      simp
    rw [hset] at s3
    refine ⟨_, zs', s3, ?_, by simp at hz; omega⟩
    have h2 : l.take (k + 1) = l.take k ++ [l[k]'(by omega)] := by rw [List.take_add_one, List.getElem?_eq_getElem (by omega)]; rfl
    rw [h2, foC_snoc, ← ht]
    exact RepsS.app (RepsS.one SlS.nil) (hr.mono (fun _ h => h) (fun _ h => h.elim))
theorem Filled.done {base gb n : Nat} {w : World} {l : List UInt8} (h : Filled base gb w n l n) (hl : l.length = n) : SlS (fun b => base ≤ b ∧ b < w.heap.size) w (some ⟨gb, 0, none⟩) n (foC l) := by
  obtain ⟨ys, zs, ho, hr, hz⟩ := h
  obtain rfl : zs = [] := List.eq_nil_of_length_eq_zero (by omega)
  rw [List.append_nil] at ho
  rw [← hl, List.take_length] at hr
  have hy := hr.length
  have hc := ho.cellAt
  have hm : n ≤ maxLen := by
    rcases ho.2 with ⟨h0, _⟩ | ⟨g, cap, cur, h0, _, _, _, hcm, _⟩
    · cases h0
    · cases h0; exact hcm
  have hf := foC_len l
  refine ⟨by omega, hm, by simp, .inr ⟨gb, 0, ys, rfl, ho.lt gb rfl, fun j hj => ?_, hr.mono (fun _ h => h.elim) (fun _ h => h.elim)⟩⟩
  rw [Nat.zero_add, hc j (by omega)]

set_option maxHeartbeats 3200000 in
set_option maxRecDepth 100000 in
theorem pchars_any (s : ByteArray) (w : World) (hs : s.size ≤ 1000000) : Calls Try.prog 42 #[.string s] w (OutF w (foC s.data.toList)) := by
  obtain ⟨i0, hi, hz0, hz1, hz2⟩ := info_parts Try.infoTerm
  have hll : s.data.toList.length = s.size := by simp
  have HLL := Lib.hid hll
  clear hll
  go_enter Try.func42, Try.ntmps42
  go_wp2_with (at_make; refine wpList_make_full _ rfl _ _ 22 rfl w.heap.size 35 i0 (.agg #[.int .i64 0, .string ⟨#[]⟩, .slice none 0 0]) 3 Try.underlying22 hi hz0 hz1 _ _ _ _ s.size rfl rfl rfl rfl (by rw [hz2]; omega) (by unfold maxLen; omega) (Nat.le_refl _) ?_; intro w1 hown1 hgrow1)
  have hF := (show Filled w.heap.size w.heap.size w1 s.size s.data.toList 0 from ⟨[], _, hown1, rfl, by have := hown1.1; simpa using this⟩)
  have hB1 : Below w.heap.size w w1 := (Below.refl _ _).grown hgrow1 (Nat.le_refl _) (fun j hj => by cases hj)
  have HF := Lib.hid hF
  have HB1 := Lib.hid hB1
  clear hi hz0 hz1 hz2 hown1 hgrow1 hF hB1 i0
  go_loopw [10] (fun i wr => ∃ k : Nat, i = .int .i64 k ∧ k ≤ s.size ∧ Hid (Filled w.heap.size w.heap.size wr s.size s.data.toList k) ∧ Hid (Below w.heap.size w wr)) (fun i _ => s.size - (intOf i).toNat)
  case atStart => exact ⟨0, rfl, Nat.zero_le _, HF, HB1⟩
  case round =>
    obtain ⟨k, rfl, hk, hF2, hB2⟩ := hrel
    by_cases hlt : k < s.size
    · have hki : (k : Int) < (s.size : Int) := by omega
      have hsl := run_slice_str s k (k + 1) (by omega) (by omega)
      rw [Int.natCast_add, Int.natCast_one] at hsl
      obtain ⟨hfz, u0, u1, u2, c0, c1, c2⟩ := hF2.out.cells hlt HLL.out
      have f0 := hfz (k * 3)
      have f1 := hfz (k * 3 + 1)
      have f2 := hfz (k * 3 + 2)
      have HE := Lib.hid (ext_one s k hlt)
      have HN := Lib.hid (fun t ht => hF2.out.next hlt HLL.out t ht)
      clear hfz
      go_wp2
      go_round
      case rel => exact ⟨k + 1, by go_num, by omega, Lib.hid (HN.out _ (by rw [HE.out]; rfl)), Lib.hid (((hB2.out.setCell (p := ⟨w.heap.size, k * 3, none⟩) (Nat.le_refl _) _).setCell (p := ⟨w.heap.size, k * 3 + 1, none⟩) (Nat.le_refl _) _).setCell (p := ⟨w.heap.size, k * 3 + 2, none⟩) (Nat.le_refl _) _)⟩
      case measure => simp [intOf]; omega
    · have hki : ¬ (k : Int) < (s.size : Int) := by omega
      obtain rfl : k = s.size := by omega
      have HD := Lib.hid (hF2.out.done HLL.out)
      go_wp2
      go_ret
      exact ⟨some ⟨w.heap.size, 0, none⟩, s.size, by rw [foC_len, HLL.out]; rfl, HD, hB2.out⟩
end Go.Proofs.Ytajdpchojimigaa
