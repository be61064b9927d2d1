/- slices.Backward of ints: the contract of its iterator. -/
import Derived.Test.YtamcobncfbjdmaaRI4
import Derived.Test.YtamcobncfbjdmaaRk
namespace Go.Proofs.Ytamcobncfbjdmaa
open Go.RowKit Go.Shelf
attribute [local go_sem] Oper.semAt_some

/-- an index as it is handed on: bounded, whatever it is. -/
def ix32 (i : Nat) : Nat := i % 32
theorem ix32_lt (i : Nat) : ix32 i < 32 := Nat.mod_lt _ (by omega)

/-- a list of ints with its indices, from the last one on. -/
def revI (ls : List Int) : List (Int × Nat) := ls.zipIdx.reverse
theorem revI_take (ls : List Int) (j : Nat) (x : Int) (hj : j < ls.length) (hx : ls[ls.length - 1 - j]? = some x) : (revI ls).take (j + 1) = (revI ls).take j ++ [(x, ls.length - 1 - j)] := by
  have hlen : (revI ls).length = ls.length := by simp [revI]
  rw [List.take_add_one]
  have : (revI ls)[j]? = some (x, ls.length - 1 - j) := by
    rw [revI, List.getElem?_reverse (by simpa using hj), List.getElem?_zipIdx]
    simp only [List.length_zipIdx, hx, Option.map_some, Nat.zero_add]
  rw [this]
  rfl

set_option maxRecDepth 100000 in
set_option maxHeartbeats 6400000 in
theorem backw_stops (n n0 n1 bx e c : Nat) (ls : List Int) (w0 : World) (hbx : bx < n0 ∨ n1 ≤ bx) (he : e < n0 ∨ n1 ≤ e) (hbs : bx < w0.heap.size) (hes : e < w0.heap.size)
    (hc : w0.cell? ⟨bx, 0, none⟩ = some (.slice (some ⟨e, 0, none⟩) ls.length c)) (hl : Hid (∀ j x, ls[j]? = some x → w0.cell? ⟨e, j, none⟩ = some (encI x))) (hm : ls.length ≤ 16) :
    SeqStopsK Fence.wide n Try.prog 95 #[.pointer (some ⟨bx, 0, none⟩)] (fun p : Int × Nat => #[.int .i64 ((ix32 p.2 : Nat) : Int), encI p.1]) (KpC n0 n1) (fun xs => xs = revI ls) (fun pre => pre <+: revI ls) ls.length w0 := by
  intro l J Jx W hb hJ hJx hY hj
  have c0 : W.cell? ⟨bx, 0, none⟩ = some (.slice (some ⟨e, 0, none⟩) ls.length c) := (hb.cell (p := ⟨bx, 0, none⟩) hbs).trans hc
  have HL : Hid (∀ j x, ls[j]? = some x → W.cell? ⟨e, j, none⟩ = some (encI x)) := Lib.hid fun j x hx => (hb.cell (p := ⟨e, j, none⟩) hes).trans (hl.out j x hx)
  have HY := Lib.hid hY
  have HJ0 := Lib.hid hj
  have HBX := Lib.hid hbx
  have HE := Lib.hid he
  have hdd : ∀ k : Nat, (Fence.wide.depth.isSome = true → 1 ≤ k) := fun k h => by cases h
  clear hc hl hY hj hb hJ hJx hbx he
  obtain ⟨k, hk⟩ : ∃ k, k = ls.length := ⟨_, rfl⟩
  rw [← hk] at c0 hm
  have HK := Lib.hid hk
  clear hk
  show CallsIn Fence.wide n Try.prog 95 #[.func (.yield l) #[] #[], .pointer (some ⟨bx, 0, none⟩)] W _
  refine callsIn_of_wp Try.func95 rfl trivial ?_ rfl
  simp only [Try.ntmps95, List.size_toArray, List.length_cons, List.length_nil, Nat.reduceAdd, Nat.reduceSub, Array.replicate_succ, Array.replicate_zero, List.push_toArray, List.append_toArray, List.nil_append, List.cons_append]
  gi_wp2
  gi_loopw [3] (fun i wr => ∃ j : Nat, i = .int .i64 ((k : Int) - 1 - j) ∧ j ≤ k ∧ Hid (J ((revI ls).take j) wr) ∧ KpC n0 n1 W wr) (fun i _ => (intOf i + 1).toNat)
  case atStart => exact ⟨0, by simp, Nat.zero_le _, by simpa using HJ0, KpC.refl _ _ _⟩
  case round =>
    obtain ⟨j, rfl, hjk, hJs, hkp⟩ := hrel
    by_cases hjl : j < k
    · have hi0 : (0 : Int) ≤ (k : Int) - 1 - j := by omega
      have hik : (k : Int) - 1 - j < (k : Int) := by omega
      have hkl := HK.out
      obtain ⟨x, hx⟩ : ∃ x, ls[ls.length - 1 - j]? = some x := ⟨_, List.getElem?_eq_getElem (by omega)⟩
      have cx : wr.cell? ⟨e, k - 1 - j, none⟩ = some (encI x) := hkp.cell (p := ⟨e, k - 1 - j, none⟩) HE.out (by rw [HK.out]; exact HL.out _ x hx)
      have cb := hkp.cell (p := ⟨bx, 0, none⟩) HBX.out c0
      have HT := Lib.hid (revI_take ls j x (by omega) hx)
      have hpl : ((revI ls).take j).length < ls.length := by rw [List.length_take]; omega
      have Y := HY.out ((revI ls).take j) (x, ls.length - 1 - j) wr hJs.out hpl
      obtain ⟨i, hi⟩ : ∃ i, i = k - 1 - j := ⟨_, rfl⟩
      have hii : (k : Int) - 1 - j = (i : Int) := by omega
      have hwi : IntKind.i64.wrap ((i : Int) - 1) = (i : Int) - 1 := IntWalk.i64_in _ (by omega)
      have HI : Hid ((i : Int) - 1 = (k : Int) - 1 - ((j + 1 : Nat) : Int)) := Lib.hid (by omega)
      have him : i < 16 := by omega
      rw [← HK.out, ← hi] at Y HT
      rw [← hi] at cx
      rw [hii] at hi0 hik ⊢
      have hmod : ix32 i = i := Nat.mod_eq_of_lt (by omega)
      replace Y := (show YieldAt Fence.wide (n - 1) Try.prog l #[.int .i64 ((ix32 i : Nat) : Int), encI x] wr _ from Y)
      rw [hmod] at Y
      clear hmod
      obtain ⟨fn, tmps, assign, body, hy, hR⟩ := (show YieldAt Fence.wide (n - 1) Try.prog l #[.int .i64 (i : Int), encI x] wr _ from Y)
      have hik2 : (i : Int) < (k : Int) := hik
      clear hx hpl hkl hi hii hwi
      gi_wp2
      refine ⟨hdd _, ?_⟩
      refine hR.mono ?_
      rintro e' W2 (⟨rfl, hJ2, hk2⟩ | ⟨rfl, hJx⟩)
      · have HJ2 := Lib.hid hJ2
        clear hJ2
        gi_wp2
        go_roundw
        case rel => exact ⟨j + 1, by rw [← HI.out], by omega, Lib.hid (by rw [HT.out]; exact HJ2.out), hkp.trans hk2⟩
        case measure => first | (simp [intOf]; done) | (simp [intOf]; omega)
      · have HJ2 := Lib.hid hJx
        clear hJx
        gi_wp2
        first | go_end0 | refine bodyPost_ret (v := .tuple #[]) (by simp [results, Try.f95, go_sem]) rfl ?_
        exact ⟨⟨_, rfl⟩, .inr ⟨(revI ls).take (j + 1), List.take_prefix _ _, by rw [HT.out]; exact HJ2.out⟩⟩
    · obtain rfl : j = k := by omega
      have hi0 : ¬ (0 : Int) ≤ (j : Int) - 1 - j := by omega
      have HF := Lib.hid (show J (revI ls) wr from by have := hJs.out; rwa [List.take_of_length_le (by rw [revI, List.length_reverse, List.length_zipIdx, HK.out]; exact Nat.le_refl _)] at this)
      gi_wp2
      first | go_end0 | refine bodyPost_ret (v := .tuple #[]) (by simp [results, Try.f95, go_sem]) rfl ?_
      exact ⟨⟨_, rfl⟩, .inl (by first | exact ⟨_, rfl, HF.out⟩ | exact HF.out)⟩
end Go.Proofs.Ytamcobncfbjdmaa
