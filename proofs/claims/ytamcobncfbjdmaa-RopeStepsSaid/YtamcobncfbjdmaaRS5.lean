/- forth of string, at a leaf. -/
import Derived.Test.YtamcobncfbjdmaaRS1
import Derived.Test.YtamcobncfbjdmaaRk
namespace Go.Proofs.Ytamcobncfbjdmaa
open Go.RowKit Go.Shelf
attribute [local go_sem] Oper.semAt_some

set_option maxRecDepth 100000 in
set_option maxHeartbeats 6400000 in
theorem forthLS_in (l n0 n1 nb N B : Nat) (W0 : World) (hn0 : W0.heap.size ≤ n0) (J Jx : List (ByteArray × Nat) → World → Prop) (hJ : AbidesFrom B J)
    (hY : ∀ m pre (i : Nat) x W, J pre W → pre.length < N → YieldAt Fence.wide m Try.prog l #[.int .i64 i, encS x] W (YieldOut n0 n1 nb J Jx pre (x, i) W)) (ls : List ByteArray) :
    ∀ (n : Nat) (a : Option Addr) (first : Nat) (pre : List (ByteArray × Nat)) (W : World), Nd encS W0 a (.leaf ls) → (Rp.leaf ls).Lv → KpC n0 n1 W0 W → n1 ≤ W.heap.size → J pre W → pre.length + ls.length ≤ N → first + ls.length ≤ 1000000000 →
      CallsIn Fence.wide n Try.prog 94 #[.pointer a, .int .i64 first, .func (.yield l) #[] #[]] W (WalkOut n0 n1 J Jx (ls.zipIdx first) pre W) := by
  intro n a first pre W hN hL hk hn hj hlen hfirst
  have hN1 := hN.kp hk hn0
  have C1 := Lib.hid (pleafpS_any a ls _ hN1)
  obtain ⟨b, e, rfl, c0, c2, he, hl⟩ := hN1.leaf2
  have he0 : e < n0 := by
    obtain ⟨b', e', hb', h1', h2', _, _, c2', _⟩ := hN
    obtain rfl : b = b' := by cases hb'; rfl
    have h3 := hk.cell (p := ⟨b, 2, none⟩) (.inl (Nat.lt_of_lt_of_le h1' hn0)) c2'
    rw [c2] at h3
    cases h3
    omega
  have h16 := hL.2
  have C2 := Lib.hid (plistS_any b e ls.length W c0 c2 h16)
  have HY := Lib.hid hY
  have HJ := Lib.hid hJ
  have hlen' : pre.length + ls.length ≤ N := hlen
  have hfirst' : first + ls.length ≤ 1000000000 := hfirst
  have hdd : ∀ k : Nat, (Fence.wide.depth.isSome = true → 1 ≤ k) := fun k h => by cases h
  clear hN hN1 hL hY hJ hlen hfirst c0 c2
  obtain ⟨k, hkn⟩ : ∃ k, k = ls.length := ⟨_, rfl⟩
  rw [← hkn] at hlen' hfirst' h16 C2
  have HKN := Lib.hid hkn
  have h16i : (k : Int) ≤ 16 := by omega
  clear hkn
  refine callsIn_of_wp Try.func94 rfl trivial ?_ rfl
  simp only [Try.ntmps94, List.size_toArray, List.length_cons, List.length_nil, Nat.reduceAdd, Nat.reduceSub, Array.replicate_succ, Array.replicate_zero, List.push_toArray, List.append_toArray, List.nil_append, List.cons_append]
  gi_wp2_with (first
    | (refine ⟨trivial, hdd _, ?_⟩; gi_at_call 91; refine (callsIn_wide.2 C1.out).mono ?_; rintro e' w9 ⟨rfl, hw9⟩; obtain rfl := hw9.symm)
    | (refine ⟨trivial, hdd _, ?_⟩; gi_at_call 92; refine (callsIn_wide.2 C2.out).mono ?_; rintro e' w1 ⟨rfl, hb1⟩)
    | fail)
  have hgb : W.grownBy w1 none := ⟨hb1.os, hb1.tape, hb1.output, hb1.size, fun k hk _ => hb1.block k hk⟩
  have HJ1 : Hid (J pre w1) := Lib.hid (HJ.out _ _ _ none hj hgb (fun r e => by cases e))
  have HK1 : KpC n0 n1 W w1 := KpC.of_below hb1
  clear hgb hb1 hj
  gi_loopw [39] (fun i wr => ∃ j : Nat, i = .int .i64 j ∧ j ≤ k ∧ Hid (J (pre ++ (ls.take j).zipIdx first) wr) ∧ KpC n0 n1 W wr) (fun i _ => k - (intOf i).toNat)
  case atStart => exact ⟨0, rfl, Nat.zero_le _, by simpa using HJ1, HK1⟩
  case round =>
    obtain ⟨j, rfl, hjk, hJs, hkp⟩ := hrel
    by_cases hjl : j < k
    · have hji : (j : Int) < (k : Int) := by omega
      have hlk := HKN.out
      obtain ⟨x, hx⟩ : ∃ x, ls[j]? = some x := ⟨_, List.getElem?_eq_getElem (by omega)⟩
      have cx : wr.cell? ⟨e, j, none⟩ = some (encS x) := by
        have := hl.out j x hx
        exact hkp.cell (p := ⟨e, j, none⟩) (.inl he0) this
      have hwr : IntKind.i64.wrap ((first : Int) + (j : Int)) = (first : Int) + (j : Int) := IntWalk.i64_in _ (by omega)
      have hpl : (pre ++ (ls.take j).zipIdx first).length < N := by rw [List.length_append, List.length_zipIdx, List.length_take]; omega
      have Y := HY.out (n - 1) (pre ++ (ls.take j).zipIdx first) (first + j) x wr hJs.out hpl
      have HT : Hid ((ls.take (j + 1)).zipIdx first = (ls.take j).zipIdx first ++ [(x, first + j)]) := Lib.hid (by
        rw [List.take_add_one, hx, List.zipIdx_append, List.length_take, Nat.min_eq_left (by omega)]; rfl)
      have HPX : Hid ((ls.take (j + 1)).zipIdx first <+: ls.zipIdx first) := Lib.hid (by
        have e1 : ls.zipIdx first = (ls.take (j + 1)).zipIdx first ++ (ls.drop (j + 1)).zipIdx (first + (ls.take (j + 1)).length) := by
          rw [← List.zipIdx_append, List.take_append_drop]
        exact ⟨_, e1.symm⟩)
      obtain ⟨fn, tmps, assign, body, hy, hR⟩ := (show YieldAt Fence.wide (n - 1) Try.prog l #[.int .i64 ((first : Int) + (j : Int)), encS x] wr _ from Y)
      clear hx hpl hlk
      gi_wp2
      refine ⟨hdd _, ?_⟩
      refine hR.mono ?_
      rintro e' W2 (⟨rfl, hJ2, hk2, _⟩ | ⟨rfl, hJx, hk2, _⟩)
      · have HJ2 := Lib.hid hJ2
        clear hJ2
        gi_wp2
        go_roundw
        case rel => exact ⟨j + 1, by go_num, by omega, Lib.hid (by rw [HT.out, ← List.append_assoc]; exact HJ2.out), hkp.trans hk2⟩
        case measure => simp [intOf]; omega
      · have HJ2 := Lib.hid hJx
        clear hJx
        gi_wp2
        go_ret
        exact .inr ⟨rfl, hkp.zero.trans hk2, Lib.hid ⟨(ls.take (j + 1)).zipIdx first, HPX.out, by rw [HT.out, ← List.append_assoc]; exact HJ2.out⟩⟩
    · obtain rfl : j = k := by omega
      have HT2 := List.take_of_length_le (l := ls) (i := j) (by rw [HKN.out]; exact Nat.le_refl _)
      have HF := Lib.hid (show J (pre ++ ls.zipIdx first) wr from by have := hJs.out; rwa [HT2] at this)
      clear HT2
      gi_wp2
      go_ret
      exact .inl ⟨rfl, hkp, HF⟩
end Go.Proofs.Ytamcobncfbjdmaa
