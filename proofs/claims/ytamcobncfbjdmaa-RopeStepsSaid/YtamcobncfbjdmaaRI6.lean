/- forth of int. -/
import Derived.Test.YtamcobncfbjdmaaRI5
import Derived.Test.YtamcobncfbjdmaaRg
namespace Go.Proofs.Ytamcobncfbjdmaa
open Go.RowKit Go.Shelf
attribute [local go_sem] Oper.semAt_some

set_option maxRecDepth 100000 in
set_option maxHeartbeats 6400000 in
theorem forthI_in (l n0 n1 nb N B : Nat) (W0 : World) (hn0 : W0.heap.size ≤ n0) (J Jx : List (Int × Nat) → World → Prop) (hJ : AbidesFrom B J)
    (hY : ∀ m pre (i : Nat) x W, J pre W → pre.length < N → YieldAt Fence.wide m Try.prog l #[.int .i64 i, encI x] W (YieldOut n0 n1 nb J Jx pre (x, i) W)) (t : Rp Int) :
    ∀ (n : Nat) (a : Option Addr) (first : Nat) (pre : List (Int × Nat)) (W : World), Nd encI W0 a t → t.Lv → KpC n0 n1 W0 W → n1 ≤ W.heap.size → J pre W → pre.length + t.list.length ≤ N → first + t.list.length ≤ 1000000000 →
      CallsIn Fence.wide n Try.prog 56 #[.pointer a, .int .i64 first, .func (.yield l) #[] #[]] W (WalkOut n0 n1 J Jx (t.list.zipIdx first) pre W) := by
  induction t with
  | leaf ls =>
    intro n a first pre W hN hL hk hn hj hlen hfirst
    exact forthLI_in l n0 n1 nb N B W0 hn0 J Jx hJ hY ls n a first pre W hN hL hk hn hj hlen hfirst
  | fork p q ihp ihq =>
    intro n a first pre W hN hL hk hn hj hlen hfirst
    have hN1 := hN.kp hk hn0
    have C1 := Lib.hid (pforkpI_any a p q _ hN1)
    obtain ⟨b, a1, a2, rfl, c2, c3, c4, hp, hq⟩ := hN1.fork2
    obtain ⟨b', a1', a2', hb', _, _, _, _, c3', c4', hp', hq'⟩ := hN
    obtain rfl : b = b' := by cases hb'; rfl
    have h1b : b < n0 := by omega
    have e3 := hk.cell (p := ⟨b, 3, none⟩) (.inl h1b) c3'
    rw [c3] at e3
    obtain rfl : a1 = a1' := by cases e3; rfl
    have e4 := hk.cell (p := ⟨b, 4, none⟩) (.inl h1b) c4'
    rw [c4] at e4
    obtain rfl : a2 = a2' := by cases e4; rfl
    obtain ⟨b1, rfl, hb1, d0, _⟩ := hp'.head
    have h1c : b1 < n0 := by omega
    have d1 := hk.cell (p := ⟨b1, 0, none⟩) (.inl h1c) d0
    rw [Rp.list, List.length_append] at hlen hfirst
    obtain ⟨k, hkn⟩ : ∃ k, k = p.list.length := ⟨_, rfl⟩
    have HKN := Lib.hid hkn
    have HX : Hid ((Rp.fork p q).list.zipIdx first = p.list.zipIdx first ++ q.list.zipIdx (first + k)) := Lib.hid (by rw [Rp.list, List.zipIdx_append, hkn])
    have HJ := Lib.hid hJ
    have S1 : Hid (∀ n W', J pre W' → KpC n0 n1 W W' → CallsIn Fence.wide n Try.prog 56 #[.pointer (some ⟨b1, 0, none⟩), .int .i64 first, .func (.yield l) #[] #[]] W' (WalkOut n0 n1 J Jx (p.list.zipIdx first) pre W')) := Lib.hid fun n W' hj' hk' =>
      ihp n _ first pre W' hp' hL.1 (hk.trans hk') (Nat.le_trans hn hk'.1) hj' (by omega) (by omega)
    have S2 : Hid (∀ n W', J (pre ++ p.list.zipIdx first) W' → KpC n0 n1 W W' → CallsIn Fence.wide n Try.prog 56 #[.pointer a2, .int .i64 ((first : Int) + (k : Int)), .func (.yield l) #[] #[]] W' (WalkOut n0 n1 J Jx (q.list.zipIdx (first + k)) (pre ++ p.list.zipIdx first) W')) := Lib.hid fun n W' hj' hk' =>
      ihq n _ (first + k) (pre ++ p.list.zipIdx first) W' hq' hL.2 (hk.trans hk') (Nat.le_trans hn hk'.1) hj' (by rw [List.length_append, List.length_zipIdx]; omega) (by omega)
    have hwr : IntKind.i64.wrap ((first : Int) + (k : Int)) = (first : Int) + (k : Int) := IntWalk.i64_in _ (by omega)
    have hdd : ∀ k : Nat, (Fence.wide.depth.isSome = true → 1 ≤ k) := fun k h => by cases h
    have hjd : Hid (J pre W.drew) := Lib.hid (HJ.out _ _ _ none hj (by have hb := (Below.refl W.heap.size W).drew; exact ⟨hb.os, hb.tape, hb.output, hb.size, fun k hk _ => hb.block k hk⟩) (fun r e => by cases e))
    have hj0 := Lib.hid hj
    rw [← hkn] at d1
    clear ihp ihq hN1 hL hY hJ hj hlen hfirst c3' c4' e3 e4 hb' hp hq hp' hq' d0 hkn
    refine callsIn_of_wp Try.func56 rfl trivial ?_ rfl
    simp only [Try.ntmps56, List.size_toArray, List.length_cons, List.length_nil, Nat.reduceAdd, Nat.reduceSub, Array.replicate_succ, Array.replicate_zero, List.push_toArray, List.append_toArray, List.nil_append, List.cons_append]
    gi_wp2_with (first
      | (refine ⟨trivial, hdd _, ?_⟩; gi_at_call 79; refine (callsIn_wide.2 C1.out).mono ?_; rintro e' w9 ⟨rfl, hw9⟩; obtain rfl := hw9.symm)
      | fail)
    have hmx : Try.prog.follows .mixedOrders = true := by kernel_rfl
    rename_i KA hKA KB hKB
    clear hKA C1 hk hn hw9
    refine wpIn_region_any (by assumption) ?_
    try (change wpAnyIn _ _ _ _ _ _ _ _ _ (World.drew _))
    refine wpAnyIn_take (i := 0) (v := .pointer (some ⟨b, 0, none⟩)) rfl rfl (by kernel_rfl) (by kernel_rfl) (by kernel_rfl) (fun _ _ _ h => h) ⟨Or.inl ⟨by rfl, by intro w; go_simp⟩, fun _ => rfl⟩ ?_
    go_simp
    refine wpAnyIn_take (i := 1) (v := .pointer (some ⟨b, 0, none⟩)) rfl rfl (by kernel_rfl) (by kernel_rfl) (by kernel_rfl) (fun _ _ _ h => h) ⟨Or.inl ⟨by rfl, by intro w; go_simp⟩, fun _ => rfl⟩ ?_
    go_simp
    refine wpAnyIn_take (i := 2) (v := .pointer (some ⟨b, 3, none⟩)) rfl rfl (by kernel_rfl) (by kernel_rfl) (by kernel_rfl) (fun _ _ _ h => h) ⟨Or.inl ⟨by rfl, by intro w; go_simp⟩, fun _ => rfl⟩ ?_
    go_simp
    refine wpAnyIn_take (i := 4) (v := .int .i64 first) rfl rfl (by kernel_rfl) (by kernel_rfl) (by kernel_rfl) (fun _ _ _ h => h) ⟨Or.inl ⟨by rfl, by intro w; go_simp⟩, fun _ => rfl⟩ ?_
    go_simp
    refine wpAnyIn_take (i := 5) (v := .func (.yield l) #[] #[]) rfl rfl (by kernel_rfl) (by kernel_rfl) (by kernel_rfl) (fun _ _ _ h => h) ⟨Or.inl ⟨by rfl, by intro w; go_simp⟩, fun _ => rfl⟩ ?_
    go_simp
    refine wpAnyIn_here (i := 3) (v := .pointer (some ⟨b1, 0, none⟩)) [] [6, 7, 8, 9, 10, 11, 12, 13, 14, 15, 16, 17, 18, 19, 20, 21, 22, 23, 24] rfl rfl (by kernel_rfl) (by kernel_rfl) (by kernel_rfl) ⟨Or.inl ⟨by rfl, by go_simp⟩, by first | rfl | go_simp⟩ (fun p hp => by cases hp) ?_
    go_simp
    refine wpAnyIn_ready (rs := [6]) (by kernel_rfl) (by simp) ?_
    refine AllReadyIn.cons rfl (fun K hK => ?_) AllReadyIn.nil
    go_simp
    gi_wp2_with (first | (refine ⟨trivial, hdd _, ?_⟩; gi_at_call 56; refine (S1.out _ _ (by first | exact hjd.out | exact hj0.out) (by first | exact KpC.of_below ((Below.refl _ _).drew) | exact KpC.refl _ _ _)).mono ?_; intro e' w2 HW; obtain ⟨r, rfl, HR⟩ := HW.b; clear HW) | fail)
    rcases HR.out with ⟨rfl, hk22, hJ2⟩ | ⟨rfl, hk22, hX2⟩
    · have hk2 : KpC n0 n1 W w2 := (by first | exact (KpC.of_below ((Below.refl _ _).drew)).trans hk22 | exact hk22)
      clear hk22
      have f3 := hk2.cell (p := ⟨b, 3, none⟩) (.inl h1b) c3
      have f4 := hk2.cell (p := ⟨b, 4, none⟩) (.inl h1b) c4
      have f0 := hk2.cell (p := ⟨b1, 0, none⟩) (.inl h1c) d1
      first | (go_simp; refine hK _ _ ?_; clear hK K; go_simp) | (refine hK _ _ ?_; clear hK K; go_simp) | go_simp
      refine wpAnyIn_take (i := 7) (v := .bool true) rfl rfl (by kernel_rfl) (by kernel_rfl) (by kernel_rfl) (fun _ _ _ h => h) ⟨Or.inl ⟨by rfl, by intro w; go_simp⟩, fun _ => rfl⟩ ?_
      go_simp
      refine wpAnyIn_take (i := 8) (v := .pointer (some ⟨b, 0, none⟩)) rfl rfl (by kernel_rfl) (by kernel_rfl) (by kernel_rfl) (fun _ _ _ h => h) ⟨Or.inl ⟨by rfl, by intro w; go_simp⟩, fun _ => rfl⟩ ?_
      go_simp
      refine wpAnyIn_take (i := 9) (v := .pointer (some ⟨b, 0, none⟩)) rfl rfl (by kernel_rfl) (by kernel_rfl) (by kernel_rfl) (fun _ _ _ h => h) ⟨Or.inl ⟨by rfl, by intro w; go_simp⟩, fun _ => rfl⟩ ?_
      go_simp
      refine wpAnyIn_take (i := 10) (v := .pointer (some ⟨b, 4, none⟩)) rfl rfl (by kernel_rfl) (by kernel_rfl) (by kernel_rfl) (fun _ _ _ h => h) ⟨Or.inl ⟨by rfl, by intro w; go_simp⟩, fun _ => rfl⟩ ?_
      go_simp
      refine wpAnyIn_take (i := 12) (v := .int .i64 first) rfl rfl (by kernel_rfl) (by kernel_rfl) (by kernel_rfl) (fun _ _ _ h => h) ⟨Or.inl ⟨by rfl, by intro w; go_simp⟩, fun _ => rfl⟩ ?_
      go_simp
      refine wpAnyIn_take (i := 13) (v := .pointer (some ⟨b, 0, none⟩)) rfl rfl (by kernel_rfl) (by kernel_rfl) (by kernel_rfl) (fun _ _ _ h => h) ⟨Or.inl ⟨by rfl, by intro w; go_simp⟩, fun _ => rfl⟩ ?_
      go_simp
      refine wpAnyIn_take (i := 14) (v := .pointer (some ⟨b, 0, none⟩)) rfl rfl (by kernel_rfl) (by kernel_rfl) (by kernel_rfl) (fun _ _ _ h => h) ⟨Or.inl ⟨by rfl, by intro w; go_simp⟩, fun _ => rfl⟩ ?_
      go_simp
      refine wpAnyIn_take (i := 15) (v := .pointer (some ⟨b, 3, none⟩)) rfl rfl (by kernel_rfl) (by kernel_rfl) (by kernel_rfl) (fun _ _ _ h => h) ⟨Or.inl ⟨by rfl, by intro w; go_simp⟩, fun _ => rfl⟩ ?_
      go_simp
      refine wpAnyIn_take (i := 21) (v := .func (.yield l) #[] #[]) rfl rfl (by kernel_rfl) (by kernel_rfl) (by kernel_rfl) (fun _ _ _ h => h) ⟨Or.inl ⟨by rfl, by intro w; go_simp⟩, fun _ => rfl⟩ ?_
      go_simp
      refine wpAnyIn_here (i := 16) (v := .pointer (some ⟨b1, 0, none⟩)) [(11, .pointer a2)] [17, 18, 19, 20, 22, 23, 24] rfl rfl (by kernel_rfl) (by kernel_rfl) (by kernel_rfl) ⟨Or.inl ⟨by rfl, by go_simp⟩, by first | rfl | go_simp⟩ (by intro p hp; simp only [List.mem_cons, List.not_mem_nil, or_false] at hp; rcases hp with rfl <;> exact ⟨_, rfl, ⟨Or.inl ⟨by rfl, by go_simp⟩, by first | rfl | go_simp⟩⟩) ?_
      go_simp
      refine wpAnyIn_take (i := 17) (v := .pointer (some ⟨b1, 0, none⟩)) rfl rfl (by kernel_rfl) (by kernel_rfl) (by kernel_rfl) (fun _ _ _ h => h) ⟨Or.inl ⟨by rfl, by intro w; go_simp⟩, fun _ => rfl⟩ ?_
      go_simp
      refine wpAnyIn_take (i := 18) (v := .pointer (some ⟨b1, 0, none⟩)) rfl rfl (by kernel_rfl) (by kernel_rfl) (by kernel_rfl) (fun _ _ _ h => h) ⟨Or.inl ⟨by rfl, by intro w; go_simp⟩, fun _ => rfl⟩ ?_
      go_simp
      refine wpAnyIn_here (i := 19) (v := .int .i64 k) [(11, .pointer a2)] [20, 22, 23, 24] rfl rfl (by kernel_rfl) (by kernel_rfl) (by kernel_rfl) ⟨Or.inl ⟨by rfl, by go_simp⟩, by first | rfl | go_simp⟩ (by intro p hp; simp only [List.mem_cons, List.not_mem_nil, or_false] at hp; rcases hp with rfl <;> exact ⟨_, rfl, ⟨Or.inl ⟨by rfl, by go_simp⟩, by first | rfl | go_simp⟩⟩) ?_
      go_simp
      refine wpAnyIn_take (i := 20) (v := .int .i64 ((first : Int) + (k : Int))) rfl rfl (by kernel_rfl) (by kernel_rfl) (by kernel_rfl) (fun _ _ _ h => h) ⟨Or.inl ⟨by rfl, by intro w; go_simp⟩, fun _ => rfl⟩ ?_
      go_simp
      refine wpAnyIn_here (i := 11) (v := .pointer a2) [] [22, 23, 24] rfl rfl (by kernel_rfl) (by kernel_rfl) (by kernel_rfl) ⟨Or.inl ⟨by rfl, by go_simp⟩, by first | rfl | go_simp⟩ (fun p hp => by cases hp) ?_
      go_simp
      refine wpAnyIn_ready (rs := [22]) (by kernel_rfl) (by simp) ?_
      refine AllReadyIn.cons rfl (fun K hK => ?_) AllReadyIn.nil
      go_simp
      gi_wp2_with (first | (refine ⟨trivial, hdd _, ?_⟩; gi_at_call 56; refine (S2.out _ _ hJ2.out hk2).mono ?_; intro e' w3 HW; obtain ⟨r, rfl, HR3⟩ := HW.b; clear HW) | fail)
      rcases HR3.out with ⟨rfl, hk3, hJ3⟩ | ⟨rfl, hk3, hX3⟩
      · skip
        first | (go_simp; refine hK _ _ ?_; clear hK K; go_simp) | (refine hK _ _ ?_; clear hK K; go_simp) | go_simp
        refine wpAnyIn_take (i := 23) (v := .bool true) rfl rfl (by kernel_rfl) (by kernel_rfl) (by kernel_rfl) (fun _ _ _ h => h) ⟨Or.inl ⟨by rfl, by intro w; go_simp⟩, fun _ => rfl⟩ ?_
        go_simp
        refine wpAnyIn_take (i := 24) (v := .bool true) rfl rfl (by kernel_rfl) (by kernel_rfl) (by kernel_rfl) (fun _ _ _ h => h) ⟨Or.inl ⟨by rfl, by intro w; go_simp⟩, fun _ => rfl⟩ ?_
        go_simp
        refine wpAnyIn_done (by kernel_rfl) ?_ _
        gi_wp2
        go_ret
        exact .inl ⟨rfl, hk2.trans hk3, Lib.hid (by rw [HX.out, ← List.append_assoc]; exact hJ3.out)⟩
      · skip
        first | (go_simp; refine hK _ _ ?_; clear hK K; go_simp) | (refine hK _ _ ?_; clear hK K; go_simp) | go_simp
        refine wpAnyIn_take (i := 23) (v := .bool false) rfl rfl (by kernel_rfl) (by kernel_rfl) (by kernel_rfl) (fun _ _ _ h => h) ⟨Or.inl ⟨by rfl, by intro w; go_simp⟩, fun _ => rfl⟩ ?_
        go_simp
        refine wpAnyIn_take (i := 24) (v := .bool false) rfl rfl (by kernel_rfl) (by kernel_rfl) (by kernel_rfl) (fun _ _ _ h => h) ⟨Or.inl ⟨by rfl, by intro w; go_simp⟩, fun _ => rfl⟩ ?_
        go_simp
        refine wpAnyIn_done (by kernel_rfl) ?_ _
        gi_wp2
        go_ret
        exact .inr ⟨rfl, hk2.zero.trans hk3, Lib.hid (by obtain ⟨q', hq', j⟩ := hX3.out; exact ⟨p.list.zipIdx first ++ q', by rw [HX.out]; exact (List.prefix_append_right_inj _).2 hq', by rw [← List.append_assoc]; exact j⟩)⟩
    · have hk2 : KpC 0 n1 W w2 := (by first | exact (KpC.of_below ((Below.refl _ _).drew)).trans hk22 | exact hk22)
      first | (go_simp; refine hK _ _ ?_; clear hK K; go_simp) | (refine hK _ _ ?_; clear hK K; go_simp) | go_simp
      refine wpAnyIn_take (i := 7) (v := .bool false) rfl rfl (by kernel_rfl) (by kernel_rfl) (by kernel_rfl) (fun _ _ _ h => h) ⟨Or.inl ⟨by rfl, by intro w; go_simp⟩, fun _ => rfl⟩ ?_
      go_simp
      refine wpAnyIn_take (i := 8) (v := undef) rfl rfl (by kernel_rfl) (by kernel_rfl) (by kernel_rfl) (fun _ _ _ h => h) ⟨Or.inr ⟨by rfl, rfl⟩, fun _ => rfl⟩ ?_
      go_simp
      refine wpAnyIn_take (i := 9) (v := undef) rfl rfl (by kernel_rfl) (by kernel_rfl) (by kernel_rfl) (fun _ _ _ h => h) ⟨Or.inr ⟨by rfl, rfl⟩, fun _ => rfl⟩ ?_
      go_simp
      refine wpAnyIn_take (i := 10) (v := undef) rfl rfl (by kernel_rfl) (by kernel_rfl) (by kernel_rfl) (fun _ _ _ h => h) ⟨Or.inr ⟨by rfl, rfl⟩, fun _ => rfl⟩ ?_
      go_simp
      refine wpAnyIn_take (i := 11) (v := undef) rfl rfl (by kernel_rfl) (by kernel_rfl) (by kernel_rfl) (fun _ _ _ h => h) ⟨Or.inr ⟨by rfl, rfl⟩, fun _ => rfl⟩ ?_
      go_simp
      refine wpAnyIn_take (i := 12) (v := undef) rfl rfl (by kernel_rfl) (by kernel_rfl) (by kernel_rfl) (fun _ _ _ h => h) ⟨Or.inr ⟨by rfl, rfl⟩, fun _ => rfl⟩ ?_
      go_simp
      refine wpAnyIn_take (i := 13) (v := undef) rfl rfl (by kernel_rfl) (by kernel_rfl) (by kernel_rfl) (fun _ _ _ h => h) ⟨Or.inr ⟨by rfl, rfl⟩, fun _ => rfl⟩ ?_
      go_simp
      refine wpAnyIn_take (i := 14) (v := undef) rfl rfl (by kernel_rfl) (by kernel_rfl) (by kernel_rfl) (fun _ _ _ h => h) ⟨Or.inr ⟨by rfl, rfl⟩, fun _ => rfl⟩ ?_
      go_simp
      refine wpAnyIn_take (i := 15) (v := undef) rfl rfl (by kernel_rfl) (by kernel_rfl) (by kernel_rfl) (fun _ _ _ h => h) ⟨Or.inr ⟨by rfl, rfl⟩, fun _ => rfl⟩ ?_
      go_simp
      refine wpAnyIn_take (i := 16) (v := undef) rfl rfl (by kernel_rfl) (by kernel_rfl) (by kernel_rfl) (fun _ _ _ h => h) ⟨Or.inr ⟨by rfl, rfl⟩, fun _ => rfl⟩ ?_
      go_simp
      refine wpAnyIn_take (i := 17) (v := undef) rfl rfl (by kernel_rfl) (by kernel_rfl) (by kernel_rfl) (fun _ _ _ h => h) ⟨Or.inr ⟨by rfl, rfl⟩, fun _ => rfl⟩ ?_
      go_simp
      refine wpAnyIn_take (i := 18) (v := undef) rfl rfl (by kernel_rfl) (by kernel_rfl) (by kernel_rfl) (fun _ _ _ h => h) ⟨Or.inr ⟨by rfl, rfl⟩, fun _ => rfl⟩ ?_
      go_simp
      refine wpAnyIn_take (i := 19) (v := undef) rfl rfl (by kernel_rfl) (by kernel_rfl) (by kernel_rfl) (fun _ _ _ h => h) ⟨Or.inr ⟨by rfl, rfl⟩, fun _ => rfl⟩ ?_
      go_simp
      refine wpAnyIn_take (i := 20) (v := undef) rfl rfl (by kernel_rfl) (by kernel_rfl) (by kernel_rfl) (fun _ _ _ h => h) ⟨Or.inr ⟨by rfl, rfl⟩, fun _ => rfl⟩ ?_
      go_simp
      refine wpAnyIn_take (i := 21) (v := undef) rfl rfl (by kernel_rfl) (by kernel_rfl) (by kernel_rfl) (fun _ _ _ h => h) ⟨Or.inr ⟨by rfl, rfl⟩, fun _ => rfl⟩ ?_
      go_simp
      refine wpAnyIn_ready (rs := [22]) (by kernel_rfl) (by simp) ?_
      refine AllReadyIn.cons rfl (fun K hK => ?_) AllReadyIn.nil
      go_simp
      first | (refine hK _ _ ?_; clear hK K) | (refine ⟨by first | trivial | (intros; trivial), hK _ _ ?_⟩; clear hK K)
      go_simp
      refine wpAnyIn_take (i := 23) (v := .bool false) rfl rfl (by kernel_rfl) (by kernel_rfl) (by kernel_rfl) (fun _ _ _ h => h) ⟨Or.inl ⟨by rfl, by intro w; go_simp⟩, fun _ => rfl⟩ ?_
      go_simp
      refine wpAnyIn_take (i := 24) (v := .bool false) rfl rfl (by kernel_rfl) (by kernel_rfl) (by kernel_rfl) (fun _ _ _ h => h) ⟨Or.inl ⟨by rfl, by intro w; go_simp⟩, fun _ => rfl⟩ ?_
      go_simp
      refine wpAnyIn_done (by kernel_rfl) ?_ _
      gi_wp2
      go_ret
      exact .inr ⟨rfl, hk2, Lib.hid (by obtain ⟨q', hq', j⟩ := hX2.out; exact ⟨q', by rw [HX.out]; exact hq'.trans (List.prefix_append _ _), j⟩)⟩
end Go.Proofs.Ytamcobncfbjdmaa
