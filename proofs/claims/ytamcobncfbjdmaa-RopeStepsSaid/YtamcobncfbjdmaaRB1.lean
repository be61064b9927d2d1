/- back of int. -/
import Derived.Test.YtamcobncfbjdmaaRB0
import Derived.Test.YtamcobncfbjdmaaRg
namespace Go.Proofs.Ytamcobncfbjdmaa
open Go.RowKit Go.Shelf
attribute [local go_sem] Oper.semAt_some

set_option maxRecDepth 100000 in
set_option maxHeartbeats 6400000 in
theorem back_any (l n0 n1 nb N B : Nat) (W0 : World) (hn0 : W0.heap.size ≤ n0) (hn01 : n0 ≤ n1) (J Jx : List (Int × Nat) → World → Prop) (hJ : Frm B J) (hJx : Frm B Jx)
    (hY : ∀ m pre (i : Nat) x W, J pre W → pre.length < N → YieldAt Fence.wide m Try.prog l #[.int .i64 i, encI x] W (YieldOut n0 n1 nb J Jx pre (x, i) W)) (t : Rp Int) :
    ∀ (a : Option Addr) (first : Nat) (pre : List (Int × Nat)) (W : World), Nd encI W0 a t → t.Lv → KpC n0 n1 W0 W → n1 ≤ W.heap.size → B ≤ W.heap.size → nb ≤ W.heap.size → J pre W → pre.length + t.list.length ≤ N → first + t.list.length ≤ 1000000000 →
      Calls Try.prog 58 #[.pointer a, .int .i64 first, .func (.yield l) #[] #[]] W (WalkOut n0 n1 J Jx (t.list.zipIdx first).reverse pre W) := by
  induction t with
  | leaf ls =>
    intro a first pre W hN hL hk hn hB hnb hj hlen hfirst
    exact backL_any l n0 n1 nb N B W0 hn0 J Jx hJ hJx hY ls a first pre W hN hL hk hn hB hnb hn01 hj hlen hfirst
  | fork p q ihp ihq =>
    intro a first pre W hN hL hk hn hBW hnb hj hlen hfirst
    obtain ⟨W3, hW3⟩ : ∃ W3, W3 = ((W.alloc (.cells #[.int .i64 first] 3)).alloc (.cells #[.func (.yield l) #[] #[]] 55)).alloc (.cells #[.bool false] 4) := ⟨_, rfl⟩
    have hB3 : Below W.heap.size W W3 := by rw [hW3]; exact (((Below.refl _ W).alloc (Nat.le_refl _) _).alloc (by simp) _).alloc (by simp; omega) _
    have b0 : Boxed W3 W.heap.size 3 (.int .i64 first) := by rw [hW3]; exact ((Boxed.new W _ _).alloc _).alloc _
    have b1' : Boxed W3 (W.heap.size + 1) 55 (.func (.yield l) #[] #[]) := by
      rw [hW3]
      have := (Boxed.new (W.alloc (.cells #[.int .i64 first] 3)) 55 (.func (.yield l) #[] #[])).alloc (.cells #[.bool false] 4)
      rwa [World.size_alloc] at this
    have b2 : Boxed W3 (W.heap.size + 1 + 1) 4 (.bool false) := by
      rw [hW3]
      have := Boxed.new ((W.alloc (.cells #[.int .i64 first] 3)).alloc (.cells #[.func (.yield l) #[] #[]] 55)) 4 (.bool false)
      rwa [World.size_alloc, World.size_alloc] at this
    have hs3 : W3.heap.size = W.heap.size + 3 := by rw [hW3]; simp
    have hk3 : KpC n0 n1 W0 W3 := hk.trans (KpC.of_below hB3)
    have hN3 := hN.kp hk3 hn0
    have C1 := pforkpI_any a p q _ hN3
    rw [hW3] at C1
    replace C1 := Lib.hid C1
    obtain ⟨b, a1, a2, rfl, c2, c3, c4, hp, hq⟩ := hN3.fork2
    obtain ⟨b', a1', a2', hb', hbs, _, _, _, c3', c4', hp', hq'⟩ := hN
    obtain rfl : b = b' := by cases hb'; rfl
    have h1b : b < n0 := by omega
    have e3 := hk3.cell (p := ⟨b, 3, none⟩) (.inl h1b) c3'
    rw [c3] at e3
    obtain rfl : a1 = a1' := by cases e3; rfl
    have e4 := hk3.cell (p := ⟨b, 4, none⟩) (.inl h1b) c4'
    rw [c4] at e4
    obtain rfl : a2 = a2' := by cases e4; rfl
    obtain ⟨b1, rfl, hb1, d0, _⟩ := hp'.head
    have h1c : b1 < n0 := by omega
    have d1 := hk3.cell (p := ⟨b1, 0, none⟩) (.inl h1c) d0
    rw [Rp.list, List.length_append] at hlen hfirst
    obtain ⟨k, hkn⟩ : ∃ k, k = p.list.length := ⟨_, rfl⟩
    have HX : Hid (((Rp.fork p q).list.zipIdx first).reverse = (q.list.zipIdx (first + k)).reverse ++ (p.list.zipIdx first).reverse) := Lib.hid (by rw [Rp.list, List.zipIdx_append, List.reverse_append, hkn])
    have HJ := Lib.hid hJ
    have HJx := Lib.hid hJx
    have S1 : Hid (∀ W', Below W3.heap.size W3 W' → CallsIn Fence.wide 4 Try.prog 58 #[.pointer a2, .int .i64 ((first : Int) + (k : Int)), .func (.yield l) #[] #[]] W' (WalkOut n0 n1 J Jx (q.list.zipIdx (first + k)).reverse pre W')) := Lib.hid fun W' hb' =>
      callsIn_wide.2 (ihq _ (first + k) pre W' hq' hL.2 (hk3.trans (KpC.of_below hb')) (by have := hb'.size; omega) (by have := hb'.size; omega) (by have := hb'.size; omega) (hJ.below (hJ.below hj hB3) hb') (by omega) (by omega))
    have S2 : Hid (∀ W', J (pre ++ (q.list.zipIdx (first + k)).reverse) W' → KpC n0 n1 W3 W' → CallsIn Fence.wide 4 Try.prog 58 #[.pointer (some ⟨b1, 0, none⟩), .int .i64 first, .func (.yield l) #[] #[]] W' (WalkOut n0 n1 J Jx (p.list.zipIdx first).reverse (pre ++ (q.list.zipIdx (first + k)).reverse) W')) := Lib.hid fun W' hj' hk' =>
      callsIn_wide.2 (ihp _ first (pre ++ (q.list.zipIdx (first + k)).reverse) W' hp' hL.1 (hk3.trans hk') (by have := hk'.1; omega) (by have := hk'.1; omega) (by have := hk'.1; omega) hj' (by rw [List.length_append, List.length_reverse, List.length_zipIdx]; omega) (by omega))
    have hwr : IntKind.i64.wrap ((first : Int) + (k : Int)) = (first : Int) + (k : Int) := IntWalk.i64_in _ (by omega)
    rw [← hkn] at d1
    have HK03 := Lib.hid (KpC.of_below (n0 := n0) (n1 := n1) hB3)
    have x0 := b0.cell
    have x1 := b1'.cell
    have HB0 := Lib.hid b0
    have HB1 := Lib.hid b1'
    have HB2 := Lib.hid b2
    clear ihp ihq hL hY hj hlen hfirst c3' c4' e3 e4 hb' hp hq hp' hq' d0 hkn hN3 hJ hJx hk hk3 hbs hB3 b0 b1' b2
    have HW3 := Lib.hid hW3
    clear hW3
    have hmx : Try.prog.follows .mixedOrders = true := by kernel_rfl
    refine (callsIn_wide (n := 5)).1 ?_
    refine callsIn_of_wp Try.func58 rfl trivial ?_ rfl
    simp only [Try.ntmps58, List.size_toArray, List.length_cons, List.length_nil, Nat.reduceAdd, Nat.reduceSub, Array.replicate_succ, Array.replicate_zero, List.push_toArray, List.append_toArray, List.nil_append, List.cons_append]
    gi_wp2_with (first
      | (refine ⟨trivial, ?_⟩; gi_at_call 79; refine (callsIn_wide.2 C1.out).mono ?_; rintro e' w9 ⟨rfl, rfl⟩)
      | fail)
    rw [← HW3.out]
    rename_i KA hKA KB hKB
    clear hKA C1
    refine wpIn_region_any (by assumption) ?_
    try (change wpAnyIn _ _ _ _ _ _ _ _ _ (World.drew _))
    refine wpAnyIn_take (i := 0) (v := .pointer (some ⟨b, 0, none⟩)) rfl rfl (by kernel_rfl) (by kernel_rfl) (by kernel_rfl) (fun _ _ _ h => h) ⟨Or.inl ⟨by rfl, by intro w; go_simp⟩, fun _ => rfl⟩ ?_
    go_simp
    refine wpAnyIn_take (i := 1) (v := .pointer (some ⟨b, 0, none⟩)) rfl rfl (by kernel_rfl) (by kernel_rfl) (by kernel_rfl) (fun _ _ _ h => h) ⟨Or.inl ⟨by rfl, by intro w; go_simp⟩, fun _ => rfl⟩ ?_
    go_simp
    refine wpAnyIn_take (i := 2) (v := .pointer (some ⟨b, 4, none⟩)) rfl rfl (by kernel_rfl) (by kernel_rfl) (by kernel_rfl) (fun _ _ _ h => h) ⟨Or.inl ⟨by rfl, by intro w; go_simp⟩, fun _ => rfl⟩ ?_
    go_simp
    refine wpAnyIn_take (i := 5) (v := .pointer (some ⟨b, 0, none⟩)) rfl rfl (by kernel_rfl) (by kernel_rfl) (by kernel_rfl) (fun _ _ _ h => h) ⟨Or.inl ⟨by rfl, by intro w; go_simp⟩, fun _ => rfl⟩ ?_
    go_simp
    refine wpAnyIn_take (i := 6) (v := .pointer (some ⟨b, 0, none⟩)) rfl rfl (by kernel_rfl) (by kernel_rfl) (by kernel_rfl) (fun _ _ _ h => h) ⟨Or.inl ⟨by rfl, by intro w; go_simp⟩, fun _ => rfl⟩ ?_
    go_simp
    refine wpAnyIn_take (i := 7) (v := .pointer (some ⟨b, 3, none⟩)) rfl rfl (by kernel_rfl) (by kernel_rfl) (by kernel_rfl) (fun _ _ _ h => h) ⟨Or.inl ⟨by rfl, by intro w; go_simp⟩, fun _ => rfl⟩ ?_
    go_simp
    refine wpAnyIn_here (i := 8) (v := .pointer (some ⟨b1, 0, none⟩)) [(3, .pointer a2), (4, .int .i64 first), (13, .func (.yield l) #[] #[])] [9, 10, 11, 12, 14, 15, 16, 17, 18, 19, 20, 21, 22, 23, 24] rfl rfl (by kernel_rfl) (by kernel_rfl) (by kernel_rfl) ⟨Or.inl ⟨by rfl, by go_simp⟩, by first | rfl | go_simp⟩ (by intro p hp; simp only [List.mem_cons, List.not_mem_nil, or_false] at hp; rcases hp with rfl | rfl | rfl <;> exact ⟨_, rfl, ⟨Or.inl ⟨by rfl, by go_simp⟩, by first | rfl | go_simp⟩⟩) ?_
    go_simp
    refine wpAnyIn_take (i := 9) (v := .pointer (some ⟨b1, 0, none⟩)) rfl rfl (by kernel_rfl) (by kernel_rfl) (by kernel_rfl) (fun _ _ _ h => h) ⟨Or.inl ⟨by rfl, by intro w; go_simp⟩, fun _ => rfl⟩ ?_
    go_simp
    refine wpAnyIn_take (i := 10) (v := .pointer (some ⟨b1, 0, none⟩)) rfl rfl (by kernel_rfl) (by kernel_rfl) (by kernel_rfl) (fun _ _ _ h => h) ⟨Or.inl ⟨by rfl, by intro w; go_simp⟩, fun _ => rfl⟩ ?_
    go_simp
    refine wpAnyIn_here (i := 11) (v := .int .i64 k) [(3, .pointer a2), (4, .int .i64 first), (13, .func (.yield l) #[] #[])] [12, 14, 15, 16, 17, 18, 19, 20, 21, 22, 23, 24] rfl rfl (by kernel_rfl) (by kernel_rfl) (by kernel_rfl) ⟨Or.inl ⟨by rfl, by go_simp⟩, by first | rfl | go_simp⟩ (by intro p hp; simp only [List.mem_cons, List.not_mem_nil, or_false] at hp; rcases hp with rfl | rfl | rfl <;> exact ⟨_, rfl, ⟨Or.inl ⟨by rfl, by go_simp⟩, by first | rfl | go_simp⟩⟩) ?_
    go_simp
    refine wpAnyIn_here (i := 4) (v := .int .i64 first) [(3, .pointer a2), (13, .func (.yield l) #[] #[])] [12, 14, 15, 16, 17, 18, 19, 20, 21, 22, 23, 24] rfl rfl (by kernel_rfl) (by kernel_rfl) (by kernel_rfl) ⟨Or.inl ⟨by rfl, by go_simp⟩, by first | rfl | go_simp⟩ (by intro p hp; simp only [List.mem_cons, List.not_mem_nil, or_false] at hp; rcases hp with rfl | rfl <;> exact ⟨_, rfl, ⟨Or.inl ⟨by rfl, by go_simp⟩, by first | rfl | go_simp⟩⟩) ?_
    go_simp
    refine wpAnyIn_take (i := 12) (v := .int .i64 ((first : Int) + (k : Int))) rfl rfl (by kernel_rfl) (by kernel_rfl) (by kernel_rfl) (fun _ _ _ h => h) ⟨Or.inl ⟨by rfl, by intro w; go_simp⟩, fun _ => rfl⟩ ?_
    go_simp
    refine wpAnyIn_here (i := 3) (v := .pointer a2) [(13, .func (.yield l) #[] #[])] [14, 15, 16, 17, 18, 19, 20, 21, 22, 23, 24] rfl rfl (by kernel_rfl) (by kernel_rfl) (by kernel_rfl) ⟨Or.inl ⟨by rfl, by go_simp⟩, by first | rfl | go_simp⟩ (by intro p hp; simp only [List.mem_cons, List.not_mem_nil, or_false] at hp; rcases hp with rfl <;> exact ⟨_, rfl, ⟨Or.inl ⟨by rfl, by go_simp⟩, by first | rfl | go_simp⟩⟩) ?_
    go_simp
    refine wpAnyIn_here (i := 13) (v := .func (.yield l) #[] #[]) [] [14, 15, 16, 17, 18, 19, 20, 21, 22, 23, 24] rfl rfl (by kernel_rfl) (by kernel_rfl) (by kernel_rfl) ⟨Or.inl ⟨by rfl, by go_simp⟩, by first | rfl | go_simp⟩ (fun p hp => by cases hp) ?_
    go_simp
    refine wpAnyIn_ready (rs := [14]) (by kernel_rfl) (by simp) ?_
    refine AllReadyIn.cons rfl (fun K hK => ?_) AllReadyIn.nil
    go_simp
    gi_wp2_with (first | (refine ⟨trivial, ?_⟩; gi_at_call 58; refine (S1.out _ (by first | exact (Below.refl _ _).drew | exact Below.refl _ _)).mono ?_; intro e' w2 HW; obtain ⟨r, rfl, HR⟩ := HW.b; clear HW) | fail)
    rcases HR.out with ⟨rfl, hk22, hJ2⟩ | ⟨rfl, hk22, hX2⟩
    · have hk2 : KpC n0 n1 W3 w2 := (by first | exact (KpC.of_below ((Below.refl _ _).drew)).trans hk22 | exact hk22)
      clear hk22 HR
      have g0 : Boxed w2 W.heap.size 3 (.int .i64 first) := hk2.2 _ _ (.inr (by omega)) HB0.out rfl
      have g1 : Boxed w2 (W.heap.size + 1) 55 (.func (.yield l) #[] #[]) := hk2.2 _ _ (.inr (by omega)) HB1.out rfl
      have g2 : Boxed w2 (W.heap.size + 1 + 1) 4 (.bool false) := hk2.2 _ _ (.inr (by omega)) HB2.out rfl
      have s2 := hk2.1
      have f3 := hk2.cell (p := ⟨b, 3, none⟩) (.inl h1b) c3
      have f4 := hk2.cell (p := ⟨b, 4, none⟩) (.inl h1b) c4
      have y0 := g0.cell
      have y1 := g1.cell
      first | (go_simp; refine hK _ _ ?_; clear hK K; go_simp) | (refine hK _ _ ?_; clear hK K; go_simp) | go_simp
      refine wpAnyIn_take (i := 15) (v := .bool true) rfl rfl (by kernel_rfl) (by kernel_rfl) (by kernel_rfl) (fun _ _ _ h => h) ⟨Or.inl ⟨by rfl, by intro w; go_simp⟩, fun _ => rfl⟩ ?_
      go_simp
      refine wpAnyIn_take (i := 16) (v := .pointer (some ⟨b, 0, none⟩)) rfl rfl (by kernel_rfl) (by kernel_rfl) (by kernel_rfl) (fun _ _ _ h => h) ⟨Or.inl ⟨by rfl, by intro w; go_simp⟩, fun _ => rfl⟩ ?_
      go_simp
      refine wpAnyIn_take (i := 17) (v := .pointer (some ⟨b, 0, none⟩)) rfl rfl (by kernel_rfl) (by kernel_rfl) (by kernel_rfl) (fun _ _ _ h => h) ⟨Or.inl ⟨by rfl, by intro w; go_simp⟩, fun _ => rfl⟩ ?_
      go_simp
      refine wpAnyIn_take (i := 18) (v := .pointer (some ⟨b, 3, none⟩)) rfl rfl (by kernel_rfl) (by kernel_rfl) (by kernel_rfl) (fun _ _ _ h => h) ⟨Or.inl ⟨by rfl, by intro w; go_simp⟩, fun _ => rfl⟩ ?_
      go_simp
      refine wpAnyIn_here (i := 19) (v := .pointer (some ⟨b1, 0, none⟩)) [(20, .int .i64 first), (21, .func (.yield l) #[] #[])] [22, 23, 24] rfl rfl (by kernel_rfl) (by kernel_rfl) (by kernel_rfl) ⟨Or.inl ⟨by rfl, by go_simp⟩, by first | rfl | go_simp⟩ (by intro p hp; simp only [List.mem_cons, List.not_mem_nil, or_false] at hp; rcases hp with rfl | rfl <;> exact ⟨_, rfl, ⟨Or.inl ⟨by rfl, by go_simp⟩, by first | rfl | go_simp⟩⟩) ?_
      go_simp
      refine wpAnyIn_here (i := 20) (v := .int .i64 first) [(21, .func (.yield l) #[] #[])] [22, 23, 24] rfl rfl (by kernel_rfl) (by kernel_rfl) (by kernel_rfl) ⟨Or.inl ⟨by rfl, by go_simp⟩, by first | rfl | go_simp⟩ (by intro p hp; simp only [List.mem_cons, List.not_mem_nil, or_false] at hp; rcases hp with rfl <;> exact ⟨_, rfl, ⟨Or.inl ⟨by rfl, by go_simp⟩, by first | rfl | go_simp⟩⟩) ?_
      go_simp
      refine wpAnyIn_here (i := 21) (v := .func (.yield l) #[] #[]) [] [22, 23, 24] rfl rfl (by kernel_rfl) (by kernel_rfl) (by kernel_rfl) ⟨Or.inl ⟨by rfl, by go_simp⟩, by first | rfl | go_simp⟩ (fun p hp => by cases hp) ?_
      go_simp
      refine wpAnyIn_ready (rs := [22]) (by kernel_rfl) (by simp) ?_
      refine AllReadyIn.cons rfl (fun K hK => ?_) AllReadyIn.nil
      go_simp
      gi_wp2_with (first | (refine ⟨trivial, ?_⟩; gi_at_call 58; refine (S2.out _ hJ2.out hk2).mono ?_; intro e' w3 HW; obtain ⟨r, rfl, HR3⟩ := HW.b; clear HW) | fail)
      rcases HR3.out with ⟨rfl, hk3, hJ3⟩ | ⟨rfl, hk3, hX3⟩
      · have q2 : Boxed w3 (W.heap.size + 1 + 1) 4 (.bool false) := hk3.2 _ _ (.inr (by omega)) g2 rfl
        have z2 := q2.cell
        have z3 := q2.frozen
        first | (go_simp; refine hK _ _ ?_; clear hK K; go_simp) | (refine hK _ _ ?_; clear hK K; go_simp) | go_simp
        refine wpAnyIn_take (i := 23) (v := .bool true) rfl rfl (by kernel_rfl) (by kernel_rfl) (by kernel_rfl) (fun _ _ _ h => h) ⟨Or.inl ⟨by rfl, by intro w; go_simp⟩, fun _ => rfl⟩ ?_
        go_simp
        refine wpAnyIn_ready (rs := [24]) (by kernel_rfl) (by simp) ?_
        refine AllReadyIn.cons rfl (fun K hK => ?_) AllReadyIn.nil
        go_simp
        refine hK _ _ ?_
        clear hK K
        refine wpAnyIn_done (by kernel_rfl) ?_ _
        have hc5 := (q2.set (.bool true)).cell
        clear z2 z3
        gi_wp2
        refine bodyPost_ret (v := .bool true) (by simp [results, Try.f58, go_sem, hc5]) rfl ?_
        exact .inl ⟨rfl, ((HK03.out.trans hk2).trans hk3).frm (grownBy_setCell' _ _ _) (fun r e => by cases e; omega), Lib.hid (by rw [HX.out, ← List.append_assoc]; exact HJ.out.setCell _ hJ3.out (by omega))⟩
      · have q2 : Boxed w3 (W.heap.size + 1 + 1) 4 (.bool false) := hk3.2 _ _ (.inr (by omega)) g2 rfl
        have z2 := q2.cell
        have z3 := q2.frozen
        first | (go_simp; refine hK _ _ ?_; clear hK K; go_simp) | (refine hK _ _ ?_; clear hK K; go_simp) | go_simp
        refine wpAnyIn_take (i := 23) (v := .bool false) rfl rfl (by kernel_rfl) (by kernel_rfl) (by kernel_rfl) (fun _ _ _ h => h) ⟨Or.inl ⟨by rfl, by intro w; go_simp⟩, fun _ => rfl⟩ ?_
        go_simp
        refine wpAnyIn_ready (rs := [24]) (by kernel_rfl) (by simp) ?_
        refine AllReadyIn.cons rfl (fun K hK => ?_) AllReadyIn.nil
        go_simp
        refine hK _ _ ?_
        clear hK K
        refine wpAnyIn_done (by kernel_rfl) ?_ _
        have hc5 := (q2.set (.bool false)).cell
        clear z2 z3
        gi_wp2
        refine bodyPost_ret (v := .bool false) (by simp [results, Try.f58, go_sem, hc5]) rfl ?_
        exact .inr ⟨rfl, ((HK03.out.zero.trans hk2.zero).trans hk3).frm (grownBy_setCell' _ _ _) (fun r e => by cases e; omega), Lib.hid (by obtain ⟨q', hq', j⟩ := hX3.out; exact ⟨_ ++ q', by rw [HX.out]; exact (List.prefix_append_right_inj _).2 hq', by rw [← List.append_assoc]; exact HJx.out.setCell _ j (by omega)⟩)⟩
    · have hk2 : KpC 0 n1 W3 w2 := (by first | exact (KpC.of_below ((Below.refl _ _).drew)).trans hk22 | exact hk22)
      clear hk22 HR
      have g0 : Boxed w2 W.heap.size 3 (.int .i64 first) := hk2.2 _ _ (.inr (by omega)) HB0.out rfl
      have g1 : Boxed w2 (W.heap.size + 1) 55 (.func (.yield l) #[] #[]) := hk2.2 _ _ (.inr (by omega)) HB1.out rfl
      have g2 : Boxed w2 (W.heap.size + 1 + 1) 4 (.bool false) := hk2.2 _ _ (.inr (by omega)) HB2.out rfl
      have s2 := hk2.1
      have z2 := g2.cell
      have z3 := g2.frozen
      first | (go_simp; refine hK _ _ ?_; clear hK K; go_simp) | (refine hK _ _ ?_; clear hK K; go_simp) | go_simp
      refine wpAnyIn_take (i := 15) (v := .bool false) rfl rfl (by kernel_rfl) (by kernel_rfl) (by kernel_rfl) (fun _ _ _ h => h) ⟨Or.inl ⟨by rfl, by intro w; go_simp⟩, fun _ => rfl⟩ ?_
      go_simp
      refine wpAnyIn_take (i := 16) (v := undef) rfl rfl (by kernel_rfl) (by kernel_rfl) (by kernel_rfl) (fun _ _ _ h => h) ⟨Or.inr ⟨by rfl, rfl⟩, fun _ => rfl⟩ ?_
      go_simp
      refine wpAnyIn_take (i := 17) (v := undef) rfl rfl (by kernel_rfl) (by kernel_rfl) (by kernel_rfl) (fun _ _ _ h => h) ⟨Or.inr ⟨by rfl, rfl⟩, fun _ => rfl⟩ ?_
      go_simp
      refine wpAnyIn_take (i := 18) (v := undef) rfl rfl (by kernel_rfl) (by kernel_rfl) (by kernel_rfl) (fun _ _ _ h => h) ⟨Or.inr ⟨by rfl, rfl⟩, fun _ => rfl⟩ ?_
      go_simp
      refine wpAnyIn_take (i := 19) (v := undef) rfl rfl (by kernel_rfl) (by kernel_rfl) (by kernel_rfl) (fun _ _ _ h => h) ⟨Or.inr ⟨by rfl, rfl⟩, fun _ => rfl⟩ ?_
      go_simp
      refine wpAnyIn_take (i := 20) (v := undef) rfl rfl (by kernel_rfl) (by kernel_rfl) (by kernel_rfl) (fun _ _ _ h => h) ⟨Or.inr ⟨by rfl, rfl⟩, fun _ => rfl⟩ ?_
      go_simp
      refine wpAnyIn_take (i := 21) (v := undef) rfl rfl (by kernel_rfl) (by kernel_rfl) (by kernel_rfl) (fun _ _ _ h => h) ⟨Or.inr ⟨by rfl, rfl⟩, fun _ => rfl⟩ ?_
      go_simp
      refine wpAnyIn_ready (rs := [22]) (by kernel_rfl) (by simp) ?_
      refine AllReadyIn.cons rfl (fun K hK => ?_) AllReadyIn.nil
      go_simp
      first | (refine hK _ _ ?_; clear hK K) | (refine ⟨by first | trivial | (intros; trivial), hK _ _ ?_⟩; clear hK K)
      go_simp
      refine wpAnyIn_take (i := 23) (v := .bool false) rfl rfl (by kernel_rfl) (by kernel_rfl) (by kernel_rfl) (fun _ _ _ h => h) ⟨Or.inl ⟨by rfl, by intro w; go_simp⟩, fun _ => rfl⟩ ?_
      go_simp
      refine wpAnyIn_ready (rs := [24]) (by kernel_rfl) (by simp) ?_
      refine AllReadyIn.cons rfl (fun K hK => ?_) AllReadyIn.nil
      go_simp
      refine hK _ _ ?_
      clear hK K
      refine wpAnyIn_done (by kernel_rfl) ?_ _
      have hc5 := (g2.set (.bool false)).cell
      clear z2 z3
      gi_wp2
      refine bodyPost_ret (v := .bool false) (by simp [results, Try.f58, go_sem, hc5]) rfl ?_
      exact .inr ⟨rfl, (HK03.out.zero.trans hk2).frm (grownBy_setCell' _ _ _) (fun r e => by cases e; omega), Lib.hid (by obtain ⟨q', hq', j⟩ := hX2.out; exact ⟨q', by rw [HX.out]; exact hq'.trans (List.prefix_append _ _), HJx.out.setCell _ j (by omega)⟩)⟩
end Go.Proofs.Ytamcobncfbjdmaa
