/- join of trees of ints. -/
import Derived.Test.YtamcobncfbjdmaaRT3
namespace Go.Proofs.Ytamcobncfbjdmaa
open Go.RowKit

/-- what join promises. -/
def JoinOut (p q : Rp Int) (w : World) (r : Ending) (w' : World) : Prop := ∃ a t, r = .returned (.pointer a) ∧ Hid (Nd encI w' a t) ∧ Hid (t.list = p.list ++ q.list ∧ t.Lv) ∧ Hid (Below w.heap.size w w')
theorem Nd.nn {α : Type} {enc : α → Value} {w : World} {a : Option Addr} {t : Rp α} (h : Nd enc w a t) : a ≠ none := by
  obtain ⟨b, rfl, _⟩ := h.dep
  simp

set_option maxHeartbeats 12800000 in
set_option maxRecDepth 100000 in
theorem pjoin_any (g : Nat) : ∀ (p q : Rp Int) (a1 a2 : Option Addr) (w : World), p.depth + q.depth ≤ g → Nd encI w a1 p → Nd encI w a2 q → p.Lv → q.Lv → p.list.length + q.list.length ≤ 1000000 →
    Calls Try.prog 62 #[.pointer a1, .pointer a2] w (JoinOut p q w) := by
  induction g with
  | zero => intro p q a1 a2 w hg; have : 1 ≤ p.depth := by cases p <;> simp [Rp.depth]
            omega
  | succ g ih =>
    intro p q a1 a2 w hg hp hq hLp hLq hs
    have hdp := Rp.depth_le hLp
    have hdq := Rp.depth_le hLq
    by_cases hlf : p.isLf = true ∧ q.isLf = true ∧ p.list.length + q.list.length ≤ 16
    · cases p with
      | fork x y => exact absurd hlf.1 (by simp [Rp.isLf])
      | leaf l1 =>
        cases q with
        | fork x y => exact absurd hlf.2.1 (by simp [Rp.isLf])
        | leaf l2 =>
          refine (pjoinLI_any a1 a2 l1 l2 w hp hq hLp.1 hLq.1 hlf.2.2).mono ?_
          rintro r w' ⟨c, rfl, h1, h2⟩
          exact ⟨c, .leaf (l1 ++ l2), rfl, h1, Lib.hid ⟨rfl, by have := hLp.1; show 1 ≤ (l1 ++ l2).length ∧ (l1 ++ l2).length ≤ 16; rw [List.length_append]; have h3 : l1.length + l2.length ≤ 16 := hlf.2.2; have h4 : 1 ≤ l1.length := hLp.1; omega⟩, h2⟩
    · have C1 := Lib.hid (fun n => pisLf_any a1 p _ (hp.later (below_drewN (Below.refl w.heap.size w) n)))
      have C2 := Lib.hid (fun n => pisLf_any a2 q _ (hq.later (below_drewN (Below.refl w.heap.size w) n)))
      have SK1 : Hid (∀ w', Below w.heap.size w w' → Calls Try.prog 82 #[.pointer a1, .pointer a2] w' (fun r w'' => r = .returned (.bool (snk p q)) ∧ Hid (Below w.heap.size w w''))) := Lib.hid fun w' hw' => by
        refine (psink_any a1 a2 p q w' (hp.later hw') (hq.later hw') (by omega)).mono ?_
        rintro r w'' ⟨rfl, n, rfl⟩
        exact ⟨rfl, Lib.hid (below_drewN hw' n)⟩
      have SK2 : Hid (∀ w', Below w.heap.size w w' → Calls Try.prog 82 #[.pointer a2, .pointer a1] w' (fun r w'' => r = .returned (.bool (snk q p)) ∧ Hid (Below w.heap.size w w''))) := Lib.hid fun w' hw' => by
        refine (psink_any a2 a1 q p w' (hq.later hw') (hp.later hw') (by omega)).mono ?_
        rintro r w'' ⟨rfl, n, rfl⟩
        exact ⟨rfl, Lib.hid (below_drewN hw' n)⟩
      have FK : Hid (∀ w', Below w.heap.size w w' → Calls Try.prog 76 #[.pointer a1, .pointer a2] w' (JoinOut p q w)) := Lib.hid fun w' hw' => by
        refine (pforkI_any a1 a2 p q w' (hp.later hw') (hq.later hw') (by omega) (by omega) (by omega)).mono ?_
        rintro r w'' ⟨a, rfl, x, y⟩
        exact ⟨a, .fork p q, rfl, x, Lib.hid ⟨rfl, hLp, hLq⟩, Lib.hid (hw'.trans (y.out.mono hw'.size))⟩
      obtain ⟨b, rfl, hb, c1⟩ := hp.dep
      obtain ⟨e, rfl, he, e1⟩ := hq.dep
      obtain ⟨_, hb2, _, z1, _⟩ := hp.head
      cases hb2
      obtain ⟨_, he2, _, z2, _⟩ := hq.head
      cases he2
      obtain ⟨n1, hn1⟩ : ∃ n, n = p.list.length := ⟨_, rfl⟩
      obtain ⟨n2, hn2⟩ : ∃ n, n = q.list.length := ⟨_, rfl⟩
      rw [← hn1] at z1 hlf hs
      rw [← hn2] at z2 hlf hs
      have hwr : IntKind.i64.wrap ((n1 : Int) + (n2 : Int)) = (n1 : Int) + (n2 : Int) := IntWalk.i64_in _ (by omega)
      obtain ⟨x, hx⟩ : ∃ x, x = p.isLf := ⟨_, rfl⟩
      obtain ⟨y, hy⟩ : ∃ y, y = q.isLf := ⟨_, rfl⟩
      rw [← hx] at C1 hlf
      rw [← hy] at C2 hlf
      by_cases s1 : snk p q = true
      · rw [s1] at SK1
        cases q with
        | leaf l2 => exact absurd s1 (by simp [snk, Rp.depth, Rp.isLf])
        | fork ql qr =>
          obtain ⟨e', v1, v2, he', q2, q3, q4, hql, hqr⟩ := hq.fork2
          obtain rfl : e = e' := by cases he'; rfl
          have hy' : y = false := hy
          subst hy'
          have hnq : n2 = ql.list.length + qr.list.length := by rw [hn2, Rp.list, List.length_append]
          have hql1 : ql.depth + 1 ≤ (Rp.fork ql qr).depth := by simp only [Rp.depth]; omega
          have J1 : Hid (∀ w', Below w.heap.size w w' → Calls Try.prog 62 #[.pointer (some ⟨b, 0, none⟩), .pointer v1] w' (fun r w'' => ∃ a t, r = .returned (.pointer a) ∧ Hid (Nd encI w'' a t) ∧ Hid (t.list = p.list ++ ql.list ∧ t.Lv) ∧ Hid (Below w.heap.size w w''))) := Lib.hid fun w' hw' => by
            refine (ih p ql _ _ w' (by omega) (hp.later hw') (hql.later hw') hLp hLq.1 (by rw [← hn1]; omega)).mono ?_
            rintro r w'' ⟨a, t, rfl, h1, h2, h3⟩
            exact ⟨a, t, rfl, h1, h2, Lib.hid (hw'.trans (h3.out.mono hw'.size))⟩
          have BL : Hid (∀ a t w', Nd encI w' a t → (t.list = p.list ++ ql.list ∧ t.Lv) → Below w.heap.size w w' → Calls Try.prog 83 #[.pointer a, .pointer v2] w' (JoinOut p (.fork ql qr) w)) := Lib.hid fun a t w' ha ht hw' => by
            refine (pbal_any a v2 t qr w' ha (hqr.later hw') ht.2 hLq.2 (by rw [ht.1, List.length_append, ← hn1]; omega)).mono ?_
            rintro r w'' ⟨a', rfl, h1, h2⟩
            exact ⟨a', bal t qr, rfl, h1, Lib.hid ⟨by rw [bal_list, ht.1, Rp.list, List.append_assoc], bal_lv _ _ ht.2 hLq.2⟩, Lib.hid (hw'.trans (h2.out.mono hw'.size))⟩
          have KS : ∀ w', Hid (Below w.heap.size w w') → (Hid (Below w.heap.size w w') ∧ w'.cell? ⟨e, 3, none⟩ = some (.pointer v1) ∧ w'.cell? ⟨e, 4, none⟩ = some (.pointer v2)) := fun w' h => ⟨h, (h.out.cell (p := ⟨e, 3, none⟩) he).trans q3, (h.out.cell (p := ⟨e, 4, none⟩) he).trans q4⟩
          clear ih hp hq hLp hLq hs hdp hdq hlf s1 hx hy hn1 hn2 hql hqr hql1 hnq FK SK2 q2 he'
          cases x with
          | false =>
            go_enter Try.func62, Try.ntmps62
            go_wp2_with fail
            go_quiet ((first | (go_at_call 79; exact Calls.quiet_of_same (C1.out _)) | (go_at_call 79; exact Calls.quiet_of_same (C2.out _))))
            have HV := below_drewN (Below.refl w.heap.size w) nq
            obtain ⟨V, hV⟩ : ∃ V, V = w.drewN nq := ⟨_, rfl⟩
            rw [← hV] at HV ⊢
            have HV0 := Lib.hid HV
            clear hV HV c1 e1 z1 z2 hwr q3 q4
            go_wp2_with (first | (go_at_call 82; refine (SK1.out _ HV0.out).mono ?_; rintro r w1 ⟨rfl, HB1⟩) | fail)
            have HB0 := Lib.hid HB1.out
            go_region_held3 (fun w' => Hid (Below w.heap.size w w') ∧ w'.cell? ⟨e, 3, none⟩ = some (.pointer v1) ∧ w'.cell? ⟨e, 4, none⟩ = some (.pointer v2))
              (first | exact KS _ HB4 | exact KS _ HB3 | exact KS _ HB0 | exact KS _ (Lib.hid HB0.out.drew) | assumption)
              (first
              | (go_at_call 83; have hmark := HB3.out; refine (BL.out _ _ _ HN3.out HT3.out HB3.out).mono ?_; rintro r w4 ⟨a4, t4, rfl, HN4, HT4, HB4⟩)
              | (go_at_call 62; refine (J1.out _ (by first | exact HB0.out.drew | exact HB0.out)).mono ?_; rintro r w3 ⟨a3, t3, rfl, HN3, HT3, HB3⟩)
              | fail)
            all_goals
              go_wp2
              go_ret
              exact ⟨a4, t4, rfl, HN4, HT4, HB4⟩
          | true =>
            go_enter Try.func62, Try.ntmps62
            go_wp2_with fail
            go_quiet ((first | (go_at_call 79; exact Calls.quiet_of_same (C1.out _)) | (go_at_call 79; exact Calls.quiet_of_same (C2.out _))))
            have HV := below_drewN (Below.refl w.heap.size w) nq
            obtain ⟨V, hV⟩ : ∃ V, V = w.drewN nq := ⟨_, rfl⟩
            rw [← hV] at HV ⊢
            have HV0 := Lib.hid HV
            clear hV HV c1 e1 z1 z2 hwr q3 q4
            go_wp2_with (first | (go_at_call 82; refine (SK1.out _ HV0.out).mono ?_; rintro r w1 ⟨rfl, HB1⟩) | fail)
            have HB0 := Lib.hid HB1.out
            go_region_held3 (fun w' => Hid (Below w.heap.size w w') ∧ w'.cell? ⟨e, 3, none⟩ = some (.pointer v1) ∧ w'.cell? ⟨e, 4, none⟩ = some (.pointer v2))
              (first | exact KS _ HB4 | exact KS _ HB3 | exact KS _ HB0 | exact KS _ (Lib.hid HB0.out.drew) | assumption)
              (first
              | (go_at_call 83; have hmark := HB3.out; refine (BL.out _ _ _ HN3.out HT3.out HB3.out).mono ?_; rintro r w4 ⟨a4, t4, rfl, HN4, HT4, HB4⟩)
              | (go_at_call 62; refine (J1.out _ (by first | exact HB0.out.drew | exact HB0.out)).mono ?_; rintro r w3 ⟨a3, t3, rfl, HN3, HT3, HB3⟩)
              | fail)
            all_goals
              go_wp2
              go_ret
              exact ⟨a4, t4, rfl, HN4, HT4, HB4⟩
      · have s1' : snk p q = false := by simpa using s1
        rw [s1'] at SK1
        by_cases s2 : snk q p = true
        · rw [s2] at SK2
          cases p with
          | leaf l1 => exact absurd s2 (by simp [snk, Rp.depth, Rp.isLf])
          | fork pl pr =>
            obtain ⟨b', v1, v2, hb', q2, q3, q4, hpl, hpr⟩ := hp.fork2
            obtain rfl : b = b' := by cases hb'; rfl
            have hx' : x = false := hx
            subst hx'
            have hnp : n1 = pl.list.length + pr.list.length := by rw [hn1, Rp.list, List.length_append]
            have hpr1 : pr.depth + 1 ≤ (Rp.fork pl pr).depth := by simp only [Rp.depth]; omega
            have J1 : Hid (∀ w', Below w.heap.size w w' → Calls Try.prog 62 #[.pointer v2, .pointer (some ⟨e, 0, none⟩)] w' (fun r w'' => ∃ a t, r = .returned (.pointer a) ∧ Hid (Nd encI w'' a t) ∧ Hid (t.list = pr.list ++ q.list ∧ t.Lv) ∧ Hid (Below w.heap.size w w''))) := Lib.hid fun w' hw' => by
              refine (ih pr q _ _ w' (by omega) (hpr.later hw') (hq.later hw') hLp.2 hLq (by rw [← hn2]; omega)).mono ?_
              rintro r w'' ⟨a, t, rfl, h1, h2, h3⟩
              exact ⟨a, t, rfl, h1, h2, Lib.hid (hw'.trans (h3.out.mono hw'.size))⟩
            have BL : Hid (∀ a t w', Nd encI w' a t → (t.list = pr.list ++ q.list ∧ t.Lv) → Below w.heap.size w w' → Calls Try.prog 83 #[.pointer v1, .pointer a] w' (JoinOut (.fork pl pr) q w)) := Lib.hid fun a t w' ha ht hw' => by
              refine (pbal_any v1 a pl t w' (hpl.later hw') ha hLp.1 ht.2 (by rw [ht.1, List.length_append, ← hn2]; omega)).mono ?_
              rintro r w'' ⟨a', rfl, h1, h2⟩
              exact ⟨a', bal pl t, rfl, h1, Lib.hid ⟨by rw [bal_list, ht.1, Rp.list, List.append_assoc], bal_lv _ _ hLp.1 ht.2⟩, Lib.hid (hw'.trans (h2.out.mono hw'.size))⟩
            have KS : ∀ w', Hid (Below w.heap.size w w') → (Hid (Below w.heap.size w w') ∧ w'.cell? ⟨b, 3, none⟩ = some (.pointer v1) ∧ w'.cell? ⟨b, 4, none⟩ = some (.pointer v2)) := fun w' h => ⟨h, (h.out.cell (p := ⟨b, 3, none⟩) hb).trans q3, (h.out.cell (p := ⟨b, 4, none⟩) hb).trans q4⟩
            clear ih hp hq hLp hLq hs hdp hdq hlf s1 s1' s2 hx hy hn1 hn2 hpl hpr hpr1 hnp FK q2 hb'
            go_enter Try.func62, Try.ntmps62
            go_wp2_with fail
            go_quiet ((first | (go_at_call 79; exact Calls.quiet_of_same (C1.out _)) | (go_at_call 79; exact Calls.quiet_of_same (C2.out _))))
            have HV := below_drewN (Below.refl w.heap.size w) nq
            obtain ⟨V, hV⟩ : ∃ V, V = w.drewN nq := ⟨_, rfl⟩
            rw [← hV] at HV ⊢
            have HV0 := Lib.hid HV
            clear hV HV c1 e1 z1 z2 hwr q3 q4
            go_wp2_with (first | (go_at_call 82; have hmark := HB1.out; refine (SK2.out _ HB1.out).mono ?_; rintro r w2 ⟨rfl, HB2⟩) | (go_at_call 82; refine (SK1.out _ HV0.out).mono ?_; rintro r w1 ⟨rfl, HB1⟩) | fail)
            have HB0 := Lib.hid HB2.out
            go_region_held3 (fun w' => Hid (Below w.heap.size w w') ∧ w'.cell? ⟨b, 3, none⟩ = some (.pointer v1) ∧ w'.cell? ⟨b, 4, none⟩ = some (.pointer v2))
              (first | exact KS _ HB4 | exact KS _ HB3 | exact KS _ HB0 | exact KS _ (Lib.hid HB0.out.drew) | assumption)
              (first
              | (go_at_call 83; have hmark := HB3.out; refine (BL.out _ _ _ HN3.out HT3.out HB3.out).mono ?_; rintro r w4 ⟨a4, t4, rfl, HN4, HT4, HB4⟩)
              | (go_at_call 62; refine (J1.out _ (by first | exact HB0.out.drew | exact HB0.out)).mono ?_; rintro r w3 ⟨a3, t3, rfl, HN3, HT3, HB3⟩)
              | fail)
            all_goals
              go_wp2
              go_ret
              exact ⟨a4, t4, rfl, HN4, HT4, HB4⟩
        · have s2' : snk q p = false := by simpa using s2
          rw [s2'] at SK2
          cases x with
          | false =>
            clear ih hp hq hLp hLq hs hdp hdq hlf s1 s1' s2 s2' hx hy hn1 hn2
            go_enter Try.func62, Try.ntmps62
            go_wp2_with fail
            go_quiet ((first | (go_at_call 79; exact Calls.quiet_of_same (C1.out _)) | (go_at_call 79; exact Calls.quiet_of_same (C2.out _))))
            have HV := below_drewN (Below.refl w.heap.size w) nq
            obtain ⟨V, hV⟩ : ∃ V, V = w.drewN nq := ⟨_, rfl⟩
            rw [← hV] at HV ⊢
            have HV0 := Lib.hid HV
            clear hV HV c1 e1 z1 z2 hwr
            go_wp2_with (first | (go_at_call 76; have hmark := HB2.out; refine (FK.out _ HB2.out).mono ?_; rintro r w4 ⟨a4, t4, rfl, HN4, HT4, HB4⟩) | (go_at_call 82; have hmark := HB1.out; refine (SK2.out _ HB1.out).mono ?_; rintro r w2 ⟨rfl, HB2⟩) | (go_at_call 82; refine (SK1.out _ HV0.out).mono ?_; rintro r w1 ⟨rfl, HB1⟩) | fail)
            go_ret
            exact ⟨a4, t4, rfl, HN4, HT4, HB4⟩
          | true =>
            cases y with
            | false => exact absurd s1' (by simp [snk, ← hx, ← hy])
            | true =>
              have h17 : ¬ n1 + n2 ≤ 16 := fun h => hlf ⟨rfl, rfl, h⟩
              have h16 : ¬ (n1 : Int) + (n2 : Int) ≤ 16 := by omega
              clear h17
              clear ih hp hq hLp hLq hs hdp hdq hlf s1 s1' s2 s2' hx hy hn1 hn2
              go_enter Try.func62, Try.ntmps62
              go_wp2_with fail
              go_quiet ((first | (go_at_call 79; exact Calls.quiet_of_same (C1.out _)) | (go_at_call 79; exact Calls.quiet_of_same (C2.out _))))
              have HV := below_drewN (Below.refl w.heap.size w) nq
              obtain ⟨V, hV⟩ : ∃ V, V = w.drewN nq := ⟨_, rfl⟩
              rw [← hV] at HV ⊢
              have HV0 := Lib.hid HV
              clear hV HV c1 e1 z1 z2 hwr
              go_wp2_with (first | (go_at_call 76; have hmark := HB2.out; refine (FK.out _ HB2.out).mono ?_; rintro r w4 ⟨a4, t4, rfl, HN4, HT4, HB4⟩) | (go_at_call 82; have hmark := HB1.out; refine (SK2.out _ HB1.out).mono ?_; rintro r w2 ⟨rfl, HB2⟩) | (go_at_call 82; refine (SK1.out _ HV0.out).mono ?_; rintro r w1 ⟨rfl, HB1⟩) | fail)
              go_ret
              exact ⟨a4, t4, rfl, HN4, HT4, HB4⟩
end Go.Proofs.Ytamcobncfbjdmaa
