/- balance of int. -/
import Derived.Test.YtamcobncfbjdmaaRT0
namespace Go.Proofs.Ytamcobncfbjdmaa
open Go.RowKit

theorem Nd.dep {α : Type} {enc : α → Value} {w : World} {a : Option Addr} {t : Rp α} (h : Nd enc w a t) : ∃ b, a = some ⟨b, 0, none⟩ ∧ b < w.heap.size ∧ w.cell? ⟨b, 1, none⟩ = some (.int .i64 t.depth) := by
  obtain ⟨b, h1, h2, _, h3⟩ := h.head
  exact ⟨b, h1, h2, h3⟩

set_option maxHeartbeats 6400000 in
set_option maxRecDepth 100000 in
theorem pbalA1_any (a1 a2 : Option Addr) (pl pr q : Rp Int) (w : World) (hp : Nd encI w a1 (.fork pl pr)) (hq : Nd encI w a2 q) (hL : (Rp.fork pl pr).Lv) (hLq : q.Lv) (hs : (Rp.fork pl pr).list.length + q.list.length ≤ 1000000) (h1 : q.depth + 1 < (Rp.fork pl pr).depth) (h2 : pr.depth ≤ pl.depth) :
    Calls Try.prog 83 #[.pointer a1, .pointer a2] w (fun r w' => ∃ a, r = .returned (.pointer a) ∧ Hid (Nd encI w' a (.fork pl (.fork pr q))) ∧ Hid (Below w.heap.size w w')) := by
  obtain ⟨b, rfl, hb, c1⟩ := hp.dep
  obtain ⟨e, rfl, he, e1⟩ := hq.dep
  obtain ⟨b', x1, x2, hb', c2, c3, c4, hpl, hpr⟩ := hp.fork2
  obtain rfl : b = b' := by cases hb'; rfl
  obtain ⟨l, rfl, hl, l1⟩ := hpl.dep
  obtain ⟨r, rfl, hr, r1⟩ := hpr.dep
  have hdl := Rp.depth_le hL.1
  have hdr := Rp.depth_le hL.2
  have hdq := Rp.depth_le hLq
  rw [Rp.list, List.length_append] at hs
  have hfd : (Rp.fork pr q).depth ≤ 1000000 := by rw [Rp.depth]; omega
  have hfl : (Rp.fork pr q).list.length = pr.list.length + q.list.length := by rw [Rp.list, List.length_append]
  have F1 : Hid (∀ w', Below w.heap.size w w' → Calls Try.prog 76 #[.pointer (some ⟨r, 0, none⟩), .pointer (some ⟨e, 0, none⟩)] w' (fun r w'' => ∃ a, r = .returned (.pointer a) ∧ Hid (Nd encI w'' a (.fork pr q)) ∧ Hid (Below w.heap.size w w''))) := Lib.hid fun w' hw' => by
    refine (pforkI_any _ _ pr q w' (hpr.later hw') (hq.later hw') (by omega) (by omega) (by omega)).mono ?_
    rintro r w'' ⟨a, rfl, x, y⟩
    exact ⟨a, rfl, x, Lib.hid (hw'.trans (y.out.mono hw'.size))⟩
  have F2 : Hid (∀ a w', Nd encI w' a (.fork pr q) → Below w.heap.size w w' → Calls Try.prog 76 #[.pointer (some ⟨l, 0, none⟩), .pointer a] w' (fun r w'' => ∃ a, r = .returned (.pointer a) ∧ Hid (Nd encI w'' a (.fork pl (.fork pr q))) ∧ Hid (Below w.heap.size w w''))) := Lib.hid fun a w' ha hw' => by
    refine (pforkI_any _ _ pl (.fork pr q) w' (hpl.later hw') ha (by omega) (by omega) hfd).mono ?_
    rintro r w'' ⟨a, rfl, x, y⟩
    exact ⟨a, rfl, x, Lib.hid (hw'.trans (y.out.mono hw'.size))⟩
  obtain ⟨dp, hdp⟩ : ∃ d, d = (Rp.fork pl pr).depth := ⟨_, rfl⟩
  obtain ⟨dq, hdq'⟩ : ∃ d, d = q.depth := ⟨_, rfl⟩
  obtain ⟨dl, hdl'⟩ : ∃ d, d = pl.depth := ⟨_, rfl⟩
  obtain ⟨dr, hdr'⟩ : ∃ d, d = pr.depth := ⟨_, rfl⟩
  rw [← hdp] at c1 h1
  rw [← hdq'] at e1 h1 hdq
  rw [← hdl'] at l1 h2
  rw [← hdr'] at r1 h2
  have hq1 : dq ≤ 1000000 := by omega
  clear hdp hdq' hdl' hdr' hdl hdr hdq hs hL hLq hp hpl hpr hq hfd hfl hb'
  have i1 : (dq : Int) + 1 < (dp : Int) := by omega
  have i2 : (dr : Int) ≤ (dl : Int) := by omega
  have hwr : IntKind.i64.wrap ((dq : Int) + 1) = (dq : Int) + 1 := IntWalk.i64_in _ (by omega)
  go_enter Try.func83, Try.ntmps83
  go_wp2_with fail
  go_quiet (fail)
  obtain ⟨NQ1, hq1⟩ : ∃ n, n = nq := ⟨_, rfl⟩
  rw [← hq1]
  clear hq1
  go_wp2_with fail
  go_quiet (fail)
  obtain ⟨NQ2, hq2⟩ : ∃ n, n = nq := ⟨_, rfl⟩
  rw [← hq2]
  clear hq2
  have KS : ∀ w', Hid (Below w.heap.size w w') → (Hid (Below w.heap.size w w') ∧ w'.cell? ⟨b, 3, none⟩ = some (.pointer (some ⟨l, 0, none⟩)) ∧ w'.cell? ⟨b, 4, none⟩ = some (.pointer (some ⟨r, 0, none⟩))) := fun w' h => ⟨h, (h.out.cell (p := ⟨b, 3, none⟩) hb).trans c3, (h.out.cell (p := ⟨b, 4, none⟩) hb).trans c4⟩
  go_wp2_with fail
  have HBV := Lib.hid (below_drewN (below_drewN (Below.refl w.heap.size w) NQ1) NQ2)
  obtain ⟨V, hV⟩ : ∃ V, V = (w.drewN NQ1).drewN NQ2 := ⟨_, rfl⟩
  rw [← hV] at HBV ⊢
  clear hV c1 e1 l1 r1 c2 i1 i2 hwr
  go_region_held3 (fun w' => Hid (Below w.heap.size w w') ∧ w'.cell? ⟨b, 3, none⟩ = some (.pointer (some ⟨l, 0, none⟩)) ∧ w'.cell? ⟨b, 4, none⟩ = some (.pointer (some ⟨r, 0, none⟩)))
    (first | exact KS _ HB2 | exact KS _ HB1 | exact KS _ HBV | exact KS _ (Lib.hid HBV.out.drew) | assumption)
    (first
    | (go_at_call 76; have hmark := HB1.out; refine (F2.out _ _ HN1.out HB1.out).mono ?_; rintro e w2 ⟨a2, rfl, HN2, HB2⟩)
    | (go_at_call 76; refine (F1.out _ (by first | exact HBV.out.drew | exact HBV.out)).mono ?_; rintro e w1 ⟨a1, rfl, HN1, HB1⟩)
    | fail)
  all_goals
    go_wp2
    go_ret
    exact ⟨a2, rfl, HN2, HB2⟩
set_option maxHeartbeats 6400000 in
set_option maxRecDepth 100000 in
theorem pbalA2_any (a1 a2 : Option Addr) (pl x y q : Rp Int) (w : World) (hp : Nd encI w a1 (.fork pl (.fork x y))) (hq : Nd encI w a2 q) (hL : (Rp.fork pl (.fork x y)).Lv) (hLq : q.Lv) (hs : (Rp.fork pl (.fork x y)).list.length + q.list.length ≤ 1000000) (h1 : q.depth + 1 < (Rp.fork pl (.fork x y)).depth) (h2 : pl.depth < (Rp.fork x y).depth) :
    Calls Try.prog 83 #[.pointer a1, .pointer a2] w (fun r w' => ∃ a, r = .returned (.pointer a) ∧ Hid (Nd encI w' a (.fork (.fork pl x) (.fork y q))) ∧ Hid (Below w.heap.size w w')) := by
  obtain ⟨b, rfl, hb, c1⟩ := hp.dep
  obtain ⟨e, rfl, he, e1⟩ := hq.dep
  obtain ⟨b', u1, u2, hb', c2, c3, c4, hpl, hpr⟩ := hp.fork2
  obtain rfl : b = b' := by cases hb'; rfl
  obtain ⟨l, rfl, hl, l1⟩ := hpl.dep
  obtain ⟨r, rfl, hr, r1⟩ := hpr.dep
  obtain ⟨r', v1, v2, hr', _, r3, r4, hx, hy⟩ := hpr.fork2
  obtain rfl : r = r' := by cases hr'; rfl
  have hdl := Rp.depth_le hL.1
  have hdx := Rp.depth_le hL.2.1
  have hdy := Rp.depth_le hL.2.2
  have hdq := Rp.depth_le hLq
  simp only [Rp.list, List.length_append] at hs
  have F1 : Hid (∀ w', Below w.heap.size w w' → Calls Try.prog 76 #[.pointer (some ⟨l, 0, none⟩), .pointer v1] w' (fun r w'' => ∃ a, r = .returned (.pointer a) ∧ Hid (Nd encI w'' a (.fork pl x)) ∧ Hid (Below w.heap.size w w'') ∧ Hid (Below w'.heap.size w' w''))) := Lib.hid fun w' hw' => by
    refine (pforkI_any _ _ pl x w' (hpl.later hw') (hx.later hw') (by first | omega | (simp only [Rp.list, List.length_append]; omega)) (by first | omega | (simp only [Rp.depth]; omega)) (by first | omega | (simp only [Rp.depth]; omega))).mono ?_
    rintro r w'' ⟨a, rfl, x, y⟩
    exact ⟨a, rfl, x, Lib.hid (hw'.trans (y.out.mono hw'.size)), y⟩
  have F2 : Hid (∀ w', Below w.heap.size w w' → Calls Try.prog 76 #[.pointer v2, .pointer (some ⟨e, 0, none⟩)] w' (fun r w'' => ∃ a, r = .returned (.pointer a) ∧ Hid (Nd encI w'' a (.fork y q)) ∧ Hid (Below w.heap.size w w'') ∧ Hid (Below w'.heap.size w' w''))) := Lib.hid fun w' hw' => by
    refine (pforkI_any _ _ y q w' (hy.later hw') (hq.later hw') (by first | omega | (simp only [Rp.list, List.length_append]; omega)) (by first | omega | (simp only [Rp.depth]; omega)) (by first | omega | (simp only [Rp.depth]; omega))).mono ?_
    rintro r w'' ⟨a, rfl, x, y⟩
    exact ⟨a, rfl, x, Lib.hid (hw'.trans (y.out.mono hw'.size)), y⟩
  have F3 : Hid (∀ a b w', Nd encI w' a (.fork pl x) → Nd encI w' b (.fork y q) → Below w.heap.size w w' → Calls Try.prog 76 #[.pointer a, .pointer b] w' (fun r w'' => ∃ a, r = .returned (.pointer a) ∧ Hid (Nd encI w'' a (.fork (.fork pl x) (.fork y q))) ∧ Hid (Below w.heap.size w w'') ∧ Hid (Below w'.heap.size w' w''))) := Lib.hid fun a b w' ha hb hw' => by
    refine (pforkI_any _ _ (.fork pl x) (.fork y q) w' ha hb (by first | omega | (simp only [Rp.list, List.length_append]; omega)) (by first | omega | (simp only [Rp.depth]; omega)) (by first | omega | (simp only [Rp.depth]; omega))).mono ?_
    rintro r w'' ⟨a, rfl, x, y⟩
    exact ⟨a, rfl, x, Lib.hid (hw'.trans (y.out.mono hw'.size)), y⟩
  have hq1 : q.depth ≤ 1000000 := by omega
  obtain ⟨dp, dph⟩ : ∃ d, d = (Rp.fork pl (.fork x y)).depth := ⟨_, rfl⟩
  obtain ⟨dr, drh⟩ : ∃ d, d = (Rp.fork x y).depth := ⟨_, rfl⟩
  obtain ⟨dl, dlh⟩ : ∃ d, d = pl.depth := ⟨_, rfl⟩
  obtain ⟨dq, dqh⟩ : ∃ d, d = q.depth := ⟨_, rfl⟩
  rw [← dph] at c1 h1
  rw [← drh] at r1 h2
  rw [← dlh] at l1 h2
  rw [← dqh] at e1 h1 hq1
  clear dph drh dlh dqh
  clear hdl hdx hdy hdq hs hL hLq hp hpl hpr hq hx hy hb' hr'
  have i1 : (dq : Int) + 1 < (dp : Int) := by omega
  have i2 : ¬ (dr : Int) ≤ (dl : Int) := by omega
  have hwr : IntKind.i64.wrap ((dq : Int) + 1) = (dq : Int) + 1 := IntWalk.i64_in _ (by omega)
  go_enter Try.func83, Try.ntmps83
  go_wp2_with fail
  go_quiet (fail)
  obtain ⟨NQ1, hq1⟩ : ∃ n, n = nq := ⟨_, rfl⟩
  rw [← hq1]
  clear hq1
  go_wp2_with fail
  go_quiet (fail)
  obtain ⟨NQ2, hq2⟩ : ∃ n, n = nq := ⟨_, rfl⟩
  rw [← hq2]
  clear hq2
  go_wp2_with fail
  have KS : ∀ w', Hid (Below w.heap.size w w') → (Hid (Below w.heap.size w w') ∧ w'.cell? ⟨b, 3, none⟩ = some (.pointer (some ⟨l, 0, none⟩)) ∧ w'.cell? ⟨b, 4, none⟩ = some (.pointer (some ⟨r, 0, none⟩)) ∧ w'.cell? ⟨r, 3, none⟩ = some (.pointer v1) ∧ w'.cell? ⟨r, 4, none⟩ = some (.pointer v2)) := fun w' h => ⟨h, (h.out.cell (p := ⟨b, 3, none⟩) hb).trans c3, (h.out.cell (p := ⟨b, 4, none⟩) hb).trans c4, (h.out.cell (p := ⟨r, 3, none⟩) hr).trans r3, (h.out.cell (p := ⟨r, 4, none⟩) hr).trans r4⟩
  have HBV := Lib.hid (below_drewN (below_drewN (Below.refl w.heap.size w) NQ1) NQ2)
  obtain ⟨V, hV⟩ : ∃ V, V = ((w).drewN NQ1).drewN NQ2 := ⟨_, rfl⟩
  rw [← hV] at HBV ⊢
  clear hV c1 e1 l1 r1 c2 i1 i2 hwr
  go_region_held3 (fun w' => Hid (Below w.heap.size w w') ∧ w'.cell? ⟨b, 3, none⟩ = some (.pointer (some ⟨l, 0, none⟩)) ∧ w'.cell? ⟨b, 4, none⟩ = some (.pointer (some ⟨r, 0, none⟩)) ∧ w'.cell? ⟨r, 3, none⟩ = some (.pointer v1) ∧ w'.cell? ⟨r, 4, none⟩ = some (.pointer v2))
    (first | exact KS _ HB3 | exact KS _ HB2 | exact KS _ HB1 | exact KS _ HBV | exact KS _ (Lib.hid HBV.out.drew) | assumption)
    (first
    | (go_at_call 76; have hmark := HB2.out; refine (F3.out _ _ _ HM1.out HN2.out HB2.out).mono ?_; rintro e w3 ⟨a3, rfl, HN3, HB3, _⟩)
    | (go_at_call 76; have hmark := HB1.out; refine (F2.out _ HB1.out).mono ?_; rintro e w2 ⟨a2, rfl, HN2, HB2, HB12⟩; have HM1 := Lib.hid (HN1.out.later HB12.out))
    | (go_at_call 76; refine (F1.out _ (by first | exact HBV.out.drew | exact HBV.out)).mono ?_; rintro e w1 ⟨a1, rfl, HN1, HB1, _⟩)
    | fail)
  all_goals
    go_wp2
    go_ret
    exact ⟨a3, rfl, HN3, HB3⟩
set_option maxHeartbeats 6400000 in
set_option maxRecDepth 100000 in
theorem pbalB1_any (a1 a2 : Option Addr) (p ql qr : Rp Int) (w : World) (hp : Nd encI w a1 p) (hq : Nd encI w a2 (.fork ql qr)) (hL : p.Lv) (hLq : (Rp.fork ql qr).Lv) (hs : p.list.length + (Rp.fork ql qr).list.length ≤ 1000000) (h1 : p.depth + 1 < (Rp.fork ql qr).depth) (h2 : ql.depth ≤ qr.depth) :
    Calls Try.prog 83 #[.pointer a1, .pointer a2] w (fun r w' => ∃ a, r = .returned (.pointer a) ∧ Hid (Nd encI w' a (.fork (.fork p ql) qr)) ∧ Hid (Below w.heap.size w w')) := by
  obtain ⟨e, rfl, he, e1⟩ := hp.dep
  obtain ⟨b, rfl, hb, c1⟩ := hq.dep
  obtain ⟨b', u1, u2, hb', c2, c3, c4, hql, hqr⟩ := hq.fork2
  obtain rfl : b = b' := by cases hb'; rfl
  obtain ⟨l, rfl, hl, l1⟩ := hql.dep
  obtain ⟨r, rfl, hr, r1⟩ := hqr.dep
  have hdp := Rp.depth_le hL
  have hdl := Rp.depth_le hLq.1
  have hdr := Rp.depth_le hLq.2
  simp only [Rp.list, List.length_append] at hs
  have F1 : Hid (∀ w', Below w.heap.size w w' → Calls Try.prog 76 #[.pointer (some ⟨e, 0, none⟩), .pointer (some ⟨l, 0, none⟩)] w' (fun r w'' => ∃ a, r = .returned (.pointer a) ∧ Hid (Nd encI w'' a (.fork p ql)) ∧ Hid (Below w.heap.size w w'') ∧ Hid (Below w'.heap.size w' w''))) := Lib.hid fun w' hw' => by
    refine (pforkI_any _ _ p ql w' (hp.later hw') (hql.later hw') (by first | omega | (simp only [Rp.list, List.length_append]; omega)) (by first | omega | (simp only [Rp.depth]; omega)) (by first | omega | (simp only [Rp.depth]; omega))).mono ?_
    rintro r w'' ⟨a, rfl, x, y⟩
    exact ⟨a, rfl, x, Lib.hid (hw'.trans (y.out.mono hw'.size)), y⟩
  have F2 : Hid (∀ a w', Nd encI w' a (.fork p ql) → Below w.heap.size w w' → Calls Try.prog 76 #[.pointer a, .pointer (some ⟨r, 0, none⟩)] w' (fun r w'' => ∃ a, r = .returned (.pointer a) ∧ Hid (Nd encI w'' a (.fork (.fork p ql) qr)) ∧ Hid (Below w.heap.size w w'') ∧ Hid (Below w'.heap.size w' w''))) := Lib.hid fun a w' ha hw' => by
    refine (pforkI_any _ _ (.fork p ql) qr w' ha (hqr.later hw') (by first | omega | (simp only [Rp.list, List.length_append]; omega)) (by first | omega | (simp only [Rp.depth]; omega)) (by first | omega | (simp only [Rp.depth]; omega))).mono ?_
    rintro r w'' ⟨a, rfl, x, y⟩
    exact ⟨a, rfl, x, Lib.hid (hw'.trans (y.out.mono hw'.size)), y⟩
  have hq1 : p.depth ≤ 1000000 := by omega
  have hq2 : (Rp.fork ql qr).depth ≤ 1000000 := by simp only [Rp.depth]; omega
  obtain ⟨dq, dqh⟩ : ∃ d, d = (Rp.fork ql qr).depth := ⟨_, rfl⟩
  obtain ⟨dl, dlh⟩ : ∃ d, d = ql.depth := ⟨_, rfl⟩
  obtain ⟨dr, drh⟩ : ∃ d, d = qr.depth := ⟨_, rfl⟩
  obtain ⟨dp, dph⟩ : ∃ d, d = p.depth := ⟨_, rfl⟩
  rw [← dqh] at c1 h1 hq2
  rw [← dlh] at l1 h2
  rw [← drh] at r1 h2
  rw [← dph] at e1 h1 hq1
  clear dqh dlh drh dph
  clear hdp hdl hdr hs hL hLq hp hql hqr hq hb'
  have i0 : ¬ (dq : Int) + 1 < (dp : Int) := by omega
  have i1 : (dp : Int) + 1 < (dq : Int) := by omega
  have i2 : (dl : Int) ≤ (dr : Int) := by omega
  have hwr : IntKind.i64.wrap ((dq : Int) + 1) = (dq : Int) + 1 := IntWalk.i64_in _ (by omega)
  have hwp : IntKind.i64.wrap ((dp : Int) + 1) = (dp : Int) + 1 := IntWalk.i64_in _ (by omega)
  go_enter Try.func83, Try.ntmps83
  go_wp2_with fail
  go_quiet (fail)
  obtain ⟨NQ1, hq1⟩ : ∃ n, n = nq := ⟨_, rfl⟩
  rw [← hq1]
  clear hq1
  go_wp2_with fail
  go_quiet (fail)
  obtain ⟨NQ2, hq2⟩ : ∃ n, n = nq := ⟨_, rfl⟩
  rw [← hq2]
  clear hq2
  go_wp2_with fail
  go_quiet (fail)
  obtain ⟨NQ3, hq3⟩ : ∃ n, n = nq := ⟨_, rfl⟩
  rw [← hq3]
  clear hq3
  go_wp2_with fail
  have KS : ∀ w', Hid (Below w.heap.size w w') → (Hid (Below w.heap.size w w') ∧ w'.cell? ⟨b, 3, none⟩ = some (.pointer (some ⟨l, 0, none⟩)) ∧ w'.cell? ⟨b, 4, none⟩ = some (.pointer (some ⟨r, 0, none⟩))) := fun w' h => ⟨h, (h.out.cell (p := ⟨b, 3, none⟩) hb).trans c3, (h.out.cell (p := ⟨b, 4, none⟩) hb).trans c4⟩
  have HBV := Lib.hid (below_drewN (below_drewN (below_drewN (Below.refl w.heap.size w) NQ1) NQ2) NQ3)
  obtain ⟨V, hV⟩ : ∃ V, V = (((w).drewN NQ1).drewN NQ2).drewN NQ3 := ⟨_, rfl⟩
  rw [← hV] at HBV ⊢
  clear hV c1 e1 l1 r1 c2 i0 i1 i2 hwr hwp
  go_region_held3 (fun w' => Hid (Below w.heap.size w w') ∧ w'.cell? ⟨b, 3, none⟩ = some (.pointer (some ⟨l, 0, none⟩)) ∧ w'.cell? ⟨b, 4, none⟩ = some (.pointer (some ⟨r, 0, none⟩)))
    (first | exact KS _ HB3 | exact KS _ HB2 | exact KS _ HB1 | exact KS _ HBV | exact KS _ (Lib.hid HBV.out.drew) | assumption)
    (first
    | (go_at_call 76; have hmark := HB1.out; refine (F2.out _ _ HN1.out HB1.out).mono ?_; rintro e w2 ⟨a2, rfl, HN2, HB2, _⟩)
    | (go_at_call 76; refine (F1.out _ (by first | exact HBV.out.drew | exact HBV.out)).mono ?_; rintro e w1 ⟨a1, rfl, HN1, HB1, _⟩)
    | fail)
  all_goals
    go_wp2
    go_ret
    exact ⟨a2, rfl, HN2, HB2⟩
set_option maxHeartbeats 6400000 in
set_option maxRecDepth 100000 in
theorem pbalB2_any (a1 a2 : Option Addr) (p x y qr : Rp Int) (w : World) (hp : Nd encI w a1 p) (hq : Nd encI w a2 (.fork (.fork x y) qr)) (hL : p.Lv) (hLq : (Rp.fork (.fork x y) qr).Lv) (hs : p.list.length + (Rp.fork (.fork x y) qr).list.length ≤ 1000000) (h1 : p.depth + 1 < (Rp.fork (.fork x y) qr).depth) (h2 : qr.depth < (Rp.fork x y).depth) :
    Calls Try.prog 83 #[.pointer a1, .pointer a2] w (fun r w' => ∃ a, r = .returned (.pointer a) ∧ Hid (Nd encI w' a (.fork (.fork p x) (.fork y qr))) ∧ Hid (Below w.heap.size w w')) := by
  obtain ⟨e, rfl, he, e1⟩ := hp.dep
  obtain ⟨b, rfl, hb, c1⟩ := hq.dep
  obtain ⟨b', u1, u2, hb', c2, c3, c4, hql, hqr⟩ := hq.fork2
  obtain rfl : b = b' := by cases hb'; rfl
  obtain ⟨l, rfl, hl, l1⟩ := hql.dep
  obtain ⟨r, rfl, hr, r1⟩ := hqr.dep
  obtain ⟨l', v1, v2, hl', _, l3, l4, hx, hy⟩ := hql.fork2
  obtain rfl : l = l' := by cases hl'; rfl
  have hdp := Rp.depth_le hL
  have hdx := Rp.depth_le hLq.1.1
  have hdy := Rp.depth_le hLq.1.2
  have hdr := Rp.depth_le hLq.2
  simp only [Rp.list, List.length_append] at hs
  have F1 : Hid (∀ w', Below w.heap.size w w' → Calls Try.prog 76 #[.pointer (some ⟨e, 0, none⟩), .pointer v1] w' (fun r w'' => ∃ a, r = .returned (.pointer a) ∧ Hid (Nd encI w'' a (.fork p x)) ∧ Hid (Below w.heap.size w w'') ∧ Hid (Below w'.heap.size w' w''))) := Lib.hid fun w' hw' => by
    refine (pforkI_any _ _ p x w' (hp.later hw') (hx.later hw') (by first | omega | (simp only [Rp.list, List.length_append]; omega)) (by first | omega | (simp only [Rp.depth]; omega)) (by first | omega | (simp only [Rp.depth]; omega))).mono ?_
    rintro r w'' ⟨a, rfl, x, y⟩
    exact ⟨a, rfl, x, Lib.hid (hw'.trans (y.out.mono hw'.size)), y⟩
  have F2 : Hid (∀ w', Below w.heap.size w w' → Calls Try.prog 76 #[.pointer v2, .pointer (some ⟨r, 0, none⟩)] w' (fun r w'' => ∃ a, r = .returned (.pointer a) ∧ Hid (Nd encI w'' a (.fork y qr)) ∧ Hid (Below w.heap.size w w'') ∧ Hid (Below w'.heap.size w' w''))) := Lib.hid fun w' hw' => by
    refine (pforkI_any _ _ y qr w' (hy.later hw') (hqr.later hw') (by first | omega | (simp only [Rp.list, List.length_append]; omega)) (by first | omega | (simp only [Rp.depth]; omega)) (by first | omega | (simp only [Rp.depth]; omega))).mono ?_
    rintro r w'' ⟨a, rfl, x, y⟩
    exact ⟨a, rfl, x, Lib.hid (hw'.trans (y.out.mono hw'.size)), y⟩
  have F3 : Hid (∀ a b w', Nd encI w' a (.fork p x) → Nd encI w' b (.fork y qr) → Below w.heap.size w w' → Calls Try.prog 76 #[.pointer a, .pointer b] w' (fun r w'' => ∃ a, r = .returned (.pointer a) ∧ Hid (Nd encI w'' a (.fork (.fork p x) (.fork y qr))) ∧ Hid (Below w.heap.size w w'') ∧ Hid (Below w'.heap.size w' w''))) := Lib.hid fun a b w' ha hb hw' => by
    refine (pforkI_any _ _ (.fork p x) (.fork y qr) w' ha hb (by first | omega | (simp only [Rp.list, List.length_append]; omega)) (by first | omega | (simp only [Rp.depth]; omega)) (by first | omega | (simp only [Rp.depth]; omega))).mono ?_
    rintro r w'' ⟨a, rfl, x, y⟩
    exact ⟨a, rfl, x, Lib.hid (hw'.trans (y.out.mono hw'.size)), y⟩
  have hq1 : p.depth ≤ 1000000 := by omega
  have hq2 : (Rp.fork (.fork x y) qr).depth ≤ 1000000 := by simp only [Rp.depth]; omega
  obtain ⟨dq, dqh⟩ : ∃ d, d = (Rp.fork (.fork x y) qr).depth := ⟨_, rfl⟩
  obtain ⟨dl, dlh⟩ : ∃ d, d = (Rp.fork x y).depth := ⟨_, rfl⟩
  obtain ⟨dr, drh⟩ : ∃ d, d = qr.depth := ⟨_, rfl⟩
  obtain ⟨dp, dph⟩ : ∃ d, d = p.depth := ⟨_, rfl⟩
  rw [← dqh] at c1 h1 hq2
  rw [← dlh] at l1 h2
  rw [← drh] at r1 h2
  rw [← dph] at e1 h1 hq1
  clear dqh dlh drh dph
  clear hdp hdx hdy hdr hs hL hLq hp hql hqr hq hx hy hb' hl'
  have i0 : ¬ (dq : Int) + 1 < (dp : Int) := by omega
  have i1 : (dp : Int) + 1 < (dq : Int) := by omega
  have i2 : ¬ (dl : Int) ≤ (dr : Int) := by omega
  have hwr : IntKind.i64.wrap ((dq : Int) + 1) = (dq : Int) + 1 := IntWalk.i64_in _ (by omega)
  have hwp : IntKind.i64.wrap ((dp : Int) + 1) = (dp : Int) + 1 := IntWalk.i64_in _ (by omega)
  go_enter Try.func83, Try.ntmps83
  go_wp2_with fail
  go_quiet (fail)
  obtain ⟨NQ1, hq1⟩ : ∃ n, n = nq := ⟨_, rfl⟩
  rw [← hq1]
  clear hq1
  go_wp2_with fail
  go_quiet (fail)
  obtain ⟨NQ2, hq2⟩ : ∃ n, n = nq := ⟨_, rfl⟩
  rw [← hq2]
  clear hq2
  go_wp2_with fail
  go_quiet (fail)
  obtain ⟨NQ3, hq3⟩ : ∃ n, n = nq := ⟨_, rfl⟩
  rw [← hq3]
  clear hq3
  go_wp2_with fail
  have KS : ∀ w', Hid (Below w.heap.size w w') → (Hid (Below w.heap.size w w') ∧ w'.cell? ⟨b, 3, none⟩ = some (.pointer (some ⟨l, 0, none⟩)) ∧ w'.cell? ⟨b, 4, none⟩ = some (.pointer (some ⟨r, 0, none⟩)) ∧ w'.cell? ⟨l, 3, none⟩ = some (.pointer v1) ∧ w'.cell? ⟨l, 4, none⟩ = some (.pointer v2)) := fun w' h => ⟨h, (h.out.cell (p := ⟨b, 3, none⟩) hb).trans c3, (h.out.cell (p := ⟨b, 4, none⟩) hb).trans c4, (h.out.cell (p := ⟨l, 3, none⟩) hl).trans l3, (h.out.cell (p := ⟨l, 4, none⟩) hl).trans l4⟩
  have HBV := Lib.hid (below_drewN (below_drewN (below_drewN (Below.refl w.heap.size w) NQ1) NQ2) NQ3)
  obtain ⟨V, hV⟩ : ∃ V, V = (((w).drewN NQ1).drewN NQ2).drewN NQ3 := ⟨_, rfl⟩
  rw [← hV] at HBV ⊢
  clear hV c1 e1 l1 r1 c2 i0 i1 i2 hwr hwp
  go_region_held3 (fun w' => Hid (Below w.heap.size w w') ∧ w'.cell? ⟨b, 3, none⟩ = some (.pointer (some ⟨l, 0, none⟩)) ∧ w'.cell? ⟨b, 4, none⟩ = some (.pointer (some ⟨r, 0, none⟩)) ∧ w'.cell? ⟨l, 3, none⟩ = some (.pointer v1) ∧ w'.cell? ⟨l, 4, none⟩ = some (.pointer v2))
    (first | exact KS _ HB3 | exact KS _ HB2 | exact KS _ HB1 | exact KS _ HBV | exact KS _ (Lib.hid HBV.out.drew) | assumption)
    (first
    | (go_at_call 76; have hmark := HB2.out; refine (F3.out _ _ _ HM1.out HN2.out HB2.out).mono ?_; rintro e w3 ⟨a3, rfl, HN3, HB3, _⟩)
    | (go_at_call 76; have hmark := HB1.out; refine (F2.out _ HB1.out).mono ?_; rintro e w2 ⟨a2, rfl, HN2, HB2, HB12⟩; have HM1 := Lib.hid (HN1.out.later HB12.out))
    | (go_at_call 76; refine (F1.out _ (by first | exact HBV.out.drew | exact HBV.out)).mono ?_; rintro e w1 ⟨a1, rfl, HN1, HB1, _⟩)
    | fail)
  all_goals
    go_wp2
    go_ret
    exact ⟨a3, rfl, HN3, HB3⟩
set_option maxHeartbeats 6400000 in
set_option maxRecDepth 100000 in
theorem pbalC_any (a1 a2 : Option Addr) (p q : Rp Int) (w : World) (hp : Nd encI w a1 p) (hq : Nd encI w a2 q) (hL : p.Lv) (hLq : q.Lv) (hs : p.list.length + q.list.length ≤ 1000000) (h0 : ¬ q.depth + 1 < p.depth) (h1 : ¬ p.depth + 1 < q.depth) :
    Calls Try.prog 83 #[.pointer a1, .pointer a2] w (fun r w' => ∃ a, r = .returned (.pointer a) ∧ Hid (Nd encI w' a (.fork p q)) ∧ Hid (Below w.heap.size w w')) := by
  obtain ⟨e, rfl, he, e1⟩ := hp.dep
  obtain ⟨b, rfl, hb, c1⟩ := hq.dep
  have hdp := Rp.depth_le hL
  have hdq := Rp.depth_le hLq
  have F1 : Hid (∀ w', Below w.heap.size w w' → Calls Try.prog 76 #[.pointer (some ⟨e, 0, none⟩), .pointer (some ⟨b, 0, none⟩)] w' (fun r w'' => ∃ a, r = .returned (.pointer a) ∧ Hid (Nd encI w'' a (.fork p q)) ∧ Hid (Below w.heap.size w w'') ∧ Hid (Below w'.heap.size w' w''))) := Lib.hid fun w' hw' => by
    refine (pforkI_any _ _ p q w' (hp.later hw') (hq.later hw') (by first | omega | (simp only [Rp.list, List.length_append]; omega)) (by first | omega | (simp only [Rp.depth]; omega)) (by first | omega | (simp only [Rp.depth]; omega))).mono ?_
    rintro r w'' ⟨a, rfl, x, y⟩
    exact ⟨a, rfl, x, Lib.hid (hw'.trans (y.out.mono hw'.size)), y⟩
  have hq1 : p.depth ≤ 1000000 := by omega
  have hq2 : q.depth ≤ 1000000 := by omega
  obtain ⟨dq, dqh⟩ : ∃ d, d = q.depth := ⟨_, rfl⟩
  obtain ⟨dp, dph⟩ : ∃ d, d = p.depth := ⟨_, rfl⟩
  rw [← dqh] at c1 h0 h1 hq2
  rw [← dph] at e1 h0 h1 hq1
  clear dqh dph
  clear hdp hdq hs hL hLq hp hq
  have i0 : ¬ (dq : Int) + 1 < (dp : Int) := by omega
  have i1 : ¬ (dp : Int) + 1 < (dq : Int) := by omega
  have hwr : IntKind.i64.wrap ((dq : Int) + 1) = (dq : Int) + 1 := IntWalk.i64_in _ (by omega)
  have hwp : IntKind.i64.wrap ((dp : Int) + 1) = (dp : Int) + 1 := IntWalk.i64_in _ (by omega)
  go_enter Try.func83, Try.ntmps83
  go_wp2_with fail
  go_quiet (fail)
  obtain ⟨NQ1, hq1⟩ : ∃ n, n = nq := ⟨_, rfl⟩
  rw [← hq1]
  clear hq1
  go_wp2_with fail
  go_quiet (fail)
  obtain ⟨NQ2, hq2⟩ : ∃ n, n = nq := ⟨_, rfl⟩
  rw [← hq2]
  clear hq2
  have HBV := below_drewN (Below.refl w.heap.size w) (NQ1 + NQ2)
  have C := Lib.hid (F1.out _ HBV)
  clear HBV
  go_wp2_with (first | (go_at_call 76; refine C.out.mono ?_; rintro e w1 ⟨a1, rfl, HN1, HB1, _⟩) | fail)
  go_ret
  exact ⟨a1, rfl, HN1, HB1⟩
/-- balance of two trees of ints. -/
theorem pbal_any (a1 a2 : Option Addr) (p q : Rp Int) (w : World) (hp : Nd encI w a1 p) (hq : Nd encI w a2 q) (hL : p.Lv) (hLq : q.Lv) (hs : p.list.length + q.list.length ≤ 1000000) :
    Calls Try.prog 83 #[.pointer a1, .pointer a2] w (fun r w' => ∃ a, r = .returned (.pointer a) ∧ Hid (Nd encI w' a (bal p q)) ∧ Hid (Below w.heap.size w w')) := by
  by_cases h : q.depth + 1 < p.depth
  · cases p with
    | leaf l => simp [Rp.depth] at h
    | fork pl pr =>
      by_cases h2 : pr.depth ≤ pl.depth
      · have := pbalA1_any a1 a2 pl pr q w hp hq hL hLq hs h h2
        have e : bal (.fork pl pr) q = .fork pl (.fork pr q) := by unfold bal; rw [if_pos h]; simp only [if_pos h2]
        rw [e]; exact this
      · cases pr with
        | leaf l => have := (Rp.depth_le hL.1).2; exact absurd (by show 1 ≤ pl.depth; cases pl <;> simp [Rp.depth]) h2
        | fork x y =>
          have := pbalA2_any a1 a2 pl x y q w hp hq hL hLq hs h (by omega)
          have e : bal (.fork pl (.fork x y)) q = .fork (.fork pl x) (.fork y q) := by unfold bal; rw [if_pos h]; simp only [if_neg h2]
          rw [e]; exact this
  · by_cases h1 : p.depth + 1 < q.depth
    · cases q with
      | leaf l => simp [Rp.depth] at h1
      | fork ql qr =>
        by_cases h2 : ql.depth ≤ qr.depth
        · have := pbalB1_any a1 a2 p ql qr w hp hq hL hLq hs h1 h2
          have e : bal p (.fork ql qr) = .fork (.fork p ql) qr := by unfold bal; rw [if_neg h, if_pos h1]; simp only [if_pos h2]
          rw [e]; exact this
        · cases ql with
          | leaf l => exact absurd (by show 1 ≤ qr.depth; cases qr <;> simp [Rp.depth]) h2
          | fork x y =>
            have := pbalB2_any a1 a2 p x y qr w hp hq hL hLq hs h1 (by omega)
            have e : bal p (.fork (.fork x y) qr) = .fork (.fork p x) (.fork y qr) := by unfold bal; rw [if_neg h, if_pos h1]; simp only [if_neg h2]
            rw [e]; exact this
    · have := pbalC_any a1 a2 p q w hp hq hL hLq hs h h1
      have e : bal p q = .fork p q := by unfold bal; rw [if_neg h, if_neg h1]
      rw [e]; exact this
end Go.Proofs.Ytamcobncfbjdmaa
