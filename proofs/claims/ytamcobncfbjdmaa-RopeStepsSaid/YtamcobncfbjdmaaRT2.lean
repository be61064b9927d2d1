/- join of two leaves of int. -/
import Derived.Test.YtamcobncfbjdmaaRSA
import Derived.Test.YtamcobncfbjdmaaRT1
import Derived.Test.YtamcobncfbjdmaaRI4
namespace Go.Proofs.Ytamcobncfbjdmaa
open Go.RowKit

theorem Try.infoI : (Try.prog.info? 3).map (fun i => (i.zero, i.size, i.bytes)) = some (some (.int .i64 0), 1, 8) := by kernel_rfl

set_option maxHeartbeats 6400000 in
set_option maxRecDepth 100000 in
theorem pjoinLI_any (a1 a2 : Option Addr) (l1 l2 : List Int) (w : World) (h1 : Nd encI w a1 (.leaf l1)) (h2 : Nd encI w a2 (.leaf l2)) (p1 : 0 < l1.length) (p2 : 0 < l2.length) (hs : l1.length + l2.length ≤ 16) :
    Calls Try.prog 62 #[.pointer a1, .pointer a2] w (fun r w' => ∃ c, r = .returned (.pointer c) ∧ Hid (Nd encI w' c (.leaf (l1 ++ l2))) ∧ Hid (Below w.heap.size w w')) := by
  have C1 := Lib.hid (fun n => pleafpI_any a1 l1 _ (h1.later (below_drewN (Below.refl w.heap.size w) n)))
  have C2 := Lib.hid (fun n => pleafpI_any a2 l2 _ (h2.later (below_drewN (Below.refl w.heap.size w) n)))
  obtain ⟨b1, e1, rfl, c0, c2, he1, hc1⟩ := h1.leaf2
  obtain ⟨b2, e2, rfl, d0, d2, he2, hc2⟩ := h2.leaf2
  have g1 : b1 < w.heap.size := by obtain ⟨b', _, hb', hlt, _⟩ := h1; cases hb'; exact hlt
  have g2 : b2 < w.heap.size := by obtain ⟨b', _, hb', hlt, _⟩ := h2; cases hb'; exact hlt
  obtain ⟨n1, hn1⟩ : ∃ n, n = l1.length := ⟨_, rfl⟩
  obtain ⟨n2, hn2⟩ : ∃ n, n = l2.length := ⟨_, rfl⟩
  rw [← hn1] at p1 hs c0
  rw [← hn2] at p2 hs d0
  have HN1 := Lib.hid hn1
  have HN2 := Lib.hid hn2
  clear h1 h2 hn1 hn2
  have hsum : (n1 : Int) + (n2 : Int) ≤ 16 := by omega
  have hwr : IntKind.i64.wrap ((n1 : Int) + (n2 : Int)) = (n1 : Int) + (n2 : Int) := IntWalk.i64_in _ (by omega)
  go_enter Try.func62, Try.ntmps62
  go_wp2_with fail
  go_quiet ((first | (go_at_call 79; exact Calls.quiet_of_same (C1.out _)) | (go_at_call 79; exact Calls.quiet_of_same (C2.out _))))
  have hbV := below_drewN (Below.refl w.heap.size w) nq
  obtain ⟨V, hV⟩ : ∃ V, V = w.drewN nq := ⟨_, rfl⟩
  rw [← hV] at hbV ⊢
  have D1 := Lib.hid (plistI_any b1 e1 n1 V ((hbV.cell (p := ⟨b1, 0, none⟩) g1).trans c0) ((hbV.cell (p := ⟨b1, 2, none⟩) g1).trans c2) (by omega))
  have D2 : Hid (∀ w', Below w.heap.size w w' → Calls Try.prog 80 #[.pointer (some ⟨b2, 0, none⟩)] w' (fun r w'' => r = .returned (.slice (some ⟨e2, 0, none⟩) n2 16) ∧ Hid (Below w.heap.size w w'') ∧ Hid (Below w'.heap.size w' w''))) := Lib.hid fun w' hw' => by
    refine (plistI_any b2 e2 n2 w' ((hw'.cell (p := ⟨b2, 0, none⟩) g2).trans d0) ((hw'.cell (p := ⟨b2, 2, none⟩) g2).trans d2) (by omega)).mono ?_
    rintro r w'' ⟨rfl, h⟩
    exact ⟨rfl, Lib.hid (hw'.trans (h.mono hw'.size)), Lib.hid h⟩
  have D3 : Hid (∀ w', Below w.heap.size w w' → Calls Try.prog 40 #[.slice (some ⟨e1, 0, none⟩) n1 16] w' (fun r w'' => ∃ v, r = .returned v ∧ Hid (w''.ownsRow w.heap.size 3 1 v n1 (l1.map encI)) ∧ Hid (Below w.heap.size w w''))) := Lib.hid fun w' hw' => by
    refine (Try.slices_Clone_int e1 0 n1 16 l1 w' (by rw [HN1.out]; exact Nat.le_refl _) (by omega) (fun j hj => by
      rw [Nat.zero_add]
      exact (hw'.cell (p := ⟨e1, j, none⟩) he1).trans (hc1.out j _ (by rw [List.getD_eq_getElem?_getD, List.getElem?_eq_getElem hj]; rfl)))).mono ?_
    rintro r w'' ⟨v, rfl, h1, _, h2⟩
    refine ⟨v, rfl, Lib.hid ?_, Lib.hid (hw'.trans (h2.mono hw'.size))⟩
    rw [HN1.out, List.take_length] at h1
    rw [HN1.out]
    exact owns_base h1 hw'.size
  have HV := Lib.hid hbV
  obtain ⟨i0, hi, hz0, hz1, hz2⟩ := info_parts Try.infoI
  have D5 : Hid (∀ g cap w', g < w'.heap.size → (∀ j x, (l1.map encI ++ l2.map encI)[j]? = some x → w'.cell? ⟨g, j, none⟩ = some x) → Calls Try.prog 75 #[.slice (some ⟨g, 0, none⟩) (n1 + n2) cap] w' (fun r w'' => ∃ a, r = .returned (.pointer a) ∧ Hid (Nd encI w'' a (.leaf (l1 ++ l2))) ∧ Hid (Below w'.heap.size w' w''))) := Lib.hid fun g cap w' hg hcl => by
    have := pleafI_any g 0 cap (l1 ++ l2) w' hg (by rw [List.length_append, ← HN1.out, ← HN2.out]; omega) (by rw [List.length_append, ← HN1.out, ← HN2.out]; omega) (fun j x hx => by
      rw [Nat.zero_add]
      refine hcl j (encI x) ?_
      rw [← List.map_append, List.getElem?_map, hx]
      rfl)
    rw [List.length_append, ← HN1.out, ← HN2.out] at this
    exact this
  have DL : Hid ((l2.map encI).length = n2 * 1) := Lib.hid (by rw [List.length_map, ← HN2.out, Nat.mul_one])
  have DC : Hid (∀ w', Below w.heap.size w w' → ∀ j u, (l2.map encI)[j]? = some u → w'.cell? ((⟨e2, 0, none⟩ : Addr).add j) = some u) := Lib.hid fun w' hw' j u hu => by
    rw [Addr.add_lit, Nat.zero_add]
    rw [List.getElem?_map] at hu
    obtain ⟨x, hx, rfl⟩ := Option.map_eq_some_iff.1 hu
    exact (hw'.cell (p := ⟨e2, j, none⟩) he2).trans (hc2.out j x hx)
  have DO : Hid (∀ v ∈ l2.map encI, v.oneCell' = true) := Lib.hid fun v hv => by
    obtain ⟨x, _, rfl⟩ := List.mem_map.1 hv
    rfl
  have h16 : n1 + n2 ≤ 16 := hs
  clear hV hbV C1 C2 c0 c2 d0 d2 hsum hwr hc1 hc2
  go_wp2_with (first
    | (at_builtin; refine wpList_append_own _ rfl (.tmp 34) (.tmp 36) 22 rfl w.heap.size 3 i0 (.int .i64 0) 1 8 Try.underlying22 hi hz0 hz1 hz2 rfl (by decide) _ _ _ rfl HO4.out ⟨e2, 0, none⟩ n2 16 (l2.map encI) rfl DL.out (DC.out _ HB4.out) DO.out (by unfold maxLen; omega) (by omega) (by have := HB4.out.size; omega) ?_; intro v5 w5 hown5 hgrow5 hnil5; have HO5 := owns_cells hown5 (by omega); have HB5 := Lib.hid (HB4.out.grown hgrow5 (HB4.out.size) (fun k e => owns_block HO4.out k e)); clear hown5 hgrow5 hnil5; obtain ⟨g, cap, rfl, hg5, _, _, hcl5⟩ := HO5; have HC5 := Lib.hid hcl5; clear hcl5)
    | (go_at_call 75; have hmark := HB5.out; refine (D5.out _ _ _ hg5 HC5.out).mono ?_; rintro r w6 ⟨c, rfl, HN6, HB6⟩)
    | (go_at_call 80; have hmark := HB3.out; refine (D2.out _ HB3.out).mono ?_; rintro r w4 ⟨rfl, HB4, HB34⟩; have HO4 := Lib.hid (owns_later HO.out HB34.out))
    | (go_at_call 40; refine (D3.out _ HB2.out).mono ?_; rintro r w3 ⟨v, rfl, HO, HB3⟩)
    | (go_at_call 80; refine D1.out.mono ?_; rintro r w2 ⟨rfl, hb2⟩; have HB2 := Lib.hid (HV.out.trans (hb2.mono HV.out.size)); clear hb2)
    | fail)
  go_ret
  exact ⟨c, rfl, HN6, Lib.hid (HB5.out.trans (HB6.out.mono HB5.out.size))⟩
end Go.Proofs.Ytamcobncfbjdmaa
