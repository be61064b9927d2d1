/- leaf, build of int. -/
import Derived.Test.YtamcobncfbjdmaaRI1
import Derived.Test.YtamcobncfbjdmaaRn
namespace Go.Proofs.Ytamcobncfbjdmaa
open Go.RowKit

set_option maxHeartbeats 3200000 in
set_option maxRecDepth 100000 in
theorem pleafI_any (b o c : Nat) (l : List Int) (w : World) (hb : b < w.heap.size) (hl1 : 1 ≤ l.length) (hl2 : l.length ≤ 16) (hcells : ∀ j x, l[j]? = some x → w.cell? ⟨b, o + j, none⟩ = some (encI x)) :
    Calls Try.prog 75 #[.slice (some ⟨b, o, none⟩) l.length c] w (fun r w' => ∃ a, r = .returned (.pointer a) ∧ Hid (Nd encI w' a (.leaf l)) ∧ Hid (Below w.heap.size w w')) := by
  obtain ⟨n, hn⟩ : ∃ n, n = l.length := ⟨_, rfl⟩
  rw [← hn] at hl1 hl2 ⊢
  have HN := Lib.hid hn
  have hlm : (l.map encI).length = n := by rw [List.length_map, hn]
  have HL : Hid ((l.map encI).length = Nat.min n 16) := Lib.hid (by rw [hlm]; exact (Nat.min_eq_left hl2).symm)
  have HF : Hid (0 + (l.map encI).length ≤ (#[.int .i64 0, .int .i64 0, .int .i64 0, .int .i64 0, .int .i64 0, .int .i64 0, .int .i64 0, .int .i64 0, .int .i64 0, .int .i64 0, .int .i64 0, .int .i64 0, .int .i64 0, .int .i64 0, .int .i64 0, .int .i64 0] : Array Value).size) := Lib.hid (by rw [hlm]; show 0 + n ≤ 16; omega)
  have HO : Hid (∀ v ∈ l.map encI, v.oneCell' = true) := Lib.hid fun v hv => by
    obtain ⟨x, _, rfl⟩ := List.mem_map.1 hv
    rfl
  have HS : Hid (∀ X N : Obj, ∀ j v, (l.map encI)[j]? = some v → ((w.alloc X).alloc N).cell? ((⟨b, o, none⟩ : Addr).add j) = some v) := Lib.hid fun X N j v hv => by
    rw [List.getElem?_map] at hv
    obtain ⟨x, hx, rfl⟩ := Option.map_eq_some_iff.1 hv
    refine Eq.trans ?_ (hcells j x hx)
    have e1 : ((w.alloc X).alloc N).heap[b]? = w.heap[b]? := (heap_alloc_old _ _ (show b < (w.alloc X).heap.size by simp; omega)).trans (heap_alloc_old _ _ hb)
    have ea : (⟨b, o, none⟩ : Addr).add j = ⟨b, o + j, none⟩ := by
      unfold Addr.add
      split
      · next hj => rw [hj]; rfl
      · rfl
    rw [ea]
    exact World.cell?_of_block (a := ⟨b, o + j, none⟩) e1
  have HG : Hid (∀ X N : Obj, ((w.alloc X).alloc N).heap[w.heap.size]? = some X) := Lib.hid fun X N => (heap_alloc_old _ _ (by simp)).trans (heap_alloc_new _ _)
  clear hn hcells hlm
  have hn0 : ¬ ((n : Int) = 0) := by omega
  go_enter Try.func75, Try.ntmps75
  go_wp2_with (with_reducible refine wpList_copy_own (o := ⟨some 19, _, _, _, _, _⟩) rfl (.tmp 17) (.tmp 18) 22 22 rfl 3 rfl rfl w.heap.size 0 16 16 ⟨b, o, none⟩ n c rfl rfl #[.int .i64 0, .int .i64 0, .int .i64 0, .int .i64 0, .int .i64 0, .int .i64 0, .int .i64 0, .int .i64 0, .int .i64 0, .int .i64 0, .int .i64 0, .int .i64 0, .int .i64 0, .int .i64 0, .int .i64 0, .int .i64 0] 127 (HG.out _ _) (l.map encI) HL.out (HS.out _ _) HF.out HO.out ?_)
  go_ret
  exact ⟨_, rfl, Lib.hid (leaf_nd encI w l n HN.out _ _ _ _ _ rfl).1, Lib.hid (leaf_nd encI w l n HN.out _ _ _ _ _ rfl).2⟩
theorem pleaf0I_any (p : Option Addr) (c : Nat) (w : World) : Calls Try.prog 75 #[.slice p 0 c] w (fun r w' => r = .returned (.pointer none) ∧ w' = w) := by
  go_enter Try.func75, Try.ntmps75
  go_wp2
  go_ret
  exact ⟨rfl, rfl⟩

set_option maxHeartbeats 6400000 in
set_option maxRecDepth 100000 in
theorem pbuildI_any (g : Nat) : ∀ (b o c : Nat) (l : List Int) (w : World), l.length ≤ g → l.length ≤ 1000000 → b < w.heap.size → 1 ≤ l.length → l.length ≤ c → Hid (∀ j x, l[j]? = some x → w.cell? ⟨b, o + j, none⟩ = some (encI x)) →
    Calls Try.prog 47 #[.slice (some ⟨b, o, none⟩) l.length c] w (fun r w' => ∃ a, r = .returned (.pointer a) ∧ Hid (Nd encI w' a (bld g l)) ∧ Hid (Below w.heap.size w w')) := by
  induction g with
  | zero => intro b o c l w h1 _ _ h2; omega
  | succ g ih =>
    intro b o c l w hg hm hb h1 hc hcells
    obtain ⟨n, hn⟩ : ∃ n, n = l.length := ⟨_, rfl⟩
    rw [← hn] at hg hm h1 hc ⊢
    by_cases h16 : n ≤ 16
    · have hni : (n : Int) ≤ 16 := by omega
      have HE : Hid (bld (g + 1) l = .leaf l) := Lib.hid (by rw [bld, if_pos (by omega)])
      have HL := Lib.hid (pleafI_any b o c l w hb (by omega) (by omega) hcells.out)
      rw [← hn] at HL
      clear hcells hn ih
      go_enter Try.func47, Try.ntmps47
      go_wp2_with (first | (go_at_call 75; refine HL.out.mono ?_; rintro e w1 ⟨a, rfl, HN1, HB1⟩) | fail)
      go_ret
      exact ⟨a, rfl, by rw [HE.out]; exact HN1, HB1⟩
    · have hni : ¬ (n : Int) ≤ 16 := by omega
      obtain ⟨h, hh⟩ : ∃ h, h = (n + 15) / 16 / 2 * 16 := ⟨_, rfl⟩
      have hh1 : 16 ≤ h := by omega
      have hh2 : h < n := by omega
      have q1 : IntKind.i64.wrap ((n : Int) + 16) = (n : Int) + 16 := IntWalk.i64_in _ (by omega)
      have hq : ((n : Int) + 16 - 1) / 16 / 2 * 16 = (h : Int) := by omega
      have hhi : (h : Int) ≤ (n : Int) := by omega
      have hhc : (h : Int) ≤ (c : Int) := by omega
      have hh0 : (0 : Int) ≤ (h : Int) := by omega
      have hnc : (n : Int) ≤ (c : Int) := by omega
      have hch : ¬ c = h := by omega
      have ht : (l.take h).length = h := by rw [List.length_take]; omega
      have hd : (l.drop h).length = n - h := by rw [List.length_drop]; omega
      have HE : Hid (bld (g + 1) l = .fork (bld g (l.take h)) (bld g (l.drop h))) := Lib.hid (by rw [bld, if_neg (by omega), ← hn, ← hh])
      have D1 := bld_depth g (l.take h) (by omega) (by omega)
      have D2 := bld_depth g (l.drop h) (by omega) (by omega)
      have L1 : (bld g (l.take h)).list.length = h := by rw [bld_list, ht]
      have L2 : (bld g (l.drop h)).list.length = n - h := by rw [bld_list, hd]
      have HL : Hid ((bld g (l.take h)).list.length + (bld g (l.drop h)).list.length ≤ 4000000000000000000) := Lib.hid (by omega)
      have HD1 : Hid ((bld g (l.take h)).depth ≤ 1000000) := Lib.hid (by omega)
      have HD2 : Hid ((bld g (l.drop h)).depth ≤ 1000000) := Lib.hid (by omega)
      have B1 : Hid (∀ w', Below w.heap.size w w' → Calls Try.prog 47 #[.slice (some ⟨b, o, none⟩) h c] w' (fun r w1 => ∃ a, r = .returned (.pointer a) ∧ Hid (Nd encI w1 a (bld g (l.take h))) ∧ Hid (Below w.heap.size w w1))) := Lib.hid fun w' hw => by
        have := ih b o c (l.take h) w' (by omega) (by omega) (Nat.lt_of_lt_of_le hb hw.size) (by omega) (by omega) (Lib.hid fun j x hx => (hw.cell (p := ⟨b, o + j, none⟩) hb).trans (hcells.out j x (by
          rw [List.getElem?_take] at hx
          split at hx
          · exact hx
          · cases hx)))
        rw [ht] at this
        refine this.mono ?_
        rintro r w1 ⟨a, rfl, h1, h2⟩
        exact ⟨a, rfl, h1, Lib.hid (hw.trans (h2.out.mono hw.size))⟩
      have B2 : Hid (∀ w', Below w.heap.size w w' → Calls Try.prog 47 #[.slice (some ⟨b, o + h, none⟩) (n - h) (c - h)] w' (fun r w1 => ∃ a, r = .returned (.pointer a) ∧ Hid (Nd encI w1 a (bld g (l.drop h))) ∧ Hid (Below w.heap.size w w1) ∧ Hid (Below w'.heap.size w' w1))) := Lib.hid fun w' hw => by
        have := ih b (o + h) (c - h) (l.drop h) w' (by omega) (by omega) (Nat.lt_of_lt_of_le hb hw.size) (by omega) (by omega) (Lib.hid fun j x hx => by
          rw [Nat.add_assoc]
          exact (hw.cell (p := ⟨b, o + (h + j), none⟩) hb).trans (hcells.out (h + j) x (by rw [List.getElem?_drop] at hx; exact hx)))
        rw [hd] at this
        refine this.mono ?_
        rintro r w1 ⟨a, rfl, h1, h2⟩
        exact ⟨a, rfl, h1, Lib.hid (hw.trans (h2.out.mono hw.size)), h2⟩
      clear ih hcells ht hd D1 D2 L1 L2 hn hh
      go_enter Try.func47, Try.ntmps47
      go_wp2_with fail
      clear hq q1
      go_region_held3 (fun w' => Hid (Below w.heap.size w w'))
        (first | exact HB3' | exact HB2 | exact HB1 | exact Lib.hid (Below.refl _ _) | exact Lib.hid (Below.refl _ _).drew | assumption)
        (first
        | (go_at_call 76; have hmark := HB2.out; refine (pforkI_any _ _ _ _ _ HM1.out HN2.out HL.out HD1.out HD2.out).mono ?_; rintro e w3 ⟨a3, rfl, HN3, HB3⟩; have HB3' := Lib.hid (HB2.out.trans (HB3.out.mono HB2.out.size)))
        | (go_at_call 47; have hmark := HB1.out; refine (B2.out _ HB1.out).mono ?_; rintro e w2 ⟨a2, rfl, HN2, HB2, HB12⟩; have HM1 := Lib.hid (HN1.out.later HB12.out))
        | (go_at_call 47; refine (B1.out _ (by first | exact (Below.refl _ _).drew | exact Below.refl _ _)).mono ?_; rintro e w1 ⟨a1, rfl, HN1, HB1⟩)
        | fail)
      go_wp2
      go_ret
      exact ⟨a3, rfl, by rw [HE.out]; exact HN3, HB3'⟩
end Go.Proofs.Ytamcobncfbjdmaa
