/- The small methods of a node of string. -/
import Derived.Test.YtamcobncfbjdmaaRm
namespace Go.Proofs.Ytamcobncfbjdmaa
open Go.RowKit

abbrev encS : ByteArray → Value := Value.string

theorem plenS_any (a : Option Addr) (o : Option (Rp ByteArray)) (w : World) (h : On encS w a o) : Calls Try.prog 74 #[.pointer a] w (fun e w' => e = .returned (.int .i64 (listO o).length) ∧ w' = w) := by
  cases o with
  | none =>
    obtain rfl : a = none := h
    go_enter Try.func74, Try.ntmps74
    go_wp2
    go_ret
    exact ⟨rfl, rfl⟩
  | some t =>
    obtain ⟨b, rfl, _, c0, _⟩ := Nd.head (show Nd encS w a t from h)
    obtain ⟨n, hn⟩ : ∃ n, n = t.list.length := ⟨_, rfl⟩
    have HN := Lib.hid (show (listO (some t)).length = n from hn.symm)
    rw [← hn] at c0
    clear hn h
    go_enter Try.func74, Try.ntmps74
    go_wp2
    go_ret
    exact ⟨by rw [HN.out]; rfl, rfl⟩

theorem pleafpS_any (a : Option Addr) (l : List ByteArray) (w : World) (h : Nd encS w a (.leaf l)) : Calls Try.prog 91 #[.pointer a] w (fun e w' => e = .returned (.bool true) ∧ w' = w) := by
  obtain ⟨b, e, rfl, _, c2, _⟩ := h.leaf2
  clear h
  go_enter Try.func91, Try.ntmps91
  go_wp2
  go_ret
  exact ⟨by simp, rfl⟩
theorem pforkpS_any (a : Option Addr) (p q : Rp ByteArray) (w : World) (h : Nd encS w a (.fork p q)) : Calls Try.prog 91 #[.pointer a] w (fun e w' => e = .returned (.bool false) ∧ w' = w) := by
  obtain ⟨b, a1, a2, rfl, c2, _⟩ := h.fork2
  clear h
  go_enter Try.func91, Try.ntmps91
  go_wp2
  go_ret
  exact ⟨by simp, rfl⟩

set_option maxHeartbeats 1600000 in
theorem plistS_any (b e : Nat) (n : Nat) (w : World) (c0 : w.cell? ⟨b, 0, none⟩ = some (.int .i64 n)) (c2 : w.cell? ⟨b, 2, none⟩ = some (.pointer (some ⟨e, 0, none⟩))) (hn : n ≤ 16) :
    Calls Try.prog 92 #[.pointer (some ⟨b, 0, none⟩)] w (fun r w' => r = .returned (.slice (some ⟨e, 0, none⟩) n 16) ∧ Below w.heap.size w w') := by
  have hni : (n : Int) ≤ 16 := by omega
  have hn0 : (0 : Int) ≤ (n : Int) := by omega
  go_enter Try.func92, Try.ntmps92
  go_wp2
  go_quiet (fail)
  go_wp2
  go_ret
  exact ⟨by simp, below_drewN (Below.refl _ _) _⟩

set_option maxHeartbeats 6400000 in
set_option maxRecDepth 100000 in
theorem pforkS_any (a1 a2 : Option Addr) (p q : Rp ByteArray) (w : World) (hp : Nd encS w a1 p) (hq : Nd encS w a2 q) (hl : p.list.length + q.list.length ≤ 4000000000000000000) (hd : p.depth ≤ 1000000) (hd' : q.depth ≤ 1000000) :
    Calls Try.prog 89 #[.pointer a1, .pointer a2] w (fun r w' => ∃ a, r = .returned (.pointer a) ∧ Hid (Nd encS w' a (.fork p q)) ∧ Hid (Below w.heap.size w w')) := by
  obtain ⟨b1, rfl, hb1, c0, c1⟩ := hp.head
  obtain ⟨b2, rfl, hb2, d0, d1⟩ := hq.head
  have HP := Lib.hid hp
  have HQ := Lib.hid hq
  clear hp hq
  obtain ⟨n, hn⟩ : ∃ n, n = p.list.length := ⟨_, rfl⟩
  obtain ⟨m, hm⟩ : ∃ m, m = q.list.length := ⟨_, rfl⟩
  obtain ⟨x, hx⟩ : ∃ x, x = p.depth := ⟨_, rfl⟩
  obtain ⟨y, hy⟩ : ∃ y, y = q.depth := ⟨_, rfl⟩
  rw [← hn, ← hm] at hl
  rw [← hx] at hd c1
  rw [← hy] at hd' d1
  rw [← hn] at c0
  rw [← hm] at d0
  have HN := Lib.hid hn
  have HM := Lib.hid hm
  have HX := Lib.hid hx
  have HY := Lib.hid hy
  clear hn hm hx hy
  have HW1 : Hid (IntKind.i64.wrap ((n : Int) + (m : Int)) = ((n + m : Nat) : Int)) := Lib.hid <| by rw [IntWalk.i64_in _ (by omega)]; omega
  have HW2 : Hid (IntKind.i64.wrap ((if x < y then (y : Int) else (x : Int)) + 1) = ((max x y + 1 : Nat) : Int)) := Lib.hid <| by
    rw [IntWalk.i64_in _ (by split <;> omega)]
    split <;> omega
  go_enter Try.func89, Try.ntmps89
  go_wp2
  go_region_held3 (fun w' => w'.cell? ⟨b1, 0, none⟩ = some (.int .i64 n) ∧ w'.cell? ⟨b1, 1, none⟩ = some (.int .i64 x) ∧ w'.cell? ⟨b2, 0, none⟩ = some (.int .i64 m) ∧ w'.cell? ⟨b2, 1, none⟩ = some (.int .i64 y))
    (first | exact ⟨c0, c1, d0, d1⟩ | exact ⟨(World.cell?_of_block (heap_alloc_old _ _ hb1)).trans c0, (World.cell?_of_block (heap_alloc_old _ _ hb1)).trans c1, (World.cell?_of_block (heap_alloc_old _ _ hb2)).trans d0, (World.cell?_of_block (heap_alloc_old _ _ hb2)).trans d1⟩ | go_keep)
    (fail)
  all_goals
    rw [HW1.out, HW2.out]
    obtain ⟨W, hW⟩ : ∃ W, W = (w.alloc (.cells #[.int .i64 ((n + m : Nat) : Int), .int .i64 ((max x y + 1 : Nat) : Int), .pointer none, .pointer (some ⟨b1, 0, none⟩), .pointer (some ⟨b2, 0, none⟩)] 124)).drew := ⟨_, rfl⟩
    have hb : Below w.heap.size w W := by rw [hW]; exact ((Below.refl _ _).alloc (Nat.le_refl _) _).drew
    have hN : Nd encS W (some ⟨w.heap.size, 0, none⟩) (.fork p q) := by
      have hc : ∀ j, j < 5 → W.cell? ⟨w.heap.size, j, none⟩ = (#[Value.int .i64 ((n + m : Nat) : Int), .int .i64 ((max x y + 1 : Nat) : Int), .pointer none, .pointer (some ⟨b1, 0, none⟩), .pointer (some ⟨b2, 0, none⟩)] : Array Value)[j]? := fun j _ => by
        rw [hW]
        exact World.cell?_alloc_at _ _ _ _ rfl
      refine ⟨w.heap.size, some ⟨b1, 0, none⟩, some ⟨b2, 0, none⟩, rfl, by rw [hW]; show w.heap.size < (w.alloc _).heap.size; simp, ?_, ?_, ?_, ?_, ?_, HP.out.later hb, HQ.out.later hb⟩
      · rw [hc 0 (by omega), ← HN.out, ← HM.out]; rfl
      · rw [hc 1 (by omega), ← HX.out, ← HY.out]; rfl
      · rw [hc 2 (by omega)]; rfl
      · rw [hc 3 (by omega)]; rfl
      · rw [hc 4 (by omega)]; rfl
    rw [← hW]
    have HND := Lib.hid hN
    have HBB := Lib.hid hb
    clear hW hN hb
    go_wp2
    all_goals (go_ret; exact ⟨_, rfl, HND, HBB⟩)
end Go.Proofs.Ytamcobncfbjdmaa
