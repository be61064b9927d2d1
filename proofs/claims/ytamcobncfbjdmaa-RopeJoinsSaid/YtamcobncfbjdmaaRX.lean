/- RopeJoins: the three ropes, and both ways to join them. -/
import Derived.Test.YtamcobncfbjdmaaRV
import Derived.Test.YtamcobncfbjdmaaRTB
import Derived.Test.YtamcobncfbjdmaaRW
import Derived.Deep.RegionHeld3
namespace Go.Proofs.Ytamcobncfbjdmaa
open Go.RowKit Go.Shelf Go.BigFrame
attribute [local go_sem] Oper.semAt_some

/-- Concat of three lists. -/
theorem pConcat3_any (g n1 n2 n3 c1 c2 c3 : Nat) (p1 p2 p3 : Option Addr) (l1 l2 l3 : List Int) (w : World) (hg : g < w.heap.size) (k0 : w.cell? ⟨g, 0, none⟩ = some (.slice p1 n1 c1)) (k1 : w.cell? ⟨g, 1, none⟩ = some (.slice p2 n2 c2)) (k2 : w.cell? ⟨g, 2, none⟩ = some (.slice p3 n3 c3))
    (h1 : n1 = l1.length) (h2 : n2 = l2.length) (h3 : n3 = l3.length) (q1 : SqL w p1 l1) (q2 : SqL w p2 l2) (q3 : SqL w p3 l3) (z1 : p1 = none → c1 = 0) (z2 : p2 = none → c2 = 0) (z3 : p3 = none → c3 = 0) (hs : n1 + n2 + n3 ≤ 1000000) :
    Calls Try.prog 34 #[.slice (some ⟨g, 0, none⟩) 3 3] w (fun r w' => ∃ p c, r = .returned (.slice p (l1 ++ l2 ++ l3).length c) ∧ Hid (SqL w' p (l1 ++ l2 ++ l3)) ∧ Hid (Below w.heap.size w w')) := by
  have := pConcat_any 3 3 g (fun | 0 => p1 | 1 => p2 | _ => p3) (fun | 0 => n1 | 1 => n2 | _ => n3) (fun | 0 => c1 | 1 => c2 | _ => c3) (fun | 0 => l1 | 1 => l2 | _ => l3) w (by omega) hg
    (fun j hj => match j, hj with | 0, _ => k0 | 1, _ => k1 | 2, _ => k2 | j + 3, h => absurd h (by omega))
    (fun j hj => match j, hj with | 0, _ => ⟨h1, q1, z1⟩ | 1, _ => ⟨h2, q2, z2⟩ | 2, _ => ⟨h3, q3, z3⟩ | j + 3, h => absurd h (by omega))
    (by simp only [sumN]; omega)
  simp only [catN, List.nil_append] at this
  exact this.mono fun r w' ⟨p, c, h, _, h4, h5⟩ => ⟨p, c, h, h4, h5⟩
theorem keep3s {W4 : World} {b1 b2 b3 : Nat} {v1 v2 v3 : Value} {w1 : World} {B : Nat} (h : w1.cell? ⟨b1, 0, none⟩ = some v1 ∧ w1.cell? ⟨b2, 0, none⟩ = some v2 ∧ w1.cell? ⟨b3, 0, none⟩ = some v3 ∧ Hid ((b1 < W4.heap.size ∧ b2 < W4.heap.size ∧ b3 < W4.heap.size) ∧ Below W4.heap.size W4 w1)) (hB : W4.heap.size ≤ B) (v : Value) :
    (w1.setCell ⟨B, 0, none⟩ v).cell? ⟨b1, 0, none⟩ = some v1 ∧ (w1.setCell ⟨B, 0, none⟩ v).cell? ⟨b2, 0, none⟩ = some v2 ∧ (w1.setCell ⟨B, 0, none⟩ v).cell? ⟨b3, 0, none⟩ = some v3 ∧ Hid ((b1 < W4.heap.size ∧ b2 < W4.heap.size ∧ b3 < W4.heap.size) ∧ Below W4.heap.size W4 (w1.setCell ⟨B, 0, none⟩ v)) := by
  obtain ⟨h1, h2, h3, h4⟩ := h
  obtain ⟨⟨i1, i2, i3⟩, h5⟩ := h4.out
  exact ⟨(World.cell?_setCell_far _ _ _ _ (by show B ≠ b1; omega)).trans h1, (World.cell?_setCell_far _ _ _ _ (by show B ≠ b2; omega)).trans h2, (World.cell?_setCell_far _ _ _ _ (by show B ≠ b3; omega)).trans h3, Lib.hid ⟨⟨i1, i2, i3⟩, h5.setCell (p := ⟨B, 0, none⟩) hB v⟩⟩
theorem keep4 {W4 : World} {b1 b2 b3 b4 : Nat} {v1 v2 v3 v4 : Value} {w1 w2 : World} (hb : Below w1.heap.size w1 w2) (h : w1.cell? ⟨b1, 0, none⟩ = some v1 ∧ w1.cell? ⟨b2, 0, none⟩ = some v2 ∧ w1.cell? ⟨b3, 0, none⟩ = some v3 ∧ w1.cell? ⟨b4, 0, none⟩ = some v4 ∧ Hid ((b1 < W4.heap.size ∧ b2 < W4.heap.size ∧ b3 < W4.heap.size ∧ b4 < W4.heap.size) ∧ Below W4.heap.size W4 w1)) :
    w2.cell? ⟨b1, 0, none⟩ = some v1 ∧ w2.cell? ⟨b2, 0, none⟩ = some v2 ∧ w2.cell? ⟨b3, 0, none⟩ = some v3 ∧ w2.cell? ⟨b4, 0, none⟩ = some v4 ∧ Hid ((b1 < W4.heap.size ∧ b2 < W4.heap.size ∧ b3 < W4.heap.size ∧ b4 < W4.heap.size) ∧ Below W4.heap.size W4 w2) := by
  obtain ⟨h1, h2, h3, h4, h5⟩ := h
  obtain ⟨⟨l1, l2, l3, l4⟩, h6⟩ := h5.out
  have hs := h6.size
  exact ⟨(hb.cell (p := ⟨b1, 0, none⟩) (by show b1 < w1.heap.size; omega)).trans h1, (hb.cell (p := ⟨b2, 0, none⟩) (by show b2 < w1.heap.size; omega)).trans h2, (hb.cell (p := ⟨b3, 0, none⟩) (by show b3 < w1.heap.size; omega)).trans h3, (hb.cell (p := ⟨b4, 0, none⟩) (by show b4 < w1.heap.size; omega)).trans h4, Lib.hid ⟨⟨l1, l2, l3, l4⟩, h6.trans (hb.mono hs)⟩⟩
theorem below4 {W4 : World} {b1 b2 b3 b4 : Nat} {v1 v2 v3 v4 : Value} {w1 : World} (h : w1.cell? ⟨b1, 0, none⟩ = some v1 ∧ w1.cell? ⟨b2, 0, none⟩ = some v2 ∧ w1.cell? ⟨b3, 0, none⟩ = some v3 ∧ w1.cell? ⟨b4, 0, none⟩ = some v4 ∧ Hid ((b1 < W4.heap.size ∧ b2 < W4.heap.size ∧ b3 < W4.heap.size ∧ b4 < W4.heap.size) ∧ Below W4.heap.size W4 w1)) : Below W4.heap.size W4 w1 := h.2.2.2.2.out.2
theorem abstrH {P : Program} {md : Region.Mode} {ops : Array Oper} {Q : Exit → Act → World → Prop} {S : World → Prop} {fuel : Nat} {listed : Array Bool} {a : Act} {w : World} (h : ∀ ops' Q', ops' = ops → Q' = Q → wpAnyH P md ops' Q' S fuel listed a w) : wpAnyH P md ops Q S fuel listed a w := h _ _ rfl rfl
theorem boxOn {X Y : World} {B : Nat} {t : TypeId} {v : Value} (h : Boxed X B t v) (hb : Below X.heap.size X Y) : Boxed Y B t v := (hb.block _ h.lt).trans h

set_option maxRecDepth 100000 in
set_option maxHeartbeats 25600000 in
theorem joinsA_any (p pm pk : Option Addr) (c cm ck n m k : Nat) (l1 l2 l3 : List Int) (ia jf jt : Int) (w : World) (hn : n = l1.length) (hm : m = l2.length) (hk : k = l3.length) (hq : SqL w p l1) (hqm : SqL w pm l2) (hqk : SqL w pk l3) (hc : n ≤ c) (hcm : m ≤ cm) (hck : k ≤ ck) (hl : n ≤ 300) (hl2 : m ≤ 300) (hl3 : k ≤ 300) (hz : p = none → c = 0) (hzm : pm = none → cm = 0) (hzk : pk = none → ck = 0) (hia : 0 ≤ ia ∧ ia ≤ 65535) (hjf : 0 ≤ jf ∧ jf ≤ 65535) (hjt : 0 ≤ jt ∧ jt ≤ 65535) :
    Calls Try.prog 7 #[.slice p n c, .slice pm m cm, .slice pk k ck, .int .u16 ia, .int .u16 jf, .int .u16 jt] w (fun r w' => r = .returned (.bool true) ∧ Hid (Below w.heap.size w w')) := by
  have C1 := Lib.hid (ofArg_any p n c l1 w hn hq hc (by omega))
  have C2 : Hid (∀ w', Below w.heap.size w w' → Calls Try.prog 12 #[.slice pm m cm] w' (fun r w'' => ∃ a, r = .returned (.agg #[.pointer a]) ∧ Hid (Holds w'' a l2) ∧ Hid (Below w'.heap.size w' w''))) := Lib.hid fun w' h => ofArg_any pm m cm l2 w' hm (hqm.later h) hcm (by omega)
  have C3 : Hid (∀ w', Below w.heap.size w w' → Calls Try.prog 12 #[.slice pk k ck] w' (fun r w'' => ∃ a, r = .returned (.agg #[.pointer a]) ∧ Hid (Holds w'' a l3) ∧ Hid (Below w'.heap.size w' w''))) := Lib.hid fun w' h => ofArg_any pk k ck l3 w' hk (hqk.later h) hck (by omega)
  have J1 : Hid (∀ a b w', Holds w' a l1 → Holds w' b l2 → Calls Try.prog 29 #[.agg #[.pointer a], .agg #[.pointer b]] w' (fun r w'' => ∃ c, r = .returned (.agg #[.pointer c]) ∧ Hid (Holds w'' c (l1 ++ l2)) ∧ Hid (Below w'.heap.size w' w''))) := Lib.hid fun a b w' h1 h2 => pJoinI_any a b l1 l2 w' h1 h2 (by omega)
  have J2 : Hid (∀ a b w', Holds w' a (l1 ++ l2) → Holds w' b l3 → Calls Try.prog 29 #[.agg #[.pointer a], .agg #[.pointer b]] w' (fun r w'' => ∃ c, r = .returned (.agg #[.pointer c]) ∧ Hid (Holds w'' c (l1 ++ l2 ++ l3)) ∧ Hid (Below w'.heap.size w' w''))) := Lib.hid fun a b w' h1 h2 => pJoinI_any a b _ _ w' h1 h2 (by rw [List.length_append]; omega)
  have J3 : Hid (∀ a b w', Holds w' a l2 → Holds w' b l3 → Calls Try.prog 29 #[.agg #[.pointer a], .agg #[.pointer b]] w' (fun r w'' => ∃ c, r = .returned (.agg #[.pointer c]) ∧ Hid (Holds w'' c (l2 ++ l3)) ∧ Hid (Below w'.heap.size w' w''))) := Lib.hid fun a b w' h1 h2 => pJoinI_any a b _ _ w' h1 h2 (by omega)
  have J4 : Hid (∀ a b w', Holds w' a l1 → Holds w' b (l2 ++ l3) → Calls Try.prog 29 #[.agg #[.pointer a], .agg #[.pointer b]] w' (fun r w'' => ∃ c, r = .returned (.agg #[.pointer c]) ∧ Hid (Holds w'' c (l1 ++ (l2 ++ l3))) ∧ Hid (Below w'.heap.size w' w''))) := Lib.hid fun a b w' h1 h2 => pJoinI_any a b _ _ w' h1 h2 (by rw [List.length_append]; omega)
  have CC : Hid (∀ g w', Below w.heap.size w w' → g < w'.heap.size → w'.cell? ⟨g, 0, none⟩ = some (.slice p n c) → w'.cell? ⟨g, 1, none⟩ = some (.slice pm m cm) → w'.cell? ⟨g, 2, none⟩ = some (.slice pk k ck) → Calls Try.prog 34 #[.slice (some ⟨g, 0, none⟩) 3 3] w' (fun r w'' => ∃ q cq, r = .returned (.slice q (l1 ++ l2 ++ l3).length cq) ∧ Hid (SqL w'' q (l1 ++ l2 ++ l3)) ∧ Hid (Below w'.heap.size w' w''))) := Lib.hid fun g w' h hg k0 k1 k2 => pConcat3_any g n m k c cm ck p pm pk l1 l2 l3 w' hg k0 k1 k2 hn hm hk (hq.later h) (hqm.later h) (hqk.later h) hz hzm hzk (by omega)
  have hlen : (l1 ++ l2 ++ l3).length ≤ 900 := by rw [List.length_append, List.length_append]; omega
  obtain ⟨La, hLa⟩ : ∃ L, L = l1 ++ l2 := ⟨_, rfl⟩
  obtain ⟨Lb, hLb⟩ : ∃ L, L = l2 ++ l3 := ⟨_, rfl⟩
  rw [← hLa] at J1 J2
  rw [← hLb] at J3 J4
  obtain ⟨Lx, hLx⟩ : ∃ L, L = La ++ l3 := ⟨_, rfl⟩
  obtain ⟨Ly, hLy⟩ : ∃ L, L = l1 ++ Lb := ⟨_, rfl⟩
  rw [← hLx] at J2
  rw [← hLy] at J4
  have HXY : Hid (Ly = Lx) := Lib.hid (by rw [hLx, hLy, hLa, hLb, List.append_assoc])
  rw [← hLa, ← hLx] at CC hlen
  obtain ⟨NX, hNX⟩ : ∃ N, N = Lx.length := ⟨_, rfl⟩
  rw [← hNX] at CC hlen
  have HNX := Lib.hid hNX
  clear hLa hLb hLx hLy hNX
  have hni : ¬ (300 : Int) < (n : Int) := by omega
  have hmi : ¬ (300 : Int) < (m : Int) := by omega
  have hki : ¬ (300 : Int) < (k : Int) := by omega
  clear hn hm hk hq hqm hqk hc hcm hck hl hl2 hl3 hz hzm hzk
  go_enter Try.func7, Try.ntmps7
  go_wp2_with (first
    | (go_at_call 12; have hmark := HB2.out; refine (C3.out _ HB2.out).mono ?_; rintro r w3 ⟨d, rfl, HL3, HB3'⟩; have HB3 := Lib.hid (HB2.out.trans (HB3'.out.mono HB2.out.size)); have HL13 := Lib.hid (HL12.out.later HB3'.out); have HL23 := Lib.hid (HL2.out.later HB3'.out))
    | (go_at_call 12; have hmark := HB1.out; refine (C2.out _ HB1.out).mono ?_; rintro r w2 ⟨b, rfl, HL2, HB2'⟩; have HB2 := Lib.hid (HB1.out.trans (HB2'.out.mono HB1.out.size)); have HL12 := Lib.hid (HL1.out.later HB2'.out))
    | (go_at_call 12; refine C1.out.mono ?_; rintro r w1 ⟨a, rfl, HL1, HB1⟩)
    | fail)
  rename_i KA hKA
  obtain ⟨W4, hW4⟩ : ∃ W4, W4 = ((w3.alloc (.cells #[.pointer a] 28)).alloc (.cells #[.pointer b] 28)).alloc (.cells #[.pointer d] 28) := ⟨_, rfl⟩
  have hb4 : Below w3.heap.size w3 W4 := by rw [hW4]; exact (((Below.refl _ _).alloc (Nat.le_refl _) _).alloc (by simp) _).alloc (by simp; omega) _
  have sW : W4.heap.size = w3.heap.size + 3 := by rw [hW4]; simp
  have KB := box3 w3 (.cells #[.pointer a] 28) (.cells #[.pointer b] 28) (.cells #[.pointer d] 28)
  rw [← hW4] at KB ⊢
  have HBW := Lib.hid (HB3.out.trans (hb4.mono HB3.out.size))
  have HL14 := Lib.hid (HL13.out.later hb4)
  have HL24 := Lib.hid (HL23.out.later hb4)
  have HL34 := Lib.hid (HL3.out.later hb4)
  have hSd : (W4.drew.cell? ⟨w3.heap.size, 0, none⟩ = some (.pointer a) ∧ W4.drew.cell? ⟨w3.heap.size + 1, 0, none⟩ = some (.pointer b) ∧ W4.drew.cell? ⟨w3.heap.size + 1 + 1, 0, none⟩ = some (.pointer d) ∧ Hid ((w3.heap.size < W4.heap.size ∧ w3.heap.size + 1 < W4.heap.size ∧ w3.heap.size + 1 + 1 < W4.heap.size) ∧ Below W4.heap.size W4 W4.drew)) := ⟨by have := cell_of KB.1; go_simp, by have := cell_of KB.2.1; go_simp, by have := cell_of KB.2.2; go_simp, Lib.hid ⟨⟨by omega, by omega, by omega⟩, (Below.refl _ _).drew⟩⟩
  clear hW4 hb4 sW KB HB1 HB2 HB3 HB2' HB3' HL1 HL2 HL3 HL12 HL13 HL23 C1 C2 C3
  refine Code.wp_mono (Q := fun e a' w' => match e with | .normal => ∃ (B1 B2 : Nat) (ab x bd y : Option Addr), a' = { tmps := #[.slice p n c, .slice pm m cm, .slice pk k ck, .int .u16 ia, .int .u16 jf, .int .u16 jt, undef, undef, undef, undef, undef, undef, .bool false, .pointer (some ⟨w3.heap.size, 0, none⟩), .pointer (some ⟨w3.heap.size + 1, 0, none⟩), .pointer (some ⟨w3.heap.size + 1 + 1, 0, none⟩), .pointer (some ⟨B1, 0, none⟩), .pointer (some ⟨B2, 0, none⟩), undef, undef, undef, undef, undef, undef, .slice p n c, .int .i64 n, .bool false, .bool false, .slice pm m cm, .int .i64 m, .bool false, .bool false, .bool false, .slice pk k ck, .int .i64 k, .bool false, .bool false, undef, .slice p n c, .agg #[.pointer a], .slice pm m cm, .agg #[.pointer b], .slice pk k ck, .agg #[.pointer d], .agg #[.pointer a], .agg #[.pointer b], .agg #[.pointer ab], .agg #[.pointer d], .agg #[.pointer x], .agg #[.pointer a], .agg #[.pointer b], .agg #[.pointer d], .agg #[.pointer bd], .agg #[.pointer y], undef, undef, undef, undef, undef, undef, undef, undef, undef, undef, undef, undef, undef, undef, undef, undef, undef, undef, undef, undef, undef, undef, undef, undef, undef, undef, undef, undef, undef, undef, undef, undef, undef, undef, undef, undef, undef, undef, undef, undef, undef, undef, undef, undef, undef, undef, undef, undef, undef, undef, undef, undef, undef, undef, undef, undef, undef, undef, undef, undef, undef, undef, undef, undef, undef, undef, undef, undef, undef, undef, undef, undef, undef, undef, undef, undef, undef, undef, undef], defers := [] } ∧ Hid (Boxed w' B1 28 (.pointer x)) ∧ Hid (Boxed w' B2 28 (.pointer y)) ∧ Hid (Holds w' x Lx) ∧ Hid (Holds w' y Ly) ∧ Hid (Below W4.heap.size W4 w') | _ => False) ?_ ?reg
  case reg =>
    clear hKA
    refine wp_region_held_drew (S := fun w' => (w'.cell? ⟨w3.heap.size, 0, none⟩ = some (.pointer a) ∧ w'.cell? ⟨w3.heap.size + 1, 0, none⟩ = some (.pointer b) ∧ w'.cell? ⟨w3.heap.size + 1 + 1, 0, none⟩ = some (.pointer d) ∧ Hid ((w3.heap.size < W4.heap.size ∧ w3.heap.size + 1 < W4.heap.size ∧ w3.heap.size + 1 + 1 < W4.heap.size) ∧ Below W4.heap.size W4 w'))) (by kernel_rfl) hSd (fun hHeld => ?_)
    refine wpAnyH_take (i := 0) (v := .agg #[.pointer a]) rfl (by kernel_rfl) (by kernel_rfl) (by kernel_rfl) (fun _ _ _ h => h) (Or.inl ⟨by rfl, by intro w hS; obtain ⟨z1, z2, z3, _⟩ := hS; go_simp⟩) hHeld ?_
    go_simp
    refine wpAnyH_take (i := 1) (v := .agg #[.pointer b]) rfl (by kernel_rfl) (by kernel_rfl) (by kernel_rfl) (fun _ _ _ h => h) (Or.inl ⟨by rfl, by intro w hS; obtain ⟨z1, z2, z3, _⟩ := hS; go_simp⟩) hHeld ?_
    go_simp
    refine wpAnyH_take (i := 3) (v := .agg #[.pointer d]) rfl (by kernel_rfl) (by kernel_rfl) (by kernel_rfl) (fun _ _ _ h => h) (Or.inl ⟨by rfl, by intro w hS; obtain ⟨z1, z2, z3, _⟩ := hS; go_simp⟩) hHeld ?_
    go_simp
    refine wpAnyH_take (i := 5) (v := .agg #[.pointer a]) rfl (by kernel_rfl) (by kernel_rfl) (by kernel_rfl) (fun _ _ _ h => h) (Or.inl ⟨by rfl, by intro w hS; obtain ⟨z1, z2, z3, _⟩ := hS; go_simp⟩) hHeld ?_
    go_simp
    refine wpAnyH_take (i := 6) (v := .agg #[.pointer b]) rfl (by kernel_rfl) (by kernel_rfl) (by kernel_rfl) (fun _ _ _ h => h) (Or.inl ⟨by rfl, by intro w hS; obtain ⟨z1, z2, z3, _⟩ := hS; go_simp⟩) hHeld ?_
    go_simp
    refine wpAnyH_take (i := 7) (v := .agg #[.pointer d]) rfl (by kernel_rfl) (by kernel_rfl) (by kernel_rfl) (fun _ _ _ h => h) (Or.inl ⟨by rfl, by intro w hS; obtain ⟨z1, z2, z3, _⟩ := hS; go_simp⟩) hHeld ?_
    go_simp
    refine abstrH ?_
    intro ops Q hops hQ
    have G4111 : Hid (∀ (B1 B2 : Nat) (ab x bd y : Option Addr) (w' : World) (listed : Array Bool), listed = #[true, true, true, true, true, true, true, true, true, true, true, true, true, false] → (w'.cell? ⟨w3.heap.size, 0, none⟩ = some (.pointer a) ∧ w'.cell? ⟨w3.heap.size + 1, 0, none⟩ = some (.pointer b) ∧ w'.cell? ⟨w3.heap.size + 1 + 1, 0, none⟩ = some (.pointer d) ∧ Hid ((w3.heap.size < W4.heap.size ∧ w3.heap.size + 1 < W4.heap.size ∧ w3.heap.size + 1 + 1 < W4.heap.size) ∧ Below W4.heap.size W4 w')) → W4.heap.size ≤ B1 → Boxed w' B1 28 (.pointer x) → W4.heap.size ≤ B2 → Boxed w' B2 28 (.pointer none) → B1 ≠ B2 → Holds w' x Lx → Holds w' y Ly → wpAnyH Try.prog .any ops Q (fun w' => (w'.cell? ⟨w3.heap.size, 0, none⟩ = some (.pointer a) ∧ w'.cell? ⟨w3.heap.size + 1, 0, none⟩ = some (.pointer b) ∧ w'.cell? ⟨w3.heap.size + 1 + 1, 0, none⟩ = some (.pointer d) ∧ Hid ((w3.heap.size < W4.heap.size ∧ w3.heap.size + 1 < W4.heap.size ∧ w3.heap.size + 1 + 1 < W4.heap.size) ∧ Below W4.heap.size W4 w'))) 1 listed { tmps := #[.slice p n c, .slice pm m cm, .slice pk k ck, .int .u16 ia, .int .u16 jf, .int .u16 jt, undef, undef, undef, undef, undef, undef, .bool false, .pointer (some ⟨w3.heap.size, 0, none⟩), .pointer (some ⟨w3.heap.size + 1, 0, none⟩), .pointer (some ⟨w3.heap.size + 1 + 1, 0, none⟩), .pointer (some ⟨B1, 0, none⟩), .pointer (some ⟨B2, 0, none⟩), undef, undef, undef, undef, undef, undef, .slice p n c, .int .i64 n, .bool false, .bool false, .slice pm m cm, .int .i64 m, .bool false, .bool false, .bool false, .slice pk k ck, .int .i64 k, .bool false, .bool false, undef, .slice p n c, .agg #[.pointer a], .slice pm m cm, .agg #[.pointer b], .slice pk k ck, .agg #[.pointer d], .agg #[.pointer a], .agg #[.pointer b], .agg #[.pointer ab], .agg #[.pointer d], .agg #[.pointer x], .agg #[.pointer a], .agg #[.pointer b], .agg #[.pointer d], .agg #[.pointer bd], .agg #[.pointer y], undef, undef, undef, undef, undef, undef, undef, undef, undef, undef, undef, undef, undef, undef, undef, undef, undef, undef, undef, undef, undef, undef, undef, undef, undef, undef, undef, undef, undef, undef, undef, undef, undef, undef, undef, undef, undef, undef, undef, undef, undef, undef, undef, undef, undef, undef, undef, undef, undef, undef, undef, undef, undef, undef, undef, undef, undef, undef, undef, undef, undef, undef, undef, undef, undef, undef, undef, undef, undef, undef, undef, undef, undef, undef, undef, undef, undef, undef, undef], defers := [] } w') := Lib.hid (by
      intro B1 B2 ab x bd y w' listed hl hS u1 v1 u2 v2 ne hx hy
      have Hv1 := Lib.hid v1
      have Hv2 := Lib.hid v2
      have Hhx := Lib.hid hx
      have Hhy := Lib.hid hy
      have Hu1 := Lib.hid u1
      have Hu2 := Lib.hid u2
      have Hne := Lib.hid ne
      have HS := Lib.hid hS
      clear u1 v1 u2 v2 ne hx hy
      refine wpAnyH_ready (rs := [13]) (by rw [hl, hops]; kernel_rfl) (by simp) ?_
      refine AllReadyH.cons (by rw [hops]; rfl) (fun K hK => ?_) ?_
      · have z1 := Hv2.out.cell
        have z2 := Hv2.out.frozen
        clear hS
        go_simp
        have hS2 := keep3s HS.out Hu2.out (.pointer y)
        refine hK.out _ _ hS2 (fun _ => ?_)
        refine wpAnyH_done (by rw [hl, hops]; kernel_rfl) ?_ _
        rw [hQ]
        exact ⟨B1, B2, ab, x, bd, y, rfl, Lib.hid (Hv1.out.other (by have := Hne.out; omega) _), Lib.hid (Hv2.out.set _), Lib.hid (Hhx.out.box _ Hv2.out), Lib.hid (Hhy.out.box _ Hv2.out), Lib.hid (below3 hS2)⟩
      exact AllReadyH.nil)
    have G4110 : Hid (∀ (B1 B2 : Nat) (ab x bd y : Option Addr) (w' : World) (listed : Array Bool), listed = #[true, true, true, true, true, true, true, true, true, true, true, true, false, false] → (w'.cell? ⟨w3.heap.size, 0, none⟩ = some (.pointer a) ∧ w'.cell? ⟨w3.heap.size + 1, 0, none⟩ = some (.pointer b) ∧ w'.cell? ⟨w3.heap.size + 1 + 1, 0, none⟩ = some (.pointer d) ∧ Hid ((w3.heap.size < W4.heap.size ∧ w3.heap.size + 1 < W4.heap.size ∧ w3.heap.size + 1 + 1 < W4.heap.size) ∧ Below W4.heap.size W4 w')) → W4.heap.size ≤ B1 → Boxed w' B1 28 (.pointer none) → W4.heap.size ≤ B2 → Boxed w' B2 28 (.pointer none) → B1 ≠ B2 → Holds w' x Lx → Holds w' y Ly → wpAnyH Try.prog .any ops Q (fun w' => (w'.cell? ⟨w3.heap.size, 0, none⟩ = some (.pointer a) ∧ w'.cell? ⟨w3.heap.size + 1, 0, none⟩ = some (.pointer b) ∧ w'.cell? ⟨w3.heap.size + 1 + 1, 0, none⟩ = some (.pointer d) ∧ Hid ((w3.heap.size < W4.heap.size ∧ w3.heap.size + 1 < W4.heap.size ∧ w3.heap.size + 1 + 1 < W4.heap.size) ∧ Below W4.heap.size W4 w'))) 2 listed { tmps := #[.slice p n c, .slice pm m cm, .slice pk k ck, .int .u16 ia, .int .u16 jf, .int .u16 jt, undef, undef, undef, undef, undef, undef, .bool false, .pointer (some ⟨w3.heap.size, 0, none⟩), .pointer (some ⟨w3.heap.size + 1, 0, none⟩), .pointer (some ⟨w3.heap.size + 1 + 1, 0, none⟩), .pointer (some ⟨B1, 0, none⟩), .pointer (some ⟨B2, 0, none⟩), undef, undef, undef, undef, undef, undef, .slice p n c, .int .i64 n, .bool false, .bool false, .slice pm m cm, .int .i64 m, .bool false, .bool false, .bool false, .slice pk k ck, .int .i64 k, .bool false, .bool false, undef, .slice p n c, .agg #[.pointer a], .slice pm m cm, .agg #[.pointer b], .slice pk k ck, .agg #[.pointer d], .agg #[.pointer a], .agg #[.pointer b], .agg #[.pointer ab], .agg #[.pointer d], .agg #[.pointer x], .agg #[.pointer a], .agg #[.pointer b], .agg #[.pointer d], .agg #[.pointer bd], .agg #[.pointer y], undef, undef, undef, undef, undef, undef, undef, undef, undef, undef, undef, undef, undef, undef, undef, undef, undef, undef, undef, undef, undef, undef, undef, undef, undef, undef, undef, undef, undef, undef, undef, undef, undef, undef, undef, undef, undef, undef, undef, undef, undef, undef, undef, undef, undef, undef, undef, undef, undef, undef, undef, undef, undef, undef, undef, undef, undef, undef, undef, undef, undef, undef, undef, undef, undef, undef, undef, undef, undef, undef, undef, undef, undef, undef, undef, undef, undef, undef, undef], defers := [] } w') := Lib.hid (by
      intro B1 B2 ab x bd y w' listed hl hS u1 v1 u2 v2 ne hx hy
      have Hv1 := Lib.hid v1
      have Hv2 := Lib.hid v2
      have Hhx := Lib.hid hx
      have Hhy := Lib.hid hy
      have Hu1 := Lib.hid u1
      have Hu2 := Lib.hid u2
      have Hne := Lib.hid ne
      have HS := Lib.hid hS
      clear u1 v1 u2 v2 ne hx hy
      refine wpAnyH_ready (rs := [12]) (by rw [hl, hops]; kernel_rfl) (by simp) ?_
      refine AllReadyH.cons (by rw [hops]; rfl) (fun K hK => ?_) ?_
      · have z1 := Hv1.out.cell
        have z2 := Hv1.out.frozen
        clear hS
        go_simp
        have hS2 := keep3s HS.out Hu1.out (.pointer x)
        refine hK.out _ _ hS2 (fun _ => ?_)
        exact G4111.out B1 B2 ab x bd y _ _ (by rw [hl]; rfl) hS2 Hu1.out (Hv1.out.set _) Hu2.out (Hv2.out.other (by have := Hne.out; omega) _) Hne.out (Hhx.out.box _ Hv1.out) (Hhy.out.box _ Hv1.out)
      exact AllReadyH.nil)
    have G4100 : Hid (∀ (B1 : Nat) (ab x bd y : Option Addr) (w' : World) (listed : Array Bool), listed = #[true, true, true, true, true, true, true, true, true, true, true, false, false, false] → (w'.cell? ⟨w3.heap.size, 0, none⟩ = some (.pointer a) ∧ w'.cell? ⟨w3.heap.size + 1, 0, none⟩ = some (.pointer b) ∧ w'.cell? ⟨w3.heap.size + 1 + 1, 0, none⟩ = some (.pointer d) ∧ Hid ((w3.heap.size < W4.heap.size ∧ w3.heap.size + 1 < W4.heap.size ∧ w3.heap.size + 1 + 1 < W4.heap.size) ∧ Below W4.heap.size W4 w')) → W4.heap.size ≤ B1 → Boxed w' B1 28 (.pointer none) → Holds w' x Lx → Holds w' y Ly → wpAnyH Try.prog .any ops Q (fun w' => (w'.cell? ⟨w3.heap.size, 0, none⟩ = some (.pointer a) ∧ w'.cell? ⟨w3.heap.size + 1, 0, none⟩ = some (.pointer b) ∧ w'.cell? ⟨w3.heap.size + 1 + 1, 0, none⟩ = some (.pointer d) ∧ Hid ((w3.heap.size < W4.heap.size ∧ w3.heap.size + 1 < W4.heap.size ∧ w3.heap.size + 1 + 1 < W4.heap.size) ∧ Below W4.heap.size W4 w'))) 3 listed { tmps := #[.slice p n c, .slice pm m cm, .slice pk k ck, .int .u16 ia, .int .u16 jf, .int .u16 jt, undef, undef, undef, undef, undef, undef, .bool false, .pointer (some ⟨w3.heap.size, 0, none⟩), .pointer (some ⟨w3.heap.size + 1, 0, none⟩), .pointer (some ⟨w3.heap.size + 1 + 1, 0, none⟩), .pointer (some ⟨B1, 0, none⟩), undef, undef, undef, undef, undef, undef, undef, .slice p n c, .int .i64 n, .bool false, .bool false, .slice pm m cm, .int .i64 m, .bool false, .bool false, .bool false, .slice pk k ck, .int .i64 k, .bool false, .bool false, undef, .slice p n c, .agg #[.pointer a], .slice pm m cm, .agg #[.pointer b], .slice pk k ck, .agg #[.pointer d], .agg #[.pointer a], .agg #[.pointer b], .agg #[.pointer ab], .agg #[.pointer d], .agg #[.pointer x], .agg #[.pointer a], .agg #[.pointer b], .agg #[.pointer d], .agg #[.pointer bd], .agg #[.pointer y], undef, undef, undef, undef, undef, undef, undef, undef, undef, undef, undef, undef, undef, undef, undef, undef, undef, undef, undef, undef, undef, undef, undef, undef, undef, undef, undef, undef, undef, undef, undef, undef, undef, undef, undef, undef, undef, undef, undef, undef, undef, undef, undef, undef, undef, undef, undef, undef, undef, undef, undef, undef, undef, undef, undef, undef, undef, undef, undef, undef, undef, undef, undef, undef, undef, undef, undef, undef, undef, undef, undef, undef, undef, undef, undef, undef, undef, undef, undef], defers := [] } w') := Lib.hid (by
      intro B1 ab x bd y w' listed hl hS u1 v1 hx hy
      have Hv1 := Lib.hid v1
      have Hhx := Lib.hid hx
      have Hhy := Lib.hid hy
      have Hu1 := Lib.hid u1
      have HS := Lib.hid hS
      clear u1 v1 hx hy
      refine wpAnyH_ready (rs := [11]) (by rw [hl, hops]; kernel_rfl) (by simp) ?_
      refine AllReadyH.cons (by rw [hops]; rfl) (fun K hK => ?_) ?_
      · obtain ⟨z1, z2, z3, _⟩ := hS
        have hb : Below w'.heap.size w' (w'.alloc (.cells #[.pointer none] 28)) := (Below.refl _ _).alloc (Nat.le_refl _) _
        have HBA := Lib.hid hb
        clear hb
        go_simp
        have hS2 := keep3 HBA.out HS.out
        have hle : W4.heap.size ≤ w'.heap.size := (below3 HS.out).size
        refine hK.out _ _ hS2 (fun _ => ?_)
        exact G4110.out B1 w'.heap.size ab x bd y _ _ (by rw [hl]; rfl) hS2 Hu1.out (boxOn Hv1.out HBA.out) hle (Boxed.new w' 28 (.pointer none)) (Nat.ne_of_lt Hv1.out.lt) (Hhx.out.later HBA.out) (Hhy.out.later HBA.out)
      exact AllReadyH.nil)
    have G4010 : Hid (∀ (B2 : Nat) (ab x bd y : Option Addr) (w' : World) (listed : Array Bool), listed = #[true, true, true, true, true, true, true, true, true, true, false, true, false, false] → (w'.cell? ⟨w3.heap.size, 0, none⟩ = some (.pointer a) ∧ w'.cell? ⟨w3.heap.size + 1, 0, none⟩ = some (.pointer b) ∧ w'.cell? ⟨w3.heap.size + 1 + 1, 0, none⟩ = some (.pointer d) ∧ Hid ((w3.heap.size < W4.heap.size ∧ w3.heap.size + 1 < W4.heap.size ∧ w3.heap.size + 1 + 1 < W4.heap.size) ∧ Below W4.heap.size W4 w')) → W4.heap.size ≤ B2 → Boxed w' B2 28 (.pointer none) → Holds w' x Lx → Holds w' y Ly → wpAnyH Try.prog .any ops Q (fun w' => (w'.cell? ⟨w3.heap.size, 0, none⟩ = some (.pointer a) ∧ w'.cell? ⟨w3.heap.size + 1, 0, none⟩ = some (.pointer b) ∧ w'.cell? ⟨w3.heap.size + 1 + 1, 0, none⟩ = some (.pointer d) ∧ Hid ((w3.heap.size < W4.heap.size ∧ w3.heap.size + 1 < W4.heap.size ∧ w3.heap.size + 1 + 1 < W4.heap.size) ∧ Below W4.heap.size W4 w'))) 3 listed { tmps := #[.slice p n c, .slice pm m cm, .slice pk k ck, .int .u16 ia, .int .u16 jf, .int .u16 jt, undef, undef, undef, undef, undef, undef, .bool false, .pointer (some ⟨w3.heap.size, 0, none⟩), .pointer (some ⟨w3.heap.size + 1, 0, none⟩), .pointer (some ⟨w3.heap.size + 1 + 1, 0, none⟩), undef, .pointer (some ⟨B2, 0, none⟩), undef, undef, undef, undef, undef, undef, .slice p n c, .int .i64 n, .bool false, .bool false, .slice pm m cm, .int .i64 m, .bool false, .bool false, .bool false, .slice pk k ck, .int .i64 k, .bool false, .bool false, undef, .slice p n c, .agg #[.pointer a], .slice pm m cm, .agg #[.pointer b], .slice pk k ck, .agg #[.pointer d], .agg #[.pointer a], .agg #[.pointer b], .agg #[.pointer ab], .agg #[.pointer d], .agg #[.pointer x], .agg #[.pointer a], .agg #[.pointer b], .agg #[.pointer d], .agg #[.pointer bd], .agg #[.pointer y], undef, undef, undef, undef, undef, undef, undef, undef, undef, undef, undef, undef, undef, undef, undef, undef, undef, undef, undef, undef, undef, undef, undef, undef, undef, undef, undef, undef, undef, undef, undef, undef, undef, undef, undef, undef, undef, undef, undef, undef, undef, undef, undef, undef, undef, undef, undef, undef, undef, undef, undef, undef, undef, undef, undef, undef, undef, undef, undef, undef, undef, undef, undef, undef, undef, undef, undef, undef, undef, undef, undef, undef, undef, undef, undef, undef, undef, undef, undef], defers := [] } w') := Lib.hid (by
      intro B2 ab x bd y w' listed hl hS u2 v2 hx hy
      have Hv2 := Lib.hid v2
      have Hhx := Lib.hid hx
      have Hhy := Lib.hid hy
      have Hu2 := Lib.hid u2
      have HS := Lib.hid hS
      clear u2 v2 hx hy
      refine wpAnyH_ready (rs := [10]) (by rw [hl, hops]; kernel_rfl) (by simp) ?_
      refine AllReadyH.cons (by rw [hops]; rfl) (fun K hK => ?_) ?_
      · obtain ⟨z1, z2, z3, _⟩ := hS
        have hb : Below w'.heap.size w' (w'.alloc (.cells #[.pointer none] 28)) := (Below.refl _ _).alloc (Nat.le_refl _) _
        have HBA := Lib.hid hb
        clear hb
        go_simp
        have hS2 := keep3 HBA.out HS.out
        have hle : W4.heap.size ≤ w'.heap.size := (below3 HS.out).size
        refine hK.out _ _ hS2 (fun _ => ?_)
        exact G4110.out w'.heap.size B2 ab x bd y _ _ (by rw [hl]; rfl) hS2 hle (Boxed.new w' 28 (.pointer none)) Hu2.out (boxOn Hv2.out HBA.out) (Nat.ne_of_gt Hv2.out.lt) (Hhx.out.later HBA.out) (Hhy.out.later HBA.out)
      exact AllReadyH.nil)
    have G4000 : Hid (∀ (ab x bd y : Option Addr) (w' : World) (listed : Array Bool), listed = #[true, true, true, true, true, true, true, true, true, true, false, false, false, false] → (w'.cell? ⟨w3.heap.size, 0, none⟩ = some (.pointer a) ∧ w'.cell? ⟨w3.heap.size + 1, 0, none⟩ = some (.pointer b) ∧ w'.cell? ⟨w3.heap.size + 1 + 1, 0, none⟩ = some (.pointer d) ∧ Hid ((w3.heap.size < W4.heap.size ∧ w3.heap.size + 1 < W4.heap.size ∧ w3.heap.size + 1 + 1 < W4.heap.size) ∧ Below W4.heap.size W4 w')) → Holds w' x Lx → Holds w' y Ly → wpAnyH Try.prog .any ops Q (fun w' => (w'.cell? ⟨w3.heap.size, 0, none⟩ = some (.pointer a) ∧ w'.cell? ⟨w3.heap.size + 1, 0, none⟩ = some (.pointer b) ∧ w'.cell? ⟨w3.heap.size + 1 + 1, 0, none⟩ = some (.pointer d) ∧ Hid ((w3.heap.size < W4.heap.size ∧ w3.heap.size + 1 < W4.heap.size ∧ w3.heap.size + 1 + 1 < W4.heap.size) ∧ Below W4.heap.size W4 w'))) 4 listed { tmps := #[.slice p n c, .slice pm m cm, .slice pk k ck, .int .u16 ia, .int .u16 jf, .int .u16 jt, undef, undef, undef, undef, undef, undef, .bool false, .pointer (some ⟨w3.heap.size, 0, none⟩), .pointer (some ⟨w3.heap.size + 1, 0, none⟩), .pointer (some ⟨w3.heap.size + 1 + 1, 0, none⟩), undef, undef, undef, undef, undef, undef, undef, undef, .slice p n c, .int .i64 n, .bool false, .bool false, .slice pm m cm, .int .i64 m, .bool false, .bool false, .bool false, .slice pk k ck, .int .i64 k, .bool false, .bool false, undef, .slice p n c, .agg #[.pointer a], .slice pm m cm, .agg #[.pointer b], .slice pk k ck, .agg #[.pointer d], .agg #[.pointer a], .agg #[.pointer b], .agg #[.pointer ab], .agg #[.pointer d], .agg #[.pointer x], .agg #[.pointer a], .agg #[.pointer b], .agg #[.pointer d], .agg #[.pointer bd], .agg #[.pointer y], undef, undef, undef, undef, undef, undef, undef, undef, undef, undef, undef, undef, undef, undef, undef, undef, undef, undef, undef, undef, undef, undef, undef, undef, undef, undef, undef, undef, undef, undef, undef, undef, undef, undef, undef, undef, undef, undef, undef, undef, undef, undef, undef, undef, undef, undef, undef, undef, undef, undef, undef, undef, undef, undef, undef, undef, undef, undef, undef, undef, undef, undef, undef, undef, undef, undef, undef, undef, undef, undef, undef, undef, undef, undef, undef, undef, undef, undef, undef], defers := [] } w') := Lib.hid (by
      intro ab x bd y w' listed hl hS hx hy
      have Hhx := Lib.hid hx
      have Hhy := Lib.hid hy
      have HS := Lib.hid hS
      clear hx hy
      refine wpAnyH_ready (rs := [10, 11]) (by rw [hl, hops]; kernel_rfl) (by simp) ?_
      refine AllReadyH.cons (by rw [hops]; rfl) (fun K hK => ?_) ?_
      · obtain ⟨z1, z2, z3, _⟩ := hS
        have hb : Below w'.heap.size w' (w'.alloc (.cells #[.pointer none] 28)) := (Below.refl _ _).alloc (Nat.le_refl _) _
        have HBA := Lib.hid hb
        clear hb
        go_simp
        have hS2 := keep3 HBA.out HS.out
        have hle : W4.heap.size ≤ w'.heap.size := (below3 HS.out).size
        refine hK.out _ _ hS2 (fun _ => ?_)
        exact G4100.out w'.heap.size ab x bd y _ _ (by rw [hl]; rfl) hS2 hle (Boxed.new w' 28 (.pointer none)) (Hhx.out.later HBA.out) (Hhy.out.later HBA.out)
      refine AllReadyH.cons (by rw [hops]; rfl) (fun K hK => ?_) ?_
      · obtain ⟨z1, z2, z3, _⟩ := hS
        have hb : Below w'.heap.size w' (w'.alloc (.cells #[.pointer none] 28)) := (Below.refl _ _).alloc (Nat.le_refl _) _
        have HBA := Lib.hid hb
        clear hb
        go_simp
        have hS2 := keep3 HBA.out HS.out
        have hle : W4.heap.size ≤ w'.heap.size := (below3 HS.out).size
        refine hK.out _ _ hS2 (fun _ => ?_)
        exact G4010.out w'.heap.size ab x bd y _ _ (by rw [hl]; rfl) hS2 hle (Boxed.new w' 28 (.pointer none)) (Hhx.out.later HBA.out) (Hhy.out.later HBA.out)
      exact AllReadyH.nil)
    have G3110 : Hid (∀ (B1 B2 : Nat) (ab x bd : Option Addr) (w' : World) (listed : Array Bool), listed = #[true, true, true, true, true, true, true, true, true, false, true, true, false, false] → (w'.cell? ⟨w3.heap.size, 0, none⟩ = some (.pointer a) ∧ w'.cell? ⟨w3.heap.size + 1, 0, none⟩ = some (.pointer b) ∧ w'.cell? ⟨w3.heap.size + 1 + 1, 0, none⟩ = some (.pointer d) ∧ Hid ((w3.heap.size < W4.heap.size ∧ w3.heap.size + 1 < W4.heap.size ∧ w3.heap.size + 1 + 1 < W4.heap.size) ∧ Below W4.heap.size W4 w')) → W4.heap.size ≤ B1 → Boxed w' B1 28 (.pointer none) → W4.heap.size ≤ B2 → Boxed w' B2 28 (.pointer none) → B1 ≠ B2 → Holds w' x Lx → Holds w' bd Lb → wpAnyH Try.prog .any ops Q (fun w' => (w'.cell? ⟨w3.heap.size, 0, none⟩ = some (.pointer a) ∧ w'.cell? ⟨w3.heap.size + 1, 0, none⟩ = some (.pointer b) ∧ w'.cell? ⟨w3.heap.size + 1 + 1, 0, none⟩ = some (.pointer d) ∧ Hid ((w3.heap.size < W4.heap.size ∧ w3.heap.size + 1 < W4.heap.size ∧ w3.heap.size + 1 + 1 < W4.heap.size) ∧ Below W4.heap.size W4 w'))) 3 listed { tmps := #[.slice p n c, .slice pm m cm, .slice pk k ck, .int .u16 ia, .int .u16 jf, .int .u16 jt, undef, undef, undef, undef, undef, undef, .bool false, .pointer (some ⟨w3.heap.size, 0, none⟩), .pointer (some ⟨w3.heap.size + 1, 0, none⟩), .pointer (some ⟨w3.heap.size + 1 + 1, 0, none⟩), .pointer (some ⟨B1, 0, none⟩), .pointer (some ⟨B2, 0, none⟩), undef, undef, undef, undef, undef, undef, .slice p n c, .int .i64 n, .bool false, .bool false, .slice pm m cm, .int .i64 m, .bool false, .bool false, .bool false, .slice pk k ck, .int .i64 k, .bool false, .bool false, undef, .slice p n c, .agg #[.pointer a], .slice pm m cm, .agg #[.pointer b], .slice pk k ck, .agg #[.pointer d], .agg #[.pointer a], .agg #[.pointer b], .agg #[.pointer ab], .agg #[.pointer d], .agg #[.pointer x], .agg #[.pointer a], .agg #[.pointer b], .agg #[.pointer d], .agg #[.pointer bd], undef, undef, undef, undef, undef, undef, undef, undef, undef, undef, undef, undef, undef, undef, undef, undef, undef, undef, undef, undef, undef, undef, undef, undef, undef, undef, undef, undef, undef, undef, undef, undef, undef, undef, undef, undef, undef, undef, undef, undef, undef, undef, undef, undef, undef, undef, undef, undef, undef, undef, undef, undef, undef, undef, undef, undef, undef, undef, undef, undef, undef, undef, undef, undef, undef, undef, undef, undef, undef, undef, undef, undef, undef, undef, undef, undef, undef, undef, undef, undef], defers := [] } w') := Lib.hid (by
      intro B1 B2 ab x bd w' listed hl hS u1 v1 u2 v2 ne hx hbd
      have Hv1 := Lib.hid v1
      have Hv2 := Lib.hid v2
      have Hhx := Lib.hid hx
      have Hhbd := Lib.hid hbd
      have Hu1 := Lib.hid u1
      have Hu2 := Lib.hid u2
      have Hne := Lib.hid ne
      have HS := Lib.hid hS
      clear u1 v1 u2 v2 ne hx hbd
      refine wpAnyH_ready (rs := [9]) (by rw [hl, hops]; kernel_rfl) (by simp) ?_
      refine AllReadyH.cons (by rw [hops]; rfl) (fun K hK => ?_) ?_
      · obtain ⟨z1, z2, z3, _⟩ := hS
        go_simp
        go_wp2_with (first | (go_at_call 29; refine (J4.out _ _ _ (HL14.out.later (below3 HS.out)) Hhbd.out).mono ?_; rintro r w20 ⟨y, rfl, HNEW, HB9⟩) | fail)
        have hS2 := keep3 HB9.out HS.out
        refine hK.out _ _ hS2 (fun _ => ?_)
        exact G4110.out B1 B2 ab x bd y w20 _ (by rw [hl]; rfl) hS2 Hu1.out (boxOn Hv1.out HB9.out) Hu2.out (boxOn Hv2.out HB9.out) Hne.out (Hhx.out.later HB9.out) HNEW.out
      exact AllReadyH.nil)
    have G3100 : Hid (∀ (B1 : Nat) (ab x bd : Option Addr) (w' : World) (listed : Array Bool), listed = #[true, true, true, true, true, true, true, true, true, false, true, false, false, false] → (w'.cell? ⟨w3.heap.size, 0, none⟩ = some (.pointer a) ∧ w'.cell? ⟨w3.heap.size + 1, 0, none⟩ = some (.pointer b) ∧ w'.cell? ⟨w3.heap.size + 1 + 1, 0, none⟩ = some (.pointer d) ∧ Hid ((w3.heap.size < W4.heap.size ∧ w3.heap.size + 1 < W4.heap.size ∧ w3.heap.size + 1 + 1 < W4.heap.size) ∧ Below W4.heap.size W4 w')) → W4.heap.size ≤ B1 → Boxed w' B1 28 (.pointer none) → Holds w' x Lx → Holds w' bd Lb → wpAnyH Try.prog .any ops Q (fun w' => (w'.cell? ⟨w3.heap.size, 0, none⟩ = some (.pointer a) ∧ w'.cell? ⟨w3.heap.size + 1, 0, none⟩ = some (.pointer b) ∧ w'.cell? ⟨w3.heap.size + 1 + 1, 0, none⟩ = some (.pointer d) ∧ Hid ((w3.heap.size < W4.heap.size ∧ w3.heap.size + 1 < W4.heap.size ∧ w3.heap.size + 1 + 1 < W4.heap.size) ∧ Below W4.heap.size W4 w'))) 4 listed { tmps := #[.slice p n c, .slice pm m cm, .slice pk k ck, .int .u16 ia, .int .u16 jf, .int .u16 jt, undef, undef, undef, undef, undef, undef, .bool false, .pointer (some ⟨w3.heap.size, 0, none⟩), .pointer (some ⟨w3.heap.size + 1, 0, none⟩), .pointer (some ⟨w3.heap.size + 1 + 1, 0, none⟩), .pointer (some ⟨B1, 0, none⟩), undef, undef, undef, undef, undef, undef, undef, .slice p n c, .int .i64 n, .bool false, .bool false, .slice pm m cm, .int .i64 m, .bool false, .bool false, .bool false, .slice pk k ck, .int .i64 k, .bool false, .bool false, undef, .slice p n c, .agg #[.pointer a], .slice pm m cm, .agg #[.pointer b], .slice pk k ck, .agg #[.pointer d], .agg #[.pointer a], .agg #[.pointer b], .agg #[.pointer ab], .agg #[.pointer d], .agg #[.pointer x], .agg #[.pointer a], .agg #[.pointer b], .agg #[.pointer d], .agg #[.pointer bd], undef, undef, undef, undef, undef, undef, undef, undef, undef, undef, undef, undef, undef, undef, undef, undef, undef, undef, undef, undef, undef, undef, undef, undef, undef, undef, undef, undef, undef, undef, undef, undef, undef, undef, undef, undef, undef, undef, undef, undef, undef, undef, undef, undef, undef, undef, undef, undef, undef, undef, undef, undef, undef, undef, undef, undef, undef, undef, undef, undef, undef, undef, undef, undef, undef, undef, undef, undef, undef, undef, undef, undef, undef, undef, undef, undef, undef, undef, undef, undef], defers := [] } w') := Lib.hid (by
      intro B1 ab x bd w' listed hl hS u1 v1 hx hbd
      have Hv1 := Lib.hid v1
      have Hhx := Lib.hid hx
      have Hhbd := Lib.hid hbd
      have Hu1 := Lib.hid u1
      have HS := Lib.hid hS
      clear u1 v1 hx hbd
      refine wpAnyH_ready (rs := [9, 11]) (by rw [hl, hops]; kernel_rfl) (by simp) ?_
      refine AllReadyH.cons (by rw [hops]; rfl) (fun K hK => ?_) ?_
      · obtain ⟨z1, z2, z3, _⟩ := hS
        go_simp
        go_wp2_with (first | (go_at_call 29; refine (J4.out _ _ _ (HL14.out.later (below3 HS.out)) Hhbd.out).mono ?_; rintro r w20 ⟨y, rfl, HNEW, HB9⟩) | fail)
        have hS2 := keep3 HB9.out HS.out
        refine hK.out _ _ hS2 (fun _ => ?_)
        exact G4100.out B1 ab x bd y w20 _ (by rw [hl]; rfl) hS2 Hu1.out (boxOn Hv1.out HB9.out) (Hhx.out.later HB9.out) HNEW.out
      refine AllReadyH.cons (by rw [hops]; rfl) (fun K hK => ?_) ?_
      · obtain ⟨z1, z2, z3, _⟩ := hS
        have hb : Below w'.heap.size w' (w'.alloc (.cells #[.pointer none] 28)) := (Below.refl _ _).alloc (Nat.le_refl _) _
        have HBA := Lib.hid hb
        clear hb
        go_simp
        have hS2 := keep3 HBA.out HS.out
        have hle : W4.heap.size ≤ w'.heap.size := (below3 HS.out).size
        refine hK.out _ _ hS2 (fun _ => ?_)
        exact G3110.out B1 w'.heap.size ab x bd _ _ (by rw [hl]; rfl) hS2 Hu1.out (boxOn Hv1.out HBA.out) hle (Boxed.new w' 28 (.pointer none)) (Nat.ne_of_lt Hv1.out.lt) (Hhx.out.later HBA.out) (Hhbd.out.later HBA.out)
      exact AllReadyH.nil)
    have G3010 : Hid (∀ (B2 : Nat) (ab x bd : Option Addr) (w' : World) (listed : Array Bool), listed = #[true, true, true, true, true, true, true, true, true, false, false, true, false, false] → (w'.cell? ⟨w3.heap.size, 0, none⟩ = some (.pointer a) ∧ w'.cell? ⟨w3.heap.size + 1, 0, none⟩ = some (.pointer b) ∧ w'.cell? ⟨w3.heap.size + 1 + 1, 0, none⟩ = some (.pointer d) ∧ Hid ((w3.heap.size < W4.heap.size ∧ w3.heap.size + 1 < W4.heap.size ∧ w3.heap.size + 1 + 1 < W4.heap.size) ∧ Below W4.heap.size W4 w')) → W4.heap.size ≤ B2 → Boxed w' B2 28 (.pointer none) → Holds w' x Lx → Holds w' bd Lb → wpAnyH Try.prog .any ops Q (fun w' => (w'.cell? ⟨w3.heap.size, 0, none⟩ = some (.pointer a) ∧ w'.cell? ⟨w3.heap.size + 1, 0, none⟩ = some (.pointer b) ∧ w'.cell? ⟨w3.heap.size + 1 + 1, 0, none⟩ = some (.pointer d) ∧ Hid ((w3.heap.size < W4.heap.size ∧ w3.heap.size + 1 < W4.heap.size ∧ w3.heap.size + 1 + 1 < W4.heap.size) ∧ Below W4.heap.size W4 w'))) 4 listed { tmps := #[.slice p n c, .slice pm m cm, .slice pk k ck, .int .u16 ia, .int .u16 jf, .int .u16 jt, undef, undef, undef, undef, undef, undef, .bool false, .pointer (some ⟨w3.heap.size, 0, none⟩), .pointer (some ⟨w3.heap.size + 1, 0, none⟩), .pointer (some ⟨w3.heap.size + 1 + 1, 0, none⟩), undef, .pointer (some ⟨B2, 0, none⟩), undef, undef, undef, undef, undef, undef, .slice p n c, .int .i64 n, .bool false, .bool false, .slice pm m cm, .int .i64 m, .bool false, .bool false, .bool false, .slice pk k ck, .int .i64 k, .bool false, .bool false, undef, .slice p n c, .agg #[.pointer a], .slice pm m cm, .agg #[.pointer b], .slice pk k ck, .agg #[.pointer d], .agg #[.pointer a], .agg #[.pointer b], .agg #[.pointer ab], .agg #[.pointer d], .agg #[.pointer x], .agg #[.pointer a], .agg #[.pointer b], .agg #[.pointer d], .agg #[.pointer bd], undef, undef, undef, undef, undef, undef, undef, undef, undef, undef, undef, undef, undef, undef, undef, undef, undef, undef, undef, undef, undef, undef, undef, undef, undef, undef, undef, undef, undef, undef, undef, undef, undef, undef, undef, undef, undef, undef, undef, undef, undef, undef, undef, undef, undef, undef, undef, undef, undef, undef, undef, undef, undef, undef, undef, undef, undef, undef, undef, undef, undef, undef, undef, undef, undef, undef, undef, undef, undef, undef, undef, undef, undef, undef, undef, undef, undef, undef, undef, undef], defers := [] } w') := Lib.hid (by
      intro B2 ab x bd w' listed hl hS u2 v2 hx hbd
      have Hv2 := Lib.hid v2
      have Hhx := Lib.hid hx
      have Hhbd := Lib.hid hbd
      have Hu2 := Lib.hid u2
      have HS := Lib.hid hS
      clear u2 v2 hx hbd
      refine wpAnyH_ready (rs := [9, 10]) (by rw [hl, hops]; kernel_rfl) (by simp) ?_
      refine AllReadyH.cons (by rw [hops]; rfl) (fun K hK => ?_) ?_
      · obtain ⟨z1, z2, z3, _⟩ := hS
        go_simp
        go_wp2_with (first | (go_at_call 29; refine (J4.out _ _ _ (HL14.out.later (below3 HS.out)) Hhbd.out).mono ?_; rintro r w20 ⟨y, rfl, HNEW, HB9⟩) | fail)
        have hS2 := keep3 HB9.out HS.out
        refine hK.out _ _ hS2 (fun _ => ?_)
        exact G4010.out B2 ab x bd y w20 _ (by rw [hl]; rfl) hS2 Hu2.out (boxOn Hv2.out HB9.out) (Hhx.out.later HB9.out) HNEW.out
      refine AllReadyH.cons (by rw [hops]; rfl) (fun K hK => ?_) ?_
      · obtain ⟨z1, z2, z3, _⟩ := hS
        have hb : Below w'.heap.size w' (w'.alloc (.cells #[.pointer none] 28)) := (Below.refl _ _).alloc (Nat.le_refl _) _
        have HBA := Lib.hid hb
        clear hb
        go_simp
        have hS2 := keep3 HBA.out HS.out
        have hle : W4.heap.size ≤ w'.heap.size := (below3 HS.out).size
        refine hK.out _ _ hS2 (fun _ => ?_)
        exact G3110.out w'.heap.size B2 ab x bd _ _ (by rw [hl]; rfl) hS2 hle (Boxed.new w' 28 (.pointer none)) Hu2.out (boxOn Hv2.out HBA.out) (Nat.ne_of_gt Hv2.out.lt) (Hhx.out.later HBA.out) (Hhbd.out.later HBA.out)
      exact AllReadyH.nil)
    have G3000 : Hid (∀ (ab x bd : Option Addr) (w' : World) (listed : Array Bool), listed = #[true, true, true, true, true, true, true, true, true, false, false, false, false, false] → (w'.cell? ⟨w3.heap.size, 0, none⟩ = some (.pointer a) ∧ w'.cell? ⟨w3.heap.size + 1, 0, none⟩ = some (.pointer b) ∧ w'.cell? ⟨w3.heap.size + 1 + 1, 0, none⟩ = some (.pointer d) ∧ Hid ((w3.heap.size < W4.heap.size ∧ w3.heap.size + 1 < W4.heap.size ∧ w3.heap.size + 1 + 1 < W4.heap.size) ∧ Below W4.heap.size W4 w')) → Holds w' x Lx → Holds w' bd Lb → wpAnyH Try.prog .any ops Q (fun w' => (w'.cell? ⟨w3.heap.size, 0, none⟩ = some (.pointer a) ∧ w'.cell? ⟨w3.heap.size + 1, 0, none⟩ = some (.pointer b) ∧ w'.cell? ⟨w3.heap.size + 1 + 1, 0, none⟩ = some (.pointer d) ∧ Hid ((w3.heap.size < W4.heap.size ∧ w3.heap.size + 1 < W4.heap.size ∧ w3.heap.size + 1 + 1 < W4.heap.size) ∧ Below W4.heap.size W4 w'))) 5 listed { tmps := #[.slice p n c, .slice pm m cm, .slice pk k ck, .int .u16 ia, .int .u16 jf, .int .u16 jt, undef, undef, undef, undef, undef, undef, .bool false, .pointer (some ⟨w3.heap.size, 0, none⟩), .pointer (some ⟨w3.heap.size + 1, 0, none⟩), .pointer (some ⟨w3.heap.size + 1 + 1, 0, none⟩), undef, undef, undef, undef, undef, undef, undef, undef, .slice p n c, .int .i64 n, .bool false, .bool false, .slice pm m cm, .int .i64 m, .bool false, .bool false, .bool false, .slice pk k ck, .int .i64 k, .bool false, .bool false, undef, .slice p n c, .agg #[.pointer a], .slice pm m cm, .agg #[.pointer b], .slice pk k ck, .agg #[.pointer d], .agg #[.pointer a], .agg #[.pointer b], .agg #[.pointer ab], .agg #[.pointer d], .agg #[.pointer x], .agg #[.pointer a], .agg #[.pointer b], .agg #[.pointer d], .agg #[.pointer bd], undef, undef, undef, undef, undef, undef, undef, undef, undef, undef, undef, undef, undef, undef, undef, undef, undef, undef, undef, undef, undef, undef, undef, undef, undef, undef, undef, undef, undef, undef, undef, undef, undef, undef, undef, undef, undef, undef, undef, undef, undef, undef, undef, undef, undef, undef, undef, undef, undef, undef, undef, undef, undef, undef, undef, undef, undef, undef, undef, undef, undef, undef, undef, undef, undef, undef, undef, undef, undef, undef, undef, undef, undef, undef, undef, undef, undef, undef, undef, undef], defers := [] } w') := Lib.hid (by
      intro ab x bd w' listed hl hS hx hbd
      have Hhx := Lib.hid hx
      have Hhbd := Lib.hid hbd
      have HS := Lib.hid hS
      clear hx hbd
      refine wpAnyH_ready (rs := [9, 10, 11]) (by rw [hl, hops]; kernel_rfl) (by simp) ?_
      refine AllReadyH.cons (by rw [hops]; rfl) (fun K hK => ?_) ?_
      · obtain ⟨z1, z2, z3, _⟩ := hS
        go_simp
        go_wp2_with (first | (go_at_call 29; refine (J4.out _ _ _ (HL14.out.later (below3 HS.out)) Hhbd.out).mono ?_; rintro r w20 ⟨y, rfl, HNEW, HB9⟩) | fail)
        have hS2 := keep3 HB9.out HS.out
        refine hK.out _ _ hS2 (fun _ => ?_)
        exact G4000.out ab x bd y w20 _ (by rw [hl]; rfl) hS2 (Hhx.out.later HB9.out) HNEW.out
      refine AllReadyH.cons (by rw [hops]; rfl) (fun K hK => ?_) ?_
      · obtain ⟨z1, z2, z3, _⟩ := hS
        have hb : Below w'.heap.size w' (w'.alloc (.cells #[.pointer none] 28)) := (Below.refl _ _).alloc (Nat.le_refl _) _
        have HBA := Lib.hid hb
        clear hb
        go_simp
        have hS2 := keep3 HBA.out HS.out
        have hle : W4.heap.size ≤ w'.heap.size := (below3 HS.out).size
        refine hK.out _ _ hS2 (fun _ => ?_)
        exact G3100.out w'.heap.size ab x bd _ _ (by rw [hl]; rfl) hS2 hle (Boxed.new w' 28 (.pointer none)) (Hhx.out.later HBA.out) (Hhbd.out.later HBA.out)
      refine AllReadyH.cons (by rw [hops]; rfl) (fun K hK => ?_) ?_
      · obtain ⟨z1, z2, z3, _⟩ := hS
        have hb : Below w'.heap.size w' (w'.alloc (.cells #[.pointer none] 28)) := (Below.refl _ _).alloc (Nat.le_refl _) _
        have HBA := Lib.hid hb
        clear hb
        go_simp
        have hS2 := keep3 HBA.out HS.out
        have hle : W4.heap.size ≤ w'.heap.size := (below3 HS.out).size
        refine hK.out _ _ hS2 (fun _ => ?_)
        exact G3010.out w'.heap.size ab x bd _ _ (by rw [hl]; rfl) hS2 hle (Boxed.new w' 28 (.pointer none)) (Hhx.out.later HBA.out) (Hhbd.out.later HBA.out)
      exact AllReadyH.nil)
    have G2110 : Hid (∀ (B1 B2 : Nat) (ab x : Option Addr) (w' : World) (listed : Array Bool), listed = #[true, true, true, true, true, true, true, true, false, false, true, true, false, false] → (w'.cell? ⟨w3.heap.size, 0, none⟩ = some (.pointer a) ∧ w'.cell? ⟨w3.heap.size + 1, 0, none⟩ = some (.pointer b) ∧ w'.cell? ⟨w3.heap.size + 1 + 1, 0, none⟩ = some (.pointer d) ∧ Hid ((w3.heap.size < W4.heap.size ∧ w3.heap.size + 1 < W4.heap.size ∧ w3.heap.size + 1 + 1 < W4.heap.size) ∧ Below W4.heap.size W4 w')) → W4.heap.size ≤ B1 → Boxed w' B1 28 (.pointer none) → W4.heap.size ≤ B2 → Boxed w' B2 28 (.pointer none) → B1 ≠ B2 → Holds w' x Lx → wpAnyH Try.prog .any ops Q (fun w' => (w'.cell? ⟨w3.heap.size, 0, none⟩ = some (.pointer a) ∧ w'.cell? ⟨w3.heap.size + 1, 0, none⟩ = some (.pointer b) ∧ w'.cell? ⟨w3.heap.size + 1 + 1, 0, none⟩ = some (.pointer d) ∧ Hid ((w3.heap.size < W4.heap.size ∧ w3.heap.size + 1 < W4.heap.size ∧ w3.heap.size + 1 + 1 < W4.heap.size) ∧ Below W4.heap.size W4 w'))) 4 listed { tmps := #[.slice p n c, .slice pm m cm, .slice pk k ck, .int .u16 ia, .int .u16 jf, .int .u16 jt, undef, undef, undef, undef, undef, undef, .bool false, .pointer (some ⟨w3.heap.size, 0, none⟩), .pointer (some ⟨w3.heap.size + 1, 0, none⟩), .pointer (some ⟨w3.heap.size + 1 + 1, 0, none⟩), .pointer (some ⟨B1, 0, none⟩), .pointer (some ⟨B2, 0, none⟩), undef, undef, undef, undef, undef, undef, .slice p n c, .int .i64 n, .bool false, .bool false, .slice pm m cm, .int .i64 m, .bool false, .bool false, .bool false, .slice pk k ck, .int .i64 k, .bool false, .bool false, undef, .slice p n c, .agg #[.pointer a], .slice pm m cm, .agg #[.pointer b], .slice pk k ck, .agg #[.pointer d], .agg #[.pointer a], .agg #[.pointer b], .agg #[.pointer ab], .agg #[.pointer d], .agg #[.pointer x], .agg #[.pointer a], .agg #[.pointer b], .agg #[.pointer d], undef, undef, undef, undef, undef, undef, undef, undef, undef, undef, undef, undef, undef, undef, undef, undef, undef, undef, undef, undef, undef, undef, undef, undef, undef, undef, undef, undef, undef, undef, undef, undef, undef, undef, undef, undef, undef, undef, undef, undef, undef, undef, undef, undef, undef, undef, undef, undef, undef, undef, undef, undef, undef, undef, undef, undef, undef, undef, undef, undef, undef, undef, undef, undef, undef, undef, undef, undef, undef, undef, undef, undef, undef, undef, undef, undef, undef, undef, undef, undef, undef], defers := [] } w') := Lib.hid (by
      intro B1 B2 ab x w' listed hl hS u1 v1 u2 v2 ne hx
      have Hv1 := Lib.hid v1
      have Hv2 := Lib.hid v2
      have Hhx := Lib.hid hx
      have Hu1 := Lib.hid u1
      have Hu2 := Lib.hid u2
      have Hne := Lib.hid ne
      have HS := Lib.hid hS
      clear u1 v1 u2 v2 ne hx
      refine wpAnyH_ready (rs := [8]) (by rw [hl, hops]; kernel_rfl) (by simp) ?_
      refine AllReadyH.cons (by rw [hops]; rfl) (fun K hK => ?_) ?_
      · obtain ⟨z1, z2, z3, _⟩ := hS
        go_simp
        go_wp2_with (first | (go_at_call 29; refine (J3.out _ _ _ (HL24.out.later (below3 HS.out)) (HL34.out.later (below3 HS.out))).mono ?_; rintro r w20 ⟨bd, rfl, HNEW, HB9⟩) | fail)
        have hS2 := keep3 HB9.out HS.out
        refine hK.out _ _ hS2 (fun _ => ?_)
        exact G3110.out B1 B2 ab x bd w20 _ (by rw [hl]; rfl) hS2 Hu1.out (boxOn Hv1.out HB9.out) Hu2.out (boxOn Hv2.out HB9.out) Hne.out (Hhx.out.later HB9.out) HNEW.out
      exact AllReadyH.nil)
    have G2100 : Hid (∀ (B1 : Nat) (ab x : Option Addr) (w' : World) (listed : Array Bool), listed = #[true, true, true, true, true, true, true, true, false, false, true, false, false, false] → (w'.cell? ⟨w3.heap.size, 0, none⟩ = some (.pointer a) ∧ w'.cell? ⟨w3.heap.size + 1, 0, none⟩ = some (.pointer b) ∧ w'.cell? ⟨w3.heap.size + 1 + 1, 0, none⟩ = some (.pointer d) ∧ Hid ((w3.heap.size < W4.heap.size ∧ w3.heap.size + 1 < W4.heap.size ∧ w3.heap.size + 1 + 1 < W4.heap.size) ∧ Below W4.heap.size W4 w')) → W4.heap.size ≤ B1 → Boxed w' B1 28 (.pointer none) → Holds w' x Lx → wpAnyH Try.prog .any ops Q (fun w' => (w'.cell? ⟨w3.heap.size, 0, none⟩ = some (.pointer a) ∧ w'.cell? ⟨w3.heap.size + 1, 0, none⟩ = some (.pointer b) ∧ w'.cell? ⟨w3.heap.size + 1 + 1, 0, none⟩ = some (.pointer d) ∧ Hid ((w3.heap.size < W4.heap.size ∧ w3.heap.size + 1 < W4.heap.size ∧ w3.heap.size + 1 + 1 < W4.heap.size) ∧ Below W4.heap.size W4 w'))) 5 listed { tmps := #[.slice p n c, .slice pm m cm, .slice pk k ck, .int .u16 ia, .int .u16 jf, .int .u16 jt, undef, undef, undef, undef, undef, undef, .bool false, .pointer (some ⟨w3.heap.size, 0, none⟩), .pointer (some ⟨w3.heap.size + 1, 0, none⟩), .pointer (some ⟨w3.heap.size + 1 + 1, 0, none⟩), .pointer (some ⟨B1, 0, none⟩), undef, undef, undef, undef, undef, undef, undef, .slice p n c, .int .i64 n, .bool false, .bool false, .slice pm m cm, .int .i64 m, .bool false, .bool false, .bool false, .slice pk k ck, .int .i64 k, .bool false, .bool false, undef, .slice p n c, .agg #[.pointer a], .slice pm m cm, .agg #[.pointer b], .slice pk k ck, .agg #[.pointer d], .agg #[.pointer a], .agg #[.pointer b], .agg #[.pointer ab], .agg #[.pointer d], .agg #[.pointer x], .agg #[.pointer a], .agg #[.pointer b], .agg #[.pointer d], undef, undef, undef, undef, undef, undef, undef, undef, undef, undef, undef, undef, undef, undef, undef, undef, undef, undef, undef, undef, undef, undef, undef, undef, undef, undef, undef, undef, undef, undef, undef, undef, undef, undef, undef, undef, undef, undef, undef, undef, undef, undef, undef, undef, undef, undef, undef, undef, undef, undef, undef, undef, undef, undef, undef, undef, undef, undef, undef, undef, undef, undef, undef, undef, undef, undef, undef, undef, undef, undef, undef, undef, undef, undef, undef, undef, undef, undef, undef, undef, undef], defers := [] } w') := Lib.hid (by
      intro B1 ab x w' listed hl hS u1 v1 hx
      have Hv1 := Lib.hid v1
      have Hhx := Lib.hid hx
      have Hu1 := Lib.hid u1
      have HS := Lib.hid hS
      clear u1 v1 hx
      refine wpAnyH_ready (rs := [8, 11]) (by rw [hl, hops]; kernel_rfl) (by simp) ?_
      refine AllReadyH.cons (by rw [hops]; rfl) (fun K hK => ?_) ?_
      · obtain ⟨z1, z2, z3, _⟩ := hS
        go_simp
        go_wp2_with (first | (go_at_call 29; refine (J3.out _ _ _ (HL24.out.later (below3 HS.out)) (HL34.out.later (below3 HS.out))).mono ?_; rintro r w20 ⟨bd, rfl, HNEW, HB9⟩) | fail)
        have hS2 := keep3 HB9.out HS.out
        refine hK.out _ _ hS2 (fun _ => ?_)
        exact G3100.out B1 ab x bd w20 _ (by rw [hl]; rfl) hS2 Hu1.out (boxOn Hv1.out HB9.out) (Hhx.out.later HB9.out) HNEW.out
      refine AllReadyH.cons (by rw [hops]; rfl) (fun K hK => ?_) ?_
      · obtain ⟨z1, z2, z3, _⟩ := hS
        have hb : Below w'.heap.size w' (w'.alloc (.cells #[.pointer none] 28)) := (Below.refl _ _).alloc (Nat.le_refl _) _
        have HBA := Lib.hid hb
        clear hb
        go_simp
        have hS2 := keep3 HBA.out HS.out
        have hle : W4.heap.size ≤ w'.heap.size := (below3 HS.out).size
        refine hK.out _ _ hS2 (fun _ => ?_)
        exact G2110.out B1 w'.heap.size ab x _ _ (by rw [hl]; rfl) hS2 Hu1.out (boxOn Hv1.out HBA.out) hle (Boxed.new w' 28 (.pointer none)) (Nat.ne_of_lt Hv1.out.lt) (Hhx.out.later HBA.out)
      exact AllReadyH.nil)
    have G2010 : Hid (∀ (B2 : Nat) (ab x : Option Addr) (w' : World) (listed : Array Bool), listed = #[true, true, true, true, true, true, true, true, false, false, false, true, false, false] → (w'.cell? ⟨w3.heap.size, 0, none⟩ = some (.pointer a) ∧ w'.cell? ⟨w3.heap.size + 1, 0, none⟩ = some (.pointer b) ∧ w'.cell? ⟨w3.heap.size + 1 + 1, 0, none⟩ = some (.pointer d) ∧ Hid ((w3.heap.size < W4.heap.size ∧ w3.heap.size + 1 < W4.heap.size ∧ w3.heap.size + 1 + 1 < W4.heap.size) ∧ Below W4.heap.size W4 w')) → W4.heap.size ≤ B2 → Boxed w' B2 28 (.pointer none) → Holds w' x Lx → wpAnyH Try.prog .any ops Q (fun w' => (w'.cell? ⟨w3.heap.size, 0, none⟩ = some (.pointer a) ∧ w'.cell? ⟨w3.heap.size + 1, 0, none⟩ = some (.pointer b) ∧ w'.cell? ⟨w3.heap.size + 1 + 1, 0, none⟩ = some (.pointer d) ∧ Hid ((w3.heap.size < W4.heap.size ∧ w3.heap.size + 1 < W4.heap.size ∧ w3.heap.size + 1 + 1 < W4.heap.size) ∧ Below W4.heap.size W4 w'))) 5 listed { tmps := #[.slice p n c, .slice pm m cm, .slice pk k ck, .int .u16 ia, .int .u16 jf, .int .u16 jt, undef, undef, undef, undef, undef, undef, .bool false, .pointer (some ⟨w3.heap.size, 0, none⟩), .pointer (some ⟨w3.heap.size + 1, 0, none⟩), .pointer (some ⟨w3.heap.size + 1 + 1, 0, none⟩), undef, .pointer (some ⟨B2, 0, none⟩), undef, undef, undef, undef, undef, undef, .slice p n c, .int .i64 n, .bool false, .bool false, .slice pm m cm, .int .i64 m, .bool false, .bool false, .bool false, .slice pk k ck, .int .i64 k, .bool false, .bool false, undef, .slice p n c, .agg #[.pointer a], .slice pm m cm, .agg #[.pointer b], .slice pk k ck, .agg #[.pointer d], .agg #[.pointer a], .agg #[.pointer b], .agg #[.pointer ab], .agg #[.pointer d], .agg #[.pointer x], .agg #[.pointer a], .agg #[.pointer b], .agg #[.pointer d], undef, undef, undef, undef, undef, undef, undef, undef, undef, undef, undef, undef, undef, undef, undef, undef, undef, undef, undef, undef, undef, undef, undef, undef, undef, undef, undef, undef, undef, undef, undef, undef, undef, undef, undef, undef, undef, undef, undef, undef, undef, undef, undef, undef, undef, undef, undef, undef, undef, undef, undef, undef, undef, undef, undef, undef, undef, undef, undef, undef, undef, undef, undef, undef, undef, undef, undef, undef, undef, undef, undef, undef, undef, undef, undef, undef, undef, undef, undef, undef, undef], defers := [] } w') := Lib.hid (by
      intro B2 ab x w' listed hl hS u2 v2 hx
      have Hv2 := Lib.hid v2
      have Hhx := Lib.hid hx
      have Hu2 := Lib.hid u2
      have HS := Lib.hid hS
      clear u2 v2 hx
      refine wpAnyH_ready (rs := [8, 10]) (by rw [hl, hops]; kernel_rfl) (by simp) ?_
      refine AllReadyH.cons (by rw [hops]; rfl) (fun K hK => ?_) ?_
      · obtain ⟨z1, z2, z3, _⟩ := hS
        go_simp
        go_wp2_with (first | (go_at_call 29; refine (J3.out _ _ _ (HL24.out.later (below3 HS.out)) (HL34.out.later (below3 HS.out))).mono ?_; rintro r w20 ⟨bd, rfl, HNEW, HB9⟩) | fail)
        have hS2 := keep3 HB9.out HS.out
        refine hK.out _ _ hS2 (fun _ => ?_)
        exact G3010.out B2 ab x bd w20 _ (by rw [hl]; rfl) hS2 Hu2.out (boxOn Hv2.out HB9.out) (Hhx.out.later HB9.out) HNEW.out
      refine AllReadyH.cons (by rw [hops]; rfl) (fun K hK => ?_) ?_
      · obtain ⟨z1, z2, z3, _⟩ := hS
        have hb : Below w'.heap.size w' (w'.alloc (.cells #[.pointer none] 28)) := (Below.refl _ _).alloc (Nat.le_refl _) _
        have HBA := Lib.hid hb
        clear hb
        go_simp
        have hS2 := keep3 HBA.out HS.out
        have hle : W4.heap.size ≤ w'.heap.size := (below3 HS.out).size
        refine hK.out _ _ hS2 (fun _ => ?_)
        exact G2110.out w'.heap.size B2 ab x _ _ (by rw [hl]; rfl) hS2 hle (Boxed.new w' 28 (.pointer none)) Hu2.out (boxOn Hv2.out HBA.out) (Nat.ne_of_gt Hv2.out.lt) (Hhx.out.later HBA.out)
      exact AllReadyH.nil)
    have G2000 : Hid (∀ (ab x : Option Addr) (w' : World) (listed : Array Bool), listed = #[true, true, true, true, true, true, true, true, false, false, false, false, false, false] → (w'.cell? ⟨w3.heap.size, 0, none⟩ = some (.pointer a) ∧ w'.cell? ⟨w3.heap.size + 1, 0, none⟩ = some (.pointer b) ∧ w'.cell? ⟨w3.heap.size + 1 + 1, 0, none⟩ = some (.pointer d) ∧ Hid ((w3.heap.size < W4.heap.size ∧ w3.heap.size + 1 < W4.heap.size ∧ w3.heap.size + 1 + 1 < W4.heap.size) ∧ Below W4.heap.size W4 w')) → Holds w' x Lx → wpAnyH Try.prog .any ops Q (fun w' => (w'.cell? ⟨w3.heap.size, 0, none⟩ = some (.pointer a) ∧ w'.cell? ⟨w3.heap.size + 1, 0, none⟩ = some (.pointer b) ∧ w'.cell? ⟨w3.heap.size + 1 + 1, 0, none⟩ = some (.pointer d) ∧ Hid ((w3.heap.size < W4.heap.size ∧ w3.heap.size + 1 < W4.heap.size ∧ w3.heap.size + 1 + 1 < W4.heap.size) ∧ Below W4.heap.size W4 w'))) 6 listed { tmps := #[.slice p n c, .slice pm m cm, .slice pk k ck, .int .u16 ia, .int .u16 jf, .int .u16 jt, undef, undef, undef, undef, undef, undef, .bool false, .pointer (some ⟨w3.heap.size, 0, none⟩), .pointer (some ⟨w3.heap.size + 1, 0, none⟩), .pointer (some ⟨w3.heap.size + 1 + 1, 0, none⟩), undef, undef, undef, undef, undef, undef, undef, undef, .slice p n c, .int .i64 n, .bool false, .bool false, .slice pm m cm, .int .i64 m, .bool false, .bool false, .bool false, .slice pk k ck, .int .i64 k, .bool false, .bool false, undef, .slice p n c, .agg #[.pointer a], .slice pm m cm, .agg #[.pointer b], .slice pk k ck, .agg #[.pointer d], .agg #[.pointer a], .agg #[.pointer b], .agg #[.pointer ab], .agg #[.pointer d], .agg #[.pointer x], .agg #[.pointer a], .agg #[.pointer b], .agg #[.pointer d], undef, undef, undef, undef, undef, undef, undef, undef, undef, undef, undef, undef, undef, undef, undef, undef, undef, undef, undef, undef, undef, undef, undef, undef, undef, undef, undef, undef, undef, undef, undef, undef, undef, undef, undef, undef, undef, undef, undef, undef, undef, undef, undef, undef, undef, undef, undef, undef, undef, undef, undef, undef, undef, undef, undef, undef, undef, undef, undef, undef, undef, undef, undef, undef, undef, undef, undef, undef, undef, undef, undef, undef, undef, undef, undef, undef, undef, undef, undef, undef, undef], defers := [] } w') := Lib.hid (by
      intro ab x w' listed hl hS hx
      have Hhx := Lib.hid hx
      have HS := Lib.hid hS
      clear hx
      refine wpAnyH_ready (rs := [8, 10, 11]) (by rw [hl, hops]; kernel_rfl) (by simp) ?_
      refine AllReadyH.cons (by rw [hops]; rfl) (fun K hK => ?_) ?_
      · obtain ⟨z1, z2, z3, _⟩ := hS
        go_simp
        go_wp2_with (first | (go_at_call 29; refine (J3.out _ _ _ (HL24.out.later (below3 HS.out)) (HL34.out.later (below3 HS.out))).mono ?_; rintro r w20 ⟨bd, rfl, HNEW, HB9⟩) | fail)
        have hS2 := keep3 HB9.out HS.out
        refine hK.out _ _ hS2 (fun _ => ?_)
        exact G3000.out ab x bd w20 _ (by rw [hl]; rfl) hS2 (Hhx.out.later HB9.out) HNEW.out
      refine AllReadyH.cons (by rw [hops]; rfl) (fun K hK => ?_) ?_
      · obtain ⟨z1, z2, z3, _⟩ := hS
        have hb : Below w'.heap.size w' (w'.alloc (.cells #[.pointer none] 28)) := (Below.refl _ _).alloc (Nat.le_refl _) _
        have HBA := Lib.hid hb
        clear hb
        go_simp
        have hS2 := keep3 HBA.out HS.out
        have hle : W4.heap.size ≤ w'.heap.size := (below3 HS.out).size
        refine hK.out _ _ hS2 (fun _ => ?_)
        exact G2100.out w'.heap.size ab x _ _ (by rw [hl]; rfl) hS2 hle (Boxed.new w' 28 (.pointer none)) (Hhx.out.later HBA.out)
      refine AllReadyH.cons (by rw [hops]; rfl) (fun K hK => ?_) ?_
      · obtain ⟨z1, z2, z3, _⟩ := hS
        have hb : Below w'.heap.size w' (w'.alloc (.cells #[.pointer none] 28)) := (Below.refl _ _).alloc (Nat.le_refl _) _
        have HBA := Lib.hid hb
        clear hb
        go_simp
        have hS2 := keep3 HBA.out HS.out
        have hle : W4.heap.size ≤ w'.heap.size := (below3 HS.out).size
        refine hK.out _ _ hS2 (fun _ => ?_)
        exact G2010.out w'.heap.size ab x _ _ (by rw [hl]; rfl) hS2 hle (Boxed.new w' 28 (.pointer none)) (Hhx.out.later HBA.out)
      exact AllReadyH.nil)
    have G1110 : Hid (∀ (B1 B2 : Nat) (ab : Option Addr) (w' : World) (listed : Array Bool), listed = #[true, true, true, true, false, true, true, true, false, false, true, true, false, false] → (w'.cell? ⟨w3.heap.size, 0, none⟩ = some (.pointer a) ∧ w'.cell? ⟨w3.heap.size + 1, 0, none⟩ = some (.pointer b) ∧ w'.cell? ⟨w3.heap.size + 1 + 1, 0, none⟩ = some (.pointer d) ∧ Hid ((w3.heap.size < W4.heap.size ∧ w3.heap.size + 1 < W4.heap.size ∧ w3.heap.size + 1 + 1 < W4.heap.size) ∧ Below W4.heap.size W4 w')) → W4.heap.size ≤ B1 → Boxed w' B1 28 (.pointer none) → W4.heap.size ≤ B2 → Boxed w' B2 28 (.pointer none) → B1 ≠ B2 → Holds w' ab La → wpAnyH Try.prog .any ops Q (fun w' => (w'.cell? ⟨w3.heap.size, 0, none⟩ = some (.pointer a) ∧ w'.cell? ⟨w3.heap.size + 1, 0, none⟩ = some (.pointer b) ∧ w'.cell? ⟨w3.heap.size + 1 + 1, 0, none⟩ = some (.pointer d) ∧ Hid ((w3.heap.size < W4.heap.size ∧ w3.heap.size + 1 < W4.heap.size ∧ w3.heap.size + 1 + 1 < W4.heap.size) ∧ Below W4.heap.size W4 w'))) 5 listed { tmps := #[.slice p n c, .slice pm m cm, .slice pk k ck, .int .u16 ia, .int .u16 jf, .int .u16 jt, undef, undef, undef, undef, undef, undef, .bool false, .pointer (some ⟨w3.heap.size, 0, none⟩), .pointer (some ⟨w3.heap.size + 1, 0, none⟩), .pointer (some ⟨w3.heap.size + 1 + 1, 0, none⟩), .pointer (some ⟨B1, 0, none⟩), .pointer (some ⟨B2, 0, none⟩), undef, undef, undef, undef, undef, undef, .slice p n c, .int .i64 n, .bool false, .bool false, .slice pm m cm, .int .i64 m, .bool false, .bool false, .bool false, .slice pk k ck, .int .i64 k, .bool false, .bool false, undef, .slice p n c, .agg #[.pointer a], .slice pm m cm, .agg #[.pointer b], .slice pk k ck, .agg #[.pointer d], .agg #[.pointer a], .agg #[.pointer b], .agg #[.pointer ab], .agg #[.pointer d], undef, .agg #[.pointer a], .agg #[.pointer b], .agg #[.pointer d], undef, undef, undef, undef, undef, undef, undef, undef, undef, undef, undef, undef, undef, undef, undef, undef, undef, undef, undef, undef, undef, undef, undef, undef, undef, undef, undef, undef, undef, undef, undef, undef, undef, undef, undef, undef, undef, undef, undef, undef, undef, undef, undef, undef, undef, undef, undef, undef, undef, undef, undef, undef, undef, undef, undef, undef, undef, undef, undef, undef, undef, undef, undef, undef, undef, undef, undef, undef, undef, undef, undef, undef, undef, undef, undef, undef, undef, undef, undef, undef, undef], defers := [] } w') := Lib.hid (by
      intro B1 B2 ab w' listed hl hS u1 v1 u2 v2 ne hab
      have Hv1 := Lib.hid v1
      have Hv2 := Lib.hid v2
      have Hhab := Lib.hid hab
      have Hu1 := Lib.hid u1
      have Hu2 := Lib.hid u2
      have Hne := Lib.hid ne
      have HS := Lib.hid hS
      clear u1 v1 u2 v2 ne hab
      refine wpAnyH_ready (rs := [4]) (by rw [hl, hops]; kernel_rfl) (by simp) ?_
      refine AllReadyH.cons (by rw [hops]; rfl) (fun K hK => ?_) ?_
      · obtain ⟨z1, z2, z3, _⟩ := hS
        go_simp
        go_wp2_with (first | (go_at_call 29; refine (J2.out _ _ _ Hhab.out (HL34.out.later (below3 HS.out))).mono ?_; rintro r w20 ⟨x, rfl, HNEW, HB9⟩) | fail)
        have hS2 := keep3 HB9.out HS.out
        refine hK.out _ _ hS2 (fun _ => ?_)
        exact G2110.out B1 B2 ab x w20 _ (by rw [hl]; rfl) hS2 Hu1.out (boxOn Hv1.out HB9.out) Hu2.out (boxOn Hv2.out HB9.out) Hne.out HNEW.out
      exact AllReadyH.nil)
    have G1100 : Hid (∀ (B1 : Nat) (ab : Option Addr) (w' : World) (listed : Array Bool), listed = #[true, true, true, true, false, true, true, true, false, false, true, false, false, false] → (w'.cell? ⟨w3.heap.size, 0, none⟩ = some (.pointer a) ∧ w'.cell? ⟨w3.heap.size + 1, 0, none⟩ = some (.pointer b) ∧ w'.cell? ⟨w3.heap.size + 1 + 1, 0, none⟩ = some (.pointer d) ∧ Hid ((w3.heap.size < W4.heap.size ∧ w3.heap.size + 1 < W4.heap.size ∧ w3.heap.size + 1 + 1 < W4.heap.size) ∧ Below W4.heap.size W4 w')) → W4.heap.size ≤ B1 → Boxed w' B1 28 (.pointer none) → Holds w' ab La → wpAnyH Try.prog .any ops Q (fun w' => (w'.cell? ⟨w3.heap.size, 0, none⟩ = some (.pointer a) ∧ w'.cell? ⟨w3.heap.size + 1, 0, none⟩ = some (.pointer b) ∧ w'.cell? ⟨w3.heap.size + 1 + 1, 0, none⟩ = some (.pointer d) ∧ Hid ((w3.heap.size < W4.heap.size ∧ w3.heap.size + 1 < W4.heap.size ∧ w3.heap.size + 1 + 1 < W4.heap.size) ∧ Below W4.heap.size W4 w'))) 6 listed { tmps := #[.slice p n c, .slice pm m cm, .slice pk k ck, .int .u16 ia, .int .u16 jf, .int .u16 jt, undef, undef, undef, undef, undef, undef, .bool false, .pointer (some ⟨w3.heap.size, 0, none⟩), .pointer (some ⟨w3.heap.size + 1, 0, none⟩), .pointer (some ⟨w3.heap.size + 1 + 1, 0, none⟩), .pointer (some ⟨B1, 0, none⟩), undef, undef, undef, undef, undef, undef, undef, .slice p n c, .int .i64 n, .bool false, .bool false, .slice pm m cm, .int .i64 m, .bool false, .bool false, .bool false, .slice pk k ck, .int .i64 k, .bool false, .bool false, undef, .slice p n c, .agg #[.pointer a], .slice pm m cm, .agg #[.pointer b], .slice pk k ck, .agg #[.pointer d], .agg #[.pointer a], .agg #[.pointer b], .agg #[.pointer ab], .agg #[.pointer d], undef, .agg #[.pointer a], .agg #[.pointer b], .agg #[.pointer d], undef, undef, undef, undef, undef, undef, undef, undef, undef, undef, undef, undef, undef, undef, undef, undef, undef, undef, undef, undef, undef, undef, undef, undef, undef, undef, undef, undef, undef, undef, undef, undef, undef, undef, undef, undef, undef, undef, undef, undef, undef, undef, undef, undef, undef, undef, undef, undef, undef, undef, undef, undef, undef, undef, undef, undef, undef, undef, undef, undef, undef, undef, undef, undef, undef, undef, undef, undef, undef, undef, undef, undef, undef, undef, undef, undef, undef, undef, undef, undef, undef], defers := [] } w') := Lib.hid (by
      intro B1 ab w' listed hl hS u1 v1 hab
      have Hv1 := Lib.hid v1
      have Hhab := Lib.hid hab
      have Hu1 := Lib.hid u1
      have HS := Lib.hid hS
      clear u1 v1 hab
      refine wpAnyH_ready (rs := [4, 11]) (by rw [hl, hops]; kernel_rfl) (by simp) ?_
      refine AllReadyH.cons (by rw [hops]; rfl) (fun K hK => ?_) ?_
      · obtain ⟨z1, z2, z3, _⟩ := hS
        go_simp
        go_wp2_with (first | (go_at_call 29; refine (J2.out _ _ _ Hhab.out (HL34.out.later (below3 HS.out))).mono ?_; rintro r w20 ⟨x, rfl, HNEW, HB9⟩) | fail)
        have hS2 := keep3 HB9.out HS.out
        refine hK.out _ _ hS2 (fun _ => ?_)
        exact G2100.out B1 ab x w20 _ (by rw [hl]; rfl) hS2 Hu1.out (boxOn Hv1.out HB9.out) HNEW.out
      refine AllReadyH.cons (by rw [hops]; rfl) (fun K hK => ?_) ?_
      · obtain ⟨z1, z2, z3, _⟩ := hS
        have hb : Below w'.heap.size w' (w'.alloc (.cells #[.pointer none] 28)) := (Below.refl _ _).alloc (Nat.le_refl _) _
        have HBA := Lib.hid hb
        clear hb
        go_simp
        have hS2 := keep3 HBA.out HS.out
        have hle : W4.heap.size ≤ w'.heap.size := (below3 HS.out).size
        refine hK.out _ _ hS2 (fun _ => ?_)
        exact G1110.out B1 w'.heap.size ab _ _ (by rw [hl]; rfl) hS2 Hu1.out (boxOn Hv1.out HBA.out) hle (Boxed.new w' 28 (.pointer none)) (Nat.ne_of_lt Hv1.out.lt) (Hhab.out.later HBA.out)
      exact AllReadyH.nil)
    have G1010 : Hid (∀ (B2 : Nat) (ab : Option Addr) (w' : World) (listed : Array Bool), listed = #[true, true, true, true, false, true, true, true, false, false, false, true, false, false] → (w'.cell? ⟨w3.heap.size, 0, none⟩ = some (.pointer a) ∧ w'.cell? ⟨w3.heap.size + 1, 0, none⟩ = some (.pointer b) ∧ w'.cell? ⟨w3.heap.size + 1 + 1, 0, none⟩ = some (.pointer d) ∧ Hid ((w3.heap.size < W4.heap.size ∧ w3.heap.size + 1 < W4.heap.size ∧ w3.heap.size + 1 + 1 < W4.heap.size) ∧ Below W4.heap.size W4 w')) → W4.heap.size ≤ B2 → Boxed w' B2 28 (.pointer none) → Holds w' ab La → wpAnyH Try.prog .any ops Q (fun w' => (w'.cell? ⟨w3.heap.size, 0, none⟩ = some (.pointer a) ∧ w'.cell? ⟨w3.heap.size + 1, 0, none⟩ = some (.pointer b) ∧ w'.cell? ⟨w3.heap.size + 1 + 1, 0, none⟩ = some (.pointer d) ∧ Hid ((w3.heap.size < W4.heap.size ∧ w3.heap.size + 1 < W4.heap.size ∧ w3.heap.size + 1 + 1 < W4.heap.size) ∧ Below W4.heap.size W4 w'))) 6 listed { tmps := #[.slice p n c, .slice pm m cm, .slice pk k ck, .int .u16 ia, .int .u16 jf, .int .u16 jt, undef, undef, undef, undef, undef, undef, .bool false, .pointer (some ⟨w3.heap.size, 0, none⟩), .pointer (some ⟨w3.heap.size + 1, 0, none⟩), .pointer (some ⟨w3.heap.size + 1 + 1, 0, none⟩), undef, .pointer (some ⟨B2, 0, none⟩), undef, undef, undef, undef, undef, undef, .slice p n c, .int .i64 n, .bool false, .bool false, .slice pm m cm, .int .i64 m, .bool false, .bool false, .bool false, .slice pk k ck, .int .i64 k, .bool false, .bool false, undef, .slice p n c, .agg #[.pointer a], .slice pm m cm, .agg #[.pointer b], .slice pk k ck, .agg #[.pointer d], .agg #[.pointer a], .agg #[.pointer b], .agg #[.pointer ab], .agg #[.pointer d], undef, .agg #[.pointer a], .agg #[.pointer b], .agg #[.pointer d], undef, undef, undef, undef, undef, undef, undef, undef, undef, undef, undef, undef, undef, undef, undef, undef, undef, undef, undef, undef, undef, undef, undef, undef, undef, undef, undef, undef, undef, undef, undef, undef, undef, undef, undef, undef, undef, undef, undef, undef, undef, undef, undef, undef, undef, undef, undef, undef, undef, undef, undef, undef, undef, undef, undef, undef, undef, undef, undef, undef, undef, undef, undef, undef, undef, undef, undef, undef, undef, undef, undef, undef, undef, undef, undef, undef, undef, undef, undef, undef, undef], defers := [] } w') := Lib.hid (by
      intro B2 ab w' listed hl hS u2 v2 hab
      have Hv2 := Lib.hid v2
      have Hhab := Lib.hid hab
      have Hu2 := Lib.hid u2
      have HS := Lib.hid hS
      clear u2 v2 hab
      refine wpAnyH_ready (rs := [4, 10]) (by rw [hl, hops]; kernel_rfl) (by simp) ?_
      refine AllReadyH.cons (by rw [hops]; rfl) (fun K hK => ?_) ?_
      · obtain ⟨z1, z2, z3, _⟩ := hS
        go_simp
        go_wp2_with (first | (go_at_call 29; refine (J2.out _ _ _ Hhab.out (HL34.out.later (below3 HS.out))).mono ?_; rintro r w20 ⟨x, rfl, HNEW, HB9⟩) | fail)
        have hS2 := keep3 HB9.out HS.out
        refine hK.out _ _ hS2 (fun _ => ?_)
        exact G2010.out B2 ab x w20 _ (by rw [hl]; rfl) hS2 Hu2.out (boxOn Hv2.out HB9.out) HNEW.out
      refine AllReadyH.cons (by rw [hops]; rfl) (fun K hK => ?_) ?_
      · obtain ⟨z1, z2, z3, _⟩ := hS
        have hb : Below w'.heap.size w' (w'.alloc (.cells #[.pointer none] 28)) := (Below.refl _ _).alloc (Nat.le_refl _) _
        have HBA := Lib.hid hb
        clear hb
        go_simp
        have hS2 := keep3 HBA.out HS.out
        have hle : W4.heap.size ≤ w'.heap.size := (below3 HS.out).size
        refine hK.out _ _ hS2 (fun _ => ?_)
        exact G1110.out w'.heap.size B2 ab _ _ (by rw [hl]; rfl) hS2 hle (Boxed.new w' 28 (.pointer none)) Hu2.out (boxOn Hv2.out HBA.out) (Nat.ne_of_gt Hv2.out.lt) (Hhab.out.later HBA.out)
      exact AllReadyH.nil)
    have G1000 : Hid (∀ (ab : Option Addr) (w' : World) (listed : Array Bool), listed = #[true, true, true, true, false, true, true, true, false, false, false, false, false, false] → (w'.cell? ⟨w3.heap.size, 0, none⟩ = some (.pointer a) ∧ w'.cell? ⟨w3.heap.size + 1, 0, none⟩ = some (.pointer b) ∧ w'.cell? ⟨w3.heap.size + 1 + 1, 0, none⟩ = some (.pointer d) ∧ Hid ((w3.heap.size < W4.heap.size ∧ w3.heap.size + 1 < W4.heap.size ∧ w3.heap.size + 1 + 1 < W4.heap.size) ∧ Below W4.heap.size W4 w')) → Holds w' ab La → wpAnyH Try.prog .any ops Q (fun w' => (w'.cell? ⟨w3.heap.size, 0, none⟩ = some (.pointer a) ∧ w'.cell? ⟨w3.heap.size + 1, 0, none⟩ = some (.pointer b) ∧ w'.cell? ⟨w3.heap.size + 1 + 1, 0, none⟩ = some (.pointer d) ∧ Hid ((w3.heap.size < W4.heap.size ∧ w3.heap.size + 1 < W4.heap.size ∧ w3.heap.size + 1 + 1 < W4.heap.size) ∧ Below W4.heap.size W4 w'))) 7 listed { tmps := #[.slice p n c, .slice pm m cm, .slice pk k ck, .int .u16 ia, .int .u16 jf, .int .u16 jt, undef, undef, undef, undef, undef, undef, .bool false, .pointer (some ⟨w3.heap.size, 0, none⟩), .pointer (some ⟨w3.heap.size + 1, 0, none⟩), .pointer (some ⟨w3.heap.size + 1 + 1, 0, none⟩), undef, undef, undef, undef, undef, undef, undef, undef, .slice p n c, .int .i64 n, .bool false, .bool false, .slice pm m cm, .int .i64 m, .bool false, .bool false, .bool false, .slice pk k ck, .int .i64 k, .bool false, .bool false, undef, .slice p n c, .agg #[.pointer a], .slice pm m cm, .agg #[.pointer b], .slice pk k ck, .agg #[.pointer d], .agg #[.pointer a], .agg #[.pointer b], .agg #[.pointer ab], .agg #[.pointer d], undef, .agg #[.pointer a], .agg #[.pointer b], .agg #[.pointer d], undef, undef, undef, undef, undef, undef, undef, undef, undef, undef, undef, undef, undef, undef, undef, undef, undef, undef, undef, undef, undef, undef, undef, undef, undef, undef, undef, undef, undef, undef, undef, undef, undef, undef, undef, undef, undef, undef, undef, undef, undef, undef, undef, undef, undef, undef, undef, undef, undef, undef, undef, undef, undef, undef, undef, undef, undef, undef, undef, undef, undef, undef, undef, undef, undef, undef, undef, undef, undef, undef, undef, undef, undef, undef, undef, undef, undef, undef, undef, undef, undef], defers := [] } w') := Lib.hid (by
      intro ab w' listed hl hS hab
      have Hhab := Lib.hid hab
      have HS := Lib.hid hS
      clear hab
      refine wpAnyH_ready (rs := [4, 10, 11]) (by rw [hl, hops]; kernel_rfl) (by simp) ?_
      refine AllReadyH.cons (by rw [hops]; rfl) (fun K hK => ?_) ?_
      · obtain ⟨z1, z2, z3, _⟩ := hS
        go_simp
        go_wp2_with (first | (go_at_call 29; refine (J2.out _ _ _ Hhab.out (HL34.out.later (below3 HS.out))).mono ?_; rintro r w20 ⟨x, rfl, HNEW, HB9⟩) | fail)
        have hS2 := keep3 HB9.out HS.out
        refine hK.out _ _ hS2 (fun _ => ?_)
        exact G2000.out ab x w20 _ (by rw [hl]; rfl) hS2 HNEW.out
      refine AllReadyH.cons (by rw [hops]; rfl) (fun K hK => ?_) ?_
      · obtain ⟨z1, z2, z3, _⟩ := hS
        have hb : Below w'.heap.size w' (w'.alloc (.cells #[.pointer none] 28)) := (Below.refl _ _).alloc (Nat.le_refl _) _
        have HBA := Lib.hid hb
        clear hb
        go_simp
        have hS2 := keep3 HBA.out HS.out
        have hle : W4.heap.size ≤ w'.heap.size := (below3 HS.out).size
        refine hK.out _ _ hS2 (fun _ => ?_)
        exact G1100.out w'.heap.size ab _ _ (by rw [hl]; rfl) hS2 hle (Boxed.new w' 28 (.pointer none)) (Hhab.out.later HBA.out)
      refine AllReadyH.cons (by rw [hops]; rfl) (fun K hK => ?_) ?_
      · obtain ⟨z1, z2, z3, _⟩ := hS
        have hb : Below w'.heap.size w' (w'.alloc (.cells #[.pointer none] 28)) := (Below.refl _ _).alloc (Nat.le_refl _) _
        have HBA := Lib.hid hb
        clear hb
        go_simp
        have hS2 := keep3 HBA.out HS.out
        have hle : W4.heap.size ≤ w'.heap.size := (below3 HS.out).size
        refine hK.out _ _ hS2 (fun _ => ?_)
        exact G1010.out w'.heap.size ab _ _ (by rw [hl]; rfl) hS2 hle (Boxed.new w' 28 (.pointer none)) (Hhab.out.later HBA.out)
      exact AllReadyH.nil)
    have G0110 : Hid (∀ (B1 B2 : Nat) (w' : World) (listed : Array Bool), listed = #[true, true, false, true, false, true, true, true, false, false, true, true, false, false] → (w'.cell? ⟨w3.heap.size, 0, none⟩ = some (.pointer a) ∧ w'.cell? ⟨w3.heap.size + 1, 0, none⟩ = some (.pointer b) ∧ w'.cell? ⟨w3.heap.size + 1 + 1, 0, none⟩ = some (.pointer d) ∧ Hid ((w3.heap.size < W4.heap.size ∧ w3.heap.size + 1 < W4.heap.size ∧ w3.heap.size + 1 + 1 < W4.heap.size) ∧ Below W4.heap.size W4 w')) → W4.heap.size ≤ B1 → Boxed w' B1 28 (.pointer none) → W4.heap.size ≤ B2 → Boxed w' B2 28 (.pointer none) → B1 ≠ B2 → wpAnyH Try.prog .any ops Q (fun w' => (w'.cell? ⟨w3.heap.size, 0, none⟩ = some (.pointer a) ∧ w'.cell? ⟨w3.heap.size + 1, 0, none⟩ = some (.pointer b) ∧ w'.cell? ⟨w3.heap.size + 1 + 1, 0, none⟩ = some (.pointer d) ∧ Hid ((w3.heap.size < W4.heap.size ∧ w3.heap.size + 1 < W4.heap.size ∧ w3.heap.size + 1 + 1 < W4.heap.size) ∧ Below W4.heap.size W4 w'))) 6 listed { tmps := #[.slice p n c, .slice pm m cm, .slice pk k ck, .int .u16 ia, .int .u16 jf, .int .u16 jt, undef, undef, undef, undef, undef, undef, .bool false, .pointer (some ⟨w3.heap.size, 0, none⟩), .pointer (some ⟨w3.heap.size + 1, 0, none⟩), .pointer (some ⟨w3.heap.size + 1 + 1, 0, none⟩), .pointer (some ⟨B1, 0, none⟩), .pointer (some ⟨B2, 0, none⟩), undef, undef, undef, undef, undef, undef, .slice p n c, .int .i64 n, .bool false, .bool false, .slice pm m cm, .int .i64 m, .bool false, .bool false, .bool false, .slice pk k ck, .int .i64 k, .bool false, .bool false, undef, .slice p n c, .agg #[.pointer a], .slice pm m cm, .agg #[.pointer b], .slice pk k ck, .agg #[.pointer d], .agg #[.pointer a], .agg #[.pointer b], undef, .agg #[.pointer d], undef, .agg #[.pointer a], .agg #[.pointer b], .agg #[.pointer d], undef, undef, undef, undef, undef, undef, undef, undef, undef, undef, undef, undef, undef, undef, undef, undef, undef, undef, undef, undef, undef, undef, undef, undef, undef, undef, undef, undef, undef, undef, undef, undef, undef, undef, undef, undef, undef, undef, undef, undef, undef, undef, undef, undef, undef, undef, undef, undef, undef, undef, undef, undef, undef, undef, undef, undef, undef, undef, undef, undef, undef, undef, undef, undef, undef, undef, undef, undef, undef, undef, undef, undef, undef, undef, undef, undef, undef, undef, undef, undef, undef], defers := [] } w') := Lib.hid (by
      intro B1 B2 w' listed hl hS u1 v1 u2 v2 ne
      have Hv1 := Lib.hid v1
      have Hv2 := Lib.hid v2
      have Hu1 := Lib.hid u1
      have Hu2 := Lib.hid u2
      have Hne := Lib.hid ne
      have HS := Lib.hid hS
      clear u1 v1 u2 v2 ne
      refine wpAnyH_ready (rs := [2]) (by rw [hl, hops]; kernel_rfl) (by simp) ?_
      refine AllReadyH.cons (by rw [hops]; rfl) (fun K hK => ?_) ?_
      · obtain ⟨z1, z2, z3, _⟩ := hS
        go_simp
        go_wp2_with (first | (go_at_call 29; refine (J1.out _ _ _ (HL14.out.later (below3 HS.out)) (HL24.out.later (below3 HS.out))).mono ?_; rintro r w20 ⟨ab, rfl, HNEW, HB9⟩) | fail)
        have hS2 := keep3 HB9.out HS.out
        refine hK.out _ _ hS2 (fun _ => ?_)
        exact G1110.out B1 B2 ab w20 _ (by rw [hl]; rfl) hS2 Hu1.out (boxOn Hv1.out HB9.out) Hu2.out (boxOn Hv2.out HB9.out) Hne.out HNEW.out
      exact AllReadyH.nil)
    have G0100 : Hid (∀ (B1 : Nat) (w' : World) (listed : Array Bool), listed = #[true, true, false, true, false, true, true, true, false, false, true, false, false, false] → (w'.cell? ⟨w3.heap.size, 0, none⟩ = some (.pointer a) ∧ w'.cell? ⟨w3.heap.size + 1, 0, none⟩ = some (.pointer b) ∧ w'.cell? ⟨w3.heap.size + 1 + 1, 0, none⟩ = some (.pointer d) ∧ Hid ((w3.heap.size < W4.heap.size ∧ w3.heap.size + 1 < W4.heap.size ∧ w3.heap.size + 1 + 1 < W4.heap.size) ∧ Below W4.heap.size W4 w')) → W4.heap.size ≤ B1 → Boxed w' B1 28 (.pointer none) → wpAnyH Try.prog .any ops Q (fun w' => (w'.cell? ⟨w3.heap.size, 0, none⟩ = some (.pointer a) ∧ w'.cell? ⟨w3.heap.size + 1, 0, none⟩ = some (.pointer b) ∧ w'.cell? ⟨w3.heap.size + 1 + 1, 0, none⟩ = some (.pointer d) ∧ Hid ((w3.heap.size < W4.heap.size ∧ w3.heap.size + 1 < W4.heap.size ∧ w3.heap.size + 1 + 1 < W4.heap.size) ∧ Below W4.heap.size W4 w'))) 7 listed { tmps := #[.slice p n c, .slice pm m cm, .slice pk k ck, .int .u16 ia, .int .u16 jf, .int .u16 jt, undef, undef, undef, undef, undef, undef, .bool false, .pointer (some ⟨w3.heap.size, 0, none⟩), .pointer (some ⟨w3.heap.size + 1, 0, none⟩), .pointer (some ⟨w3.heap.size + 1 + 1, 0, none⟩), .pointer (some ⟨B1, 0, none⟩), undef, undef, undef, undef, undef, undef, undef, .slice p n c, .int .i64 n, .bool false, .bool false, .slice pm m cm, .int .i64 m, .bool false, .bool false, .bool false, .slice pk k ck, .int .i64 k, .bool false, .bool false, undef, .slice p n c, .agg #[.pointer a], .slice pm m cm, .agg #[.pointer b], .slice pk k ck, .agg #[.pointer d], .agg #[.pointer a], .agg #[.pointer b], undef, .agg #[.pointer d], undef, .agg #[.pointer a], .agg #[.pointer b], .agg #[.pointer d], undef, undef, undef, undef, undef, undef, undef, undef, undef, undef, undef, undef, undef, undef, undef, undef, undef, undef, undef, undef, undef, undef, undef, undef, undef, undef, undef, undef, undef, undef, undef, undef, undef, undef, undef, undef, undef, undef, undef, undef, undef, undef, undef, undef, undef, undef, undef, undef, undef, undef, undef, undef, undef, undef, undef, undef, undef, undef, undef, undef, undef, undef, undef, undef, undef, undef, undef, undef, undef, undef, undef, undef, undef, undef, undef, undef, undef, undef, undef, undef, undef], defers := [] } w') := Lib.hid (by
      intro B1 w' listed hl hS u1 v1
      have Hv1 := Lib.hid v1
      have Hu1 := Lib.hid u1
      have HS := Lib.hid hS
      clear u1 v1
      refine wpAnyH_ready (rs := [2, 11]) (by rw [hl, hops]; kernel_rfl) (by simp) ?_
      refine AllReadyH.cons (by rw [hops]; rfl) (fun K hK => ?_) ?_
      · obtain ⟨z1, z2, z3, _⟩ := hS
        go_simp
        go_wp2_with (first | (go_at_call 29; refine (J1.out _ _ _ (HL14.out.later (below3 HS.out)) (HL24.out.later (below3 HS.out))).mono ?_; rintro r w20 ⟨ab, rfl, HNEW, HB9⟩) | fail)
        have hS2 := keep3 HB9.out HS.out
        refine hK.out _ _ hS2 (fun _ => ?_)
        exact G1100.out B1 ab w20 _ (by rw [hl]; rfl) hS2 Hu1.out (boxOn Hv1.out HB9.out) HNEW.out
      refine AllReadyH.cons (by rw [hops]; rfl) (fun K hK => ?_) ?_
      · obtain ⟨z1, z2, z3, _⟩ := hS
        have hb : Below w'.heap.size w' (w'.alloc (.cells #[.pointer none] 28)) := (Below.refl _ _).alloc (Nat.le_refl _) _
        have HBA := Lib.hid hb
        clear hb
        go_simp
        have hS2 := keep3 HBA.out HS.out
        have hle : W4.heap.size ≤ w'.heap.size := (below3 HS.out).size
        refine hK.out _ _ hS2 (fun _ => ?_)
        exact G0110.out B1 w'.heap.size _ _ (by rw [hl]; rfl) hS2 Hu1.out (boxOn Hv1.out HBA.out) hle (Boxed.new w' 28 (.pointer none)) (Nat.ne_of_lt Hv1.out.lt)
      exact AllReadyH.nil)
    have G0010 : Hid (∀ (B2 : Nat) (w' : World) (listed : Array Bool), listed = #[true, true, false, true, false, true, true, true, false, false, false, true, false, false] → (w'.cell? ⟨w3.heap.size, 0, none⟩ = some (.pointer a) ∧ w'.cell? ⟨w3.heap.size + 1, 0, none⟩ = some (.pointer b) ∧ w'.cell? ⟨w3.heap.size + 1 + 1, 0, none⟩ = some (.pointer d) ∧ Hid ((w3.heap.size < W4.heap.size ∧ w3.heap.size + 1 < W4.heap.size ∧ w3.heap.size + 1 + 1 < W4.heap.size) ∧ Below W4.heap.size W4 w')) → W4.heap.size ≤ B2 → Boxed w' B2 28 (.pointer none) → wpAnyH Try.prog .any ops Q (fun w' => (w'.cell? ⟨w3.heap.size, 0, none⟩ = some (.pointer a) ∧ w'.cell? ⟨w3.heap.size + 1, 0, none⟩ = some (.pointer b) ∧ w'.cell? ⟨w3.heap.size + 1 + 1, 0, none⟩ = some (.pointer d) ∧ Hid ((w3.heap.size < W4.heap.size ∧ w3.heap.size + 1 < W4.heap.size ∧ w3.heap.size + 1 + 1 < W4.heap.size) ∧ Below W4.heap.size W4 w'))) 7 listed { tmps := #[.slice p n c, .slice pm m cm, .slice pk k ck, .int .u16 ia, .int .u16 jf, .int .u16 jt, undef, undef, undef, undef, undef, undef, .bool false, .pointer (some ⟨w3.heap.size, 0, none⟩), .pointer (some ⟨w3.heap.size + 1, 0, none⟩), .pointer (some ⟨w3.heap.size + 1 + 1, 0, none⟩), undef, .pointer (some ⟨B2, 0, none⟩), undef, undef, undef, undef, undef, undef, .slice p n c, .int .i64 n, .bool false, .bool false, .slice pm m cm, .int .i64 m, .bool false, .bool false, .bool false, .slice pk k ck, .int .i64 k, .bool false, .bool false, undef, .slice p n c, .agg #[.pointer a], .slice pm m cm, .agg #[.pointer b], .slice pk k ck, .agg #[.pointer d], .agg #[.pointer a], .agg #[.pointer b], undef, .agg #[.pointer d], undef, .agg #[.pointer a], .agg #[.pointer b], .agg #[.pointer d], undef, undef, undef, undef, undef, undef, undef, undef, undef, undef, undef, undef, undef, undef, undef, undef, undef, undef, undef, undef, undef, undef, undef, undef, undef, undef, undef, undef, undef, undef, undef, undef, undef, undef, undef, undef, undef, undef, undef, undef, undef, undef, undef, undef, undef, undef, undef, undef, undef, undef, undef, undef, undef, undef, undef, undef, undef, undef, undef, undef, undef, undef, undef, undef, undef, undef, undef, undef, undef, undef, undef, undef, undef, undef, undef, undef, undef, undef, undef, undef, undef], defers := [] } w') := Lib.hid (by
      intro B2 w' listed hl hS u2 v2
      have Hv2 := Lib.hid v2
      have Hu2 := Lib.hid u2
      have HS := Lib.hid hS
      clear u2 v2
      refine wpAnyH_ready (rs := [2, 10]) (by rw [hl, hops]; kernel_rfl) (by simp) ?_
      refine AllReadyH.cons (by rw [hops]; rfl) (fun K hK => ?_) ?_
      · obtain ⟨z1, z2, z3, _⟩ := hS
        go_simp
        go_wp2_with (first | (go_at_call 29; refine (J1.out _ _ _ (HL14.out.later (below3 HS.out)) (HL24.out.later (below3 HS.out))).mono ?_; rintro r w20 ⟨ab, rfl, HNEW, HB9⟩) | fail)
        have hS2 := keep3 HB9.out HS.out
        refine hK.out _ _ hS2 (fun _ => ?_)
        exact G1010.out B2 ab w20 _ (by rw [hl]; rfl) hS2 Hu2.out (boxOn Hv2.out HB9.out) HNEW.out
      refine AllReadyH.cons (by rw [hops]; rfl) (fun K hK => ?_) ?_
      · obtain ⟨z1, z2, z3, _⟩ := hS
        have hb : Below w'.heap.size w' (w'.alloc (.cells #[.pointer none] 28)) := (Below.refl _ _).alloc (Nat.le_refl _) _
        have HBA := Lib.hid hb
        clear hb
        go_simp
        have hS2 := keep3 HBA.out HS.out
        have hle : W4.heap.size ≤ w'.heap.size := (below3 HS.out).size
        refine hK.out _ _ hS2 (fun _ => ?_)
        exact G0110.out w'.heap.size B2 _ _ (by rw [hl]; rfl) hS2 hle (Boxed.new w' 28 (.pointer none)) Hu2.out (boxOn Hv2.out HBA.out) (Nat.ne_of_gt Hv2.out.lt)
      exact AllReadyH.nil)
    have G0000 : Hid (∀ (w' : World) (listed : Array Bool), listed = #[true, true, false, true, false, true, true, true, false, false, false, false, false, false] → (w'.cell? ⟨w3.heap.size, 0, none⟩ = some (.pointer a) ∧ w'.cell? ⟨w3.heap.size + 1, 0, none⟩ = some (.pointer b) ∧ w'.cell? ⟨w3.heap.size + 1 + 1, 0, none⟩ = some (.pointer d) ∧ Hid ((w3.heap.size < W4.heap.size ∧ w3.heap.size + 1 < W4.heap.size ∧ w3.heap.size + 1 + 1 < W4.heap.size) ∧ Below W4.heap.size W4 w')) → wpAnyH Try.prog .any ops Q (fun w' => (w'.cell? ⟨w3.heap.size, 0, none⟩ = some (.pointer a) ∧ w'.cell? ⟨w3.heap.size + 1, 0, none⟩ = some (.pointer b) ∧ w'.cell? ⟨w3.heap.size + 1 + 1, 0, none⟩ = some (.pointer d) ∧ Hid ((w3.heap.size < W4.heap.size ∧ w3.heap.size + 1 < W4.heap.size ∧ w3.heap.size + 1 + 1 < W4.heap.size) ∧ Below W4.heap.size W4 w'))) 8 listed { tmps := #[.slice p n c, .slice pm m cm, .slice pk k ck, .int .u16 ia, .int .u16 jf, .int .u16 jt, undef, undef, undef, undef, undef, undef, .bool false, .pointer (some ⟨w3.heap.size, 0, none⟩), .pointer (some ⟨w3.heap.size + 1, 0, none⟩), .pointer (some ⟨w3.heap.size + 1 + 1, 0, none⟩), undef, undef, undef, undef, undef, undef, undef, undef, .slice p n c, .int .i64 n, .bool false, .bool false, .slice pm m cm, .int .i64 m, .bool false, .bool false, .bool false, .slice pk k ck, .int .i64 k, .bool false, .bool false, undef, .slice p n c, .agg #[.pointer a], .slice pm m cm, .agg #[.pointer b], .slice pk k ck, .agg #[.pointer d], .agg #[.pointer a], .agg #[.pointer b], undef, .agg #[.pointer d], undef, .agg #[.pointer a], .agg #[.pointer b], .agg #[.pointer d], undef, undef, undef, undef, undef, undef, undef, undef, undef, undef, undef, undef, undef, undef, undef, undef, undef, undef, undef, undef, undef, undef, undef, undef, undef, undef, undef, undef, undef, undef, undef, undef, undef, undef, undef, undef, undef, undef, undef, undef, undef, undef, undef, undef, undef, undef, undef, undef, undef, undef, undef, undef, undef, undef, undef, undef, undef, undef, undef, undef, undef, undef, undef, undef, undef, undef, undef, undef, undef, undef, undef, undef, undef, undef, undef, undef, undef, undef, undef, undef, undef], defers := [] } w') := Lib.hid (by
      intro  w' listed hl hS 
      have HS := Lib.hid hS
      refine wpAnyH_ready (rs := [2, 10, 11]) (by rw [hl, hops]; kernel_rfl) (by simp) ?_
      refine AllReadyH.cons (by rw [hops]; rfl) (fun K hK => ?_) ?_
      · obtain ⟨z1, z2, z3, _⟩ := hS
        go_simp
        go_wp2_with (first | (go_at_call 29; refine (J1.out _ _ _ (HL14.out.later (below3 HS.out)) (HL24.out.later (below3 HS.out))).mono ?_; rintro r w20 ⟨ab, rfl, HNEW, HB9⟩) | fail)
        have hS2 := keep3 HB9.out HS.out
        refine hK.out _ _ hS2 (fun _ => ?_)
        exact G1000.out ab w20 _ (by rw [hl]; rfl) hS2 HNEW.out
      refine AllReadyH.cons (by rw [hops]; rfl) (fun K hK => ?_) ?_
      · obtain ⟨z1, z2, z3, _⟩ := hS
        have hb : Below w'.heap.size w' (w'.alloc (.cells #[.pointer none] 28)) := (Below.refl _ _).alloc (Nat.le_refl _) _
        have HBA := Lib.hid hb
        clear hb
        go_simp
        have hS2 := keep3 HBA.out HS.out
        have hle : W4.heap.size ≤ w'.heap.size := (below3 HS.out).size
        refine hK.out _ _ hS2 (fun _ => ?_)
        exact G0100.out w'.heap.size _ _ (by rw [hl]; rfl) hS2 hle (Boxed.new w' 28 (.pointer none))
      refine AllReadyH.cons (by rw [hops]; rfl) (fun K hK => ?_) ?_
      · obtain ⟨z1, z2, z3, _⟩ := hS
        have hb : Below w'.heap.size w' (w'.alloc (.cells #[.pointer none] 28)) := (Below.refl _ _).alloc (Nat.le_refl _) _
        have HBA := Lib.hid hb
        clear hb
        go_simp
        have hS2 := keep3 HBA.out HS.out
        have hle : W4.heap.size ≤ w'.heap.size := (below3 HS.out).size
        refine hK.out _ _ hS2 (fun _ => ?_)
        exact G0010.out w'.heap.size _ _ (by rw [hl]; rfl) hS2 hle (Boxed.new w' 28 (.pointer none))
      exact AllReadyH.nil)
    exact G0000.out _ _ rfl hHeld
  intro e a' w4 h
  cases e with
  | normal => ?_
  | _ => exact h.elim
  obtain ⟨B1, B2, ab, x, bd, y, rfl, HBX, HBY, HHX, HHY0, HB4⟩ := h
  have HHY : Hid (Holds w4 y Lx) := Lib.hid (by rw [← HXY.out]; exact HHY0.out)
  have HBW4 := Lib.hid (HBW.out.trans (HB4.out.mono HBW.out.size))
  refine hKA _ _ ?_
  clear hKA HHY0 HB4 J1 J2 J3 J4 HL14 HL24 HL34 hSd HBW
  have EQ : Hid (∀ a b L w', L.length ≤ 1000 → Holds w' a L → Holds w' b L → Calls Try.prog 31 #[.agg #[.pointer a], .agg #[.pointer b], .func (.func 30) #[] #[]] w' (fun r w'' => r = .returned (.bool true) ∧ Hid (Below w'.heap.size w' w''))) := Lib.hid fun a b L w' h h1 h2 => pEqualJ_any a b L w' h1 h2 (by omega)
  have HLn : Hid (Lx.length ≤ 1000) := Lib.hid (by rw [← HNX.out]; omega)
  have CLi : Hid (∀ w', Holds w' x Lx → Calls Try.prog 33 #[.agg #[.pointer x]] w' (fun r w'' => ∃ g c1, r = .returned (.slice (some ⟨g, 0, none⟩) NX c1) ∧ Hid (∀ j z, Lx[j]? = some z → w''.cell? ⟨g, j, none⟩ = some (encI z)) ∧ g < w''.heap.size ∧ Hid (Below w'.heap.size w' w''))) := Lib.hid fun w' h => by
    have := pListI_any x Lx w' h (by have := HLn.out; omega)
    rwa [← HNX.out] at this
  have CSE : Hid (∀ g c1 q cq w', (∀ j z, Lx[j]? = some z → w'.cell? ⟨g, j, none⟩ = some (encI z)) → SqL w' q Lx → Calls Try.prog 32 #[.slice (some ⟨g, 0, none⟩) NX c1, .slice q NX cq] w' (fun e w'' => e = .returned (.bool true) ∧ Hid (Below w'.heap.size w' w''))) := Lib.hid fun g c1 q cq w' h1 h2 => by
    have := eqSq_any g c1 q cq Lx w' h1 h2 (by have := HLn.out; omega)
    rwa [← HNX.out] at this
  have CLn : Hid (∀ a w', Holds w' a Lx → Calls Try.prog 28 #[.agg #[.pointer a]] w' (fun e w'' => e = .returned (.int .i64 NX) ∧ Hid (Below w'.heap.size w' w''))) := Lib.hid fun a w' ⟨o, h, _, ho⟩ => by
    have := pLenI_any a o w' h
    rwa [ho, ← HNX.out] at this
  have xx := HBX.out.cell
  have yy := HBY.out.cell
  have ARR : Hid (∀ w6 : World, (w6.alloc (.cells #[.slice p n c, .slice pm m cm, .slice pk k ck] 22)).cell? ⟨w6.heap.size, 0, none⟩ = some (.slice p n c) ∧ (w6.alloc (.cells #[.slice p n c, .slice pm m cm, .slice pk k ck] 22)).cell? ⟨w6.heap.size, 1, none⟩ = some (.slice pm m cm) ∧ (w6.alloc (.cells #[.slice p n c, .slice pm m cm, .slice pk k ck] 22)).cell? ⟨w6.heap.size, 2, none⟩ = some (.slice pk k ck)) := Lib.hid fun w6 => by
    have := heap_alloc_new w6 (.cells #[.slice p n c, .slice pm m cm, .slice pk k ck] 22)
    simp only [World.cell?, this]
    exact ⟨rfl, rfl, rfl⟩
  have BA : Hid (∀ (w6 : World) (o : Obj), Below w6.heap.size w6 (w6.alloc o)) := Lib.hid fun w6 o => (Below.refl _ _).alloc (Nat.le_refl _) o
  have hwa : IntKind.i64.wrap ia = ia := IntWalk.i64_in _ (by omega)
  have hwf : IntKind.i64.wrap jf = jf := IntWalk.i64_in _ (by omega)
  have hwt : IntKind.i64.wrap jt = jt := IntWalk.i64_in _ (by omega)
  have hwN : IntKind.i64.wrap ((NX : Int) + 1) = (NX : Int) + 1 := IntWalk.i64_in _ (by omega)
  have hN0 : ¬ ((NX : Int) + 1 = 0) := by omega
  have hdiv : ∀ v : Int, 0 ≤ v → ∃ N : Nat, N ≤ NX ∧ v % ((NX : Int) + 1) = N := fun v h0 => by
    have e1 := Int.emod_nonneg v (show (NX : Int) + 1 ≠ 0 by omega)
    have e2 := Int.emod_lt_of_pos v (show (0 : Int) < (NX : Int) + 1 by omega)
    exact ⟨(v % ((NX : Int) + 1)).toNat, by omega, by omega⟩
  obtain ⟨Ni, hNi, hma⟩ := hdiv ia hia.1
  obtain ⟨Nf, hNf, hmf⟩ := hdiv jf hjf.1
  obtain ⟨Nt, hNt, hmt⟩ := hdiv jt hjt.1
  clear hdiv
  have HTI : Hid (Lx.take Ni ++ Lx.drop Ni = Lx) := Lib.hid (List.take_append_drop _ _)
  have HLP : Hid ((Lx.take Ni).length = Ni) := Lib.hid (by rw [List.length_take, ← HNX.out]; omega)
  obtain ⟨F, hF⟩ : ∃ F, F = min Nf Ni := ⟨_, rfl⟩
  obtain ⟨G, hG⟩ : ∃ G, G = min Ni (F + Nt) := ⟨_, rfl⟩
  obtain ⟨Lp, hLp⟩ : ∃ L, L = Lx.take Ni := ⟨_, rfl⟩
  obtain ⟨Lq, hLq⟩ : ∃ L, L = Lx.drop Ni := ⟨_, rfl⟩
  obtain ⟨P1, hP1⟩ : ∃ L, L = Lp.drop F := ⟨_, rfl⟩
  obtain ⟨P2, hP2⟩ : ∃ L, L = P1.take Nt := ⟨_, rfl⟩
  rw [← hLp, ← hLq] at HTI
  rw [← hLp] at HLP
  have e1 : (Lx.take G).drop F = P2 := by
    rw [hP2, hP1, hLp, List.take_drop, List.take_take, hG, Nat.min_comm]
  have HSP : Hid (∀ w', Holds w' x Lx → Calls Try.prog 16 #[.agg #[.pointer x], .int .i64 Ni] w' (fun r w'' => ∃ a1 a2, r = .returned (.tuple #[.agg #[.pointer a1], .agg #[.pointer a2]]) ∧ Hid (Holds w'' a1 Lp) ∧ Hid (Holds w'' a2 Lq) ∧ Hid (Below w'.heap.size w' w''))) := Lib.hid fun w' h => by
    have := pSplitI_any x Lx Ni w' h (by have := HLn.out; omega)
    rwa [Int.toNat_natCast, ← hLp, ← hLq] at this
  have HP_1 : Hid (∀ w', Holds w' x Lx → Calls Try.prog 17 #[.agg #[.pointer x], .int .i64 F, .int .i64 Ni] w' (fun r w'' => ∃ c, r = .returned (.agg #[.pointer c]) ∧ Hid (Holds w'' c P1) ∧ Hid (Below w'.heap.size w' w''))) := Lib.hid fun w' h => by
    have := pPartI_any x Lx F Ni F Ni w' h (by have := HLn.out; omega) (by omega) (by omega)
    rwa [Int.toNat_natCast, Int.toNat_natCast, ← hLp, ← hP1] at this
  have HP_2 : Hid (∀ a w', Holds w' a P1 → Calls Try.prog 17 #[.agg #[.pointer a], .int .i64 0, .int .i64 Nt] w' (fun r w'' => ∃ c, r = .returned (.agg #[.pointer c]) ∧ Hid (Holds w'' c P2) ∧ Hid (Below w'.heap.size w' w''))) := Lib.hid fun a w' h => by
    have := pPartI_any a P1 0 Nt 0 Nt w' h (by rw [hP1, hLp, List.length_drop, List.length_take]; have := HLn.out; omega) (by omega) (by omega)
    rwa [Int.toNat_natCast, show (0 : Int).toNat = 0 from rfl, List.drop_zero, ← hP2] at this
  have HP_3 : Hid (∀ w', Holds w' x Lx → Calls Try.prog 17 #[.agg #[.pointer x], .int .i64 F, .int .i64 G] w' (fun r w'' => ∃ c, r = .returned (.agg #[.pointer c]) ∧ Hid (Holds w'' c P2) ∧ Hid (Below w'.heap.size w' w''))) := Lib.hid fun w' h => by
    have := pPartI_any x Lx F G F G w' h (by have := HLn.out; omega) (by omega) (by omega)
    rwa [Int.toNat_natCast, Int.toNat_natCast, e1] at this
  have HJ2 : Hid (∀ a b w', Holds w' a Lp → Holds w' b Lq → Calls Try.prog 29 #[.agg #[.pointer a], .agg #[.pointer b]] w' (fun r w'' => ∃ c, r = .returned (.agg #[.pointer c]) ∧ Hid (Holds w'' c Lx) ∧ Hid (Below w'.heap.size w' w''))) := Lib.hid fun a b w' h1 h2 => by
    have := pJoinI_any a b Lp Lq w' h1 h2 (by rw [← List.length_append, HTI.out]; have := HLn.out; omega)
    rwa [HTI.out] at this
  have HLP2 : Hid (P2.length ≤ 1000) := Lib.hid (by rw [hP2, hP1, hLp, List.length_take, List.length_drop, List.length_take]; have := HLn.out; omega)
  have CLp : Hid (∀ a w', Holds w' a Lp → Calls Try.prog 28 #[.agg #[.pointer a]] w' (fun e w'' => e = .returned (.int .i64 Ni) ∧ Hid (Below w'.heap.size w' w''))) := Lib.hid fun a w' ⟨o, h, _, ho⟩ => by
    have := pLenI_any a o w' h
    rwa [ho, HLP.out] at this
  have AW := Lib.hid (fun w => awake_any w)
  have hm1 : min (Nf : Int) (Ni : Int) = (F : Int) := by omega
  have hwG : IntKind.i64.wrap ((F : Int) + (Nt : Int)) = ((F + Nt : Nat) : Int) := by rw [IntWalk.i64_in _ (by omega)]; omega
  have hm2 : min (Ni : Int) ((F + Nt : Nat) : Int) = (G : Int) := by omega
  have hm2' : min (Ni : Int) ((F : Int) + (Nt : Int)) = (G : Int) := by omega
  have HNUM := Lib.hid (show _ ∧ _ ∧ _ ∧ _ ∧ _ ∧ _ ∧ _ ∧ _ from ⟨hm1, hwG, hm2, hm2', hmf, hmt, hNf, hNt⟩)
  have HWF := Lib.hid (And.intro hwf hwt)
  clear hF hG hLp hLq hP1 hP2 e1 hm1 hwG hm2 hm2' hmf hmt hNf hNt hNi hwf hwt
  go_wp2_with (first
    | (go_at_call 32; refine (CSE.out _ _ _ _ _ (fun j z hj => (HB7'.out.cell (p := ⟨g6, j, none⟩) hg6).trans (HX6.out j z hj)) HQ7.out).mono ?_; rintro r w8 ⟨rfl, HB8⟩; have HB48 := Lib.hid (HB47.out.trans (HB8.out.mono HB47.out.size)); have HBX8 := Lib.hid (boxOn HBX.out HB48.out); have x8 := HBX8.out.cell)
    | (go_at_call 34; have kk := ARR.out w6; refine (CC.out _ _ (HBW4.out.trans ((HB46.out.trans ((BA.out w6 _).mono HB46.out.size)).mono HBW4.out.size)) (by simp) kk.1 kk.2.1 kk.2.2).mono ?_; rintro r w7 ⟨q7, c7, rfl, HQ7, HB7⟩; have HB7' := Lib.hid ((BA.out w6 (.cells #[.slice p n c, .slice pm m cm, .slice pk k ck] 22)).trans (HB7.out.mono (by simp))); have HB47 := Lib.hid (HB46.out.trans (HB7'.out.mono HB46.out.size)); clear kk)
    | (go_at_call 33; refine (CLi.out _ (HHX.out.later HB45.out)).mono ?_; rintro r w6 ⟨g6, c6, rfl, HX6, hg6, HB6⟩; have HB46 := Lib.hid (HB45.out.trans (HB6.out.mono HB45.out.size)))
    | (go_at_call 31; refine (EQ.out _ _ _ _ HLn.out HHX.out HHY.out).mono ?_; rintro r w5 ⟨rfl, HB45⟩; have x5 := (boxOn HBX.out HB45.out).cell)
    | (go_at_call 16; refine (HSP.out _ (HHX.out.later HB49.out)).mono ?_; rintro r w10 ⟨p1, p2, rfl, HPP, HPQ, HB10⟩)
    | (go_at_call 28; have hmark := HBX8.out; refine (CLn.out _ _ (HHX.out.later HB48.out)).mono ?_; rintro r w9 ⟨rfl, HB9⟩; have HB49 := Lib.hid (HB48.out.trans (HB9.out.mono HB48.out.size)); have x9 := (boxOn HBX.out HB49.out).cell)
    | fail)
  rename_i KB hKB
  have s10 := HB10.out.size
  obtain ⟨W5, hW5⟩ : ∃ W5, W5 = (w10.alloc (.cells #[.pointer p1] 28)).alloc (.cells #[.pointer p2] 28) := ⟨_, rfl⟩
  have hb5 : Below w10.heap.size w10 W5 := by rw [hW5]; exact ((Below.refl _ _).alloc (Nat.le_refl _) _).alloc (by simp) _
  have sW5 : W5.heap.size = w10.heap.size + 2 := by rw [hW5]; simp
  have KB2 := box2 w10 (.cells #[.pointer p1] 28) (.cells #[.pointer p2] 28)
  rw [← hW5] at KB2 ⊢
  have HB410 := Lib.hid (HB49.out.trans (HB10.out.mono HB49.out.size))
  have HB45W := Lib.hid (HB410.out.trans (hb5.mono HB410.out.size))
  have HBW5 := Lib.hid (HBW4.out.trans (HB45W.out.mono HBW4.out.size))
  have HX5 := Lib.hid (HHX.out.later HB45W.out)
  have HY5 := Lib.hid (HHY.out.later HB45W.out)
  have HP5 := Lib.hid (HPP.out.later hb5)
  have HQ5 := Lib.hid (HPQ.out.later hb5)
  have bx := boxOn HBX.out HB45W.out
  have byy := boxOn HBY.out HB45W.out
  have hS0' : (W5.cell? ⟨B1, 0, none⟩ = some (.pointer x) ∧ W5.cell? ⟨B2, 0, none⟩ = some (.pointer y) ∧ W5.cell? ⟨w10.heap.size, 0, none⟩ = some (.pointer p1) ∧ W5.cell? ⟨w10.heap.size + 1, 0, none⟩ = some (.pointer p2) ∧ Hid ((B1 < W5.heap.size ∧ B2 < W5.heap.size ∧ w10.heap.size < W5.heap.size ∧ w10.heap.size + 1 < W5.heap.size) ∧ Below W5.heap.size W5 W5)) := ⟨bx.cell, byy.cell, cell_of KB2.1, cell_of KB2.2, Lib.hid ⟨⟨bx.lt, byy.lt, by omega, by omega⟩, Below.refl _ _⟩⟩
  have hS0 := keep4 (Below.refl W5.heap.size W5).drew hS0'
  have HS0' := Lib.hid hS0'
  clear hS0'
  have hwf := HWF.out.1
  have hwt := HWF.out.2
  have hmf := HNUM.out.2.2.2.2.1
  have hmt := HNUM.out.2.2.2.2.2.1
  have hmf2 : Int.tmod jf ((NX : Int) + 1) = (Nf : Int) := by rw [Int.tmod_eq_emod_of_nonneg hjf.1]; exact hmf
  have hmt2 : Int.tmod jt ((NX : Int) + 1) = (Nt : Int) := by rw [Int.tmod_eq_emod_of_nonneg hjt.1]; exact hmt
  clear hW5 hb5 sW5 KB2 bx byy HB10 HB410 HB49 HB48 HB47 HB46 HB45 HB7 HB7' HB8 HB9 HB6 HQ7 HX6 HPP HPQ x5 x8 x9 xx yy HBX8 ARR BA CC CSE CLi HSP hwa hma s10
  refine Code.wp_mono (Q := fun e a' w' => match e with | .normal => a' = { tmps := #[.slice p n c, .slice pm m cm, .slice pk k ck, .int .u16 ia, .int .u16 jf, .int .u16 jt, undef, undef, undef, undef, undef, undef, .bool false, .pointer (some ⟨w3.heap.size, 0, none⟩), .pointer (some ⟨w3.heap.size + 1, 0, none⟩), .pointer (some ⟨w3.heap.size + 1 + 1, 0, none⟩), .pointer (some ⟨B1, 0, none⟩), .pointer (some ⟨B2, 0, none⟩), .func (.func 30) #[] #[], .int .i64 Ni, .pointer (some ⟨w10.heap.size, 0, none⟩), .pointer (some ⟨w10.heap.size + 1, 0, none⟩), .int .i64 Nf, .int .i64 Nt, .slice p n c, .int .i64 n, .bool false, .bool false, .slice pm m cm, .int .i64 m, .bool false, .bool false, .bool false, .slice pk k ck, .int .i64 k, .bool false, .bool false, undef, .slice p n c, .agg #[.pointer a], .slice pm m cm, .agg #[.pointer b], .slice pk k ck, .agg #[.pointer d], .agg #[.pointer a], .agg #[.pointer b], .agg #[.pointer ab], .agg #[.pointer d], .agg #[.pointer x], .agg #[.pointer a], .agg #[.pointer b], .agg #[.pointer d], .agg #[.pointer bd], .agg #[.pointer y], .agg #[.pointer x], .agg #[.pointer y], .func (.func 30) #[] #[], .bool true, .bool false, .bool false, .agg #[.pointer x], .slice (some ⟨g6, 0, none⟩) NX c6, .slice p n c, .slice pm m cm, .slice pk k ck, .slice (some ⟨w6.heap.size, 0, none⟩) 3 3, .slice q7 NX c7, .bool true, .bool false, .bool false, .int .u16 ia, .int .i64 ia, .agg #[.pointer x], .int .i64 NX, .int .i64 ((NX : Int) + 1), .int .i64 Ni, .tuple #[.agg #[.pointer p1], .agg #[.pointer p2]], .agg #[.pointer x], .int .i64 Ni, .tuple #[.agg #[.pointer p1], .agg #[.pointer p2]], .agg #[.pointer p1], .agg #[.pointer p2], .int .u16 jf, .int .i64 jf, .agg #[.pointer x], .int .i64 NX, .int .i64 ((NX : Int) + 1), .int .i64 Nf, .int .u16 jt, .int .i64 jt, .agg #[.pointer x], .int .i64 NX, .int .i64 ((NX : Int) + 1), .int .i64 Nt, undef, undef, undef, undef, undef, undef, undef, undef, undef, undef, undef, undef, undef, undef, undef, undef, undef, undef, undef, undef, undef, undef, undef, undef, undef, undef, undef, undef, undef, undef, undef, undef, undef, undef, undef, undef, undef, undef, undef], defers := [] } ∧ Hid (Below W5.heap.size W5 w') | _ => False) ?_ ?reg10
  case reg10 =>
    clear hKB
    go_region_held3 (fun w' => (w'.cell? ⟨B1, 0, none⟩ = some (.pointer x) ∧ w'.cell? ⟨B2, 0, none⟩ = some (.pointer y) ∧ w'.cell? ⟨w10.heap.size, 0, none⟩ = some (.pointer p1) ∧ w'.cell? ⟨w10.heap.size + 1, 0, none⟩ = some (.pointer p2) ∧ Hid ((B1 < W5.heap.size ∧ B2 < W5.heap.size ∧ w10.heap.size < W5.heap.size ∧ w10.heap.size + 1 < W5.heap.size) ∧ Below W5.heap.size W5 w')))
      (first | exact hS0 | exact keep4 HB9.out (by assumption) | assumption)
      (first
        | (go_at_call 28; refine (CLn.out _ _ (HX5.out.later (below4 (by assumption)))).mono ?_; rintro r w20 ⟨rfl, HB9⟩)
        | fail)
    all_goals exact ⟨rfl, Lib.hid (below4 (by assumption))⟩
  intro e a' w11 h
  cases e with
  | normal => ?_
  | _ => exact h.elim
  obtain ⟨rfl, HB11⟩ := h
  refine hKB _ _ ?_
  clear hKB
  have HH := Lib.hid (keep4 (Below.refl _ _).drew (keep4 HB11.out HS0'.out))
  have hm1 := HNUM.out.1
  have hwG := HNUM.out.2.1
  have hm2 := HNUM.out.2.2.1
  have hm2' := HNUM.out.2.2.2.1
  clear hS0 hmf hmt hmf2 hmt2 hwf hwt hwN hN0 hia hjf hjt CLn HHX HHY HBX HBY
  go_wp2
  rename_i KC hKC
  refine wp_region_held_drew (S := fun w' => (w'.cell? ⟨B1, 0, none⟩ = some (.pointer x) ∧ w'.cell? ⟨B2, 0, none⟩ = some (.pointer y) ∧ w'.cell? ⟨w10.heap.size, 0, none⟩ = some (.pointer p1) ∧ w'.cell? ⟨w10.heap.size + 1, 0, none⟩ = some (.pointer p2) ∧ Hid ((B1 < W5.heap.size ∧ B2 < W5.heap.size ∧ w10.heap.size < W5.heap.size ∧ w10.heap.size + 1 < W5.heap.size) ∧ Below W5.heap.size W5 w'))) (by kernel_rfl) HH.out (fun hHeld => ?_)
  clear hHeld
  refine wpAnyH_take (i := 0) (v := .agg #[.pointer p1]) rfl (by kernel_rfl) (by kernel_rfl) (by kernel_rfl) (fun _ _ _ h => h) (Or.inl ⟨by rfl, by intro w hS; obtain ⟨z1, z2, z3, z4, _⟩ := hS; go_simp⟩) HH.out ?_
  go_simp
  refine wpAnyH_take (i := 2) (v := .int .i64 Ni) rfl (by kernel_rfl) (by kernel_rfl) (by kernel_rfl) (fun _ _ _ h => h) (Or.inl ⟨by rfl, by intro w hS; obtain ⟨z1, z2, z3, z4, _⟩ := hS; go_simp⟩) HH.out ?_
  go_simp
  refine wpAnyH_ready (rs := [1]) (by kernel_rfl) (by simp) ?_
  refine AllReadyH.cons rfl (fun K hK => ?_) AllReadyH.nil
  go_simp
  go_wp2_with (first | (go_at_call 28; refine (CLp.out _ _ (HP5.out.later (below4 HH.out))).mono ?_; rintro r v1 ⟨rfl, HB9⟩) | fail)
  have hH := keep4 HB9.out HH.out
  refine hK.out _ _ hH (fun _ => ?_)
  clear hK K
  replace HH := Lib.hid hH
  clear hH
  refine wpAnyH_take (i := 3) (v := .bool true) rfl (by kernel_rfl) (by kernel_rfl) (by kernel_rfl) (fun _ _ _ h => h) (Or.inl ⟨by rfl, by intro w hS; obtain ⟨z1, z2, z3, z4, _⟩ := hS; go_simp⟩) HH.out ?_
  go_simp
  refine wpAnyH_take (i := 4) (v := .bool true) rfl (by kernel_rfl) (by kernel_rfl) (by kernel_rfl) (fun _ _ _ h => h) (Or.inl ⟨by rfl, by intro w hS; obtain ⟨z1, z2, z3, z4, _⟩ := hS; go_simp⟩) HH.out ?_
  go_simp
  refine wpAnyH_take (i := 5) (v := .agg #[.pointer p1]) rfl (by kernel_rfl) (by kernel_rfl) (by kernel_rfl) (fun _ _ _ h => h) (Or.inl ⟨by rfl, by intro w hS; obtain ⟨z1, z2, z3, z4, _⟩ := hS; go_simp⟩) HH.out ?_
  go_simp
  refine wpAnyH_take (i := 6) (v := .agg #[.pointer p2]) rfl (by kernel_rfl) (by kernel_rfl) (by kernel_rfl) (fun _ _ _ h => h) (Or.inl ⟨by rfl, by intro w hS; obtain ⟨z1, z2, z3, z4, _⟩ := hS; go_simp⟩) HH.out ?_
  go_simp
  refine wpAnyH_take (i := 8) (v := .agg #[.pointer y]) rfl (by kernel_rfl) (by kernel_rfl) (by kernel_rfl) (fun _ _ _ h => h) (Or.inl ⟨by rfl, by intro w hS; obtain ⟨z1, z2, z3, z4, _⟩ := hS; go_simp⟩) HH.out ?_
  go_simp
  refine wpAnyH_take (i := 9) (v := .func (.func 30) #[] #[]) rfl (by kernel_rfl) (by kernel_rfl) (by kernel_rfl) (fun _ _ _ h => h) (Or.inl ⟨by rfl, by intro w hS; obtain ⟨z1, z2, z3, z4, _⟩ := hS; go_simp⟩) HH.out ?_
  go_simp
  refine wpAnyH_ready (rs := [7]) (by kernel_rfl) (by simp) ?_
  refine AllReadyH.cons rfl (fun K hK => ?_) AllReadyH.nil
  go_simp
  go_wp2_with (first | (go_at_call 29; refine (HJ2.out _ _ _ (HP5.out.later (below4 HH.out)) (HQ5.out.later (below4 HH.out))).mono ?_; rintro r v2 ⟨pj, rfl, HPJ, HB9⟩) | fail)
  have hH := keep4 HB9.out HH.out
  refine hK.out _ _ hH (fun _ => ?_)
  clear hK K
  replace HH := Lib.hid hH
  clear hH
  refine wpAnyH_ready (rs := [10]) (by kernel_rfl) (by simp) ?_
  refine AllReadyH.cons rfl (fun K hK => ?_) AllReadyH.nil
  go_simp
  go_wp2_with (first | (go_at_call 31; refine (EQ.out _ _ _ _ HLn.out HPJ.out (HY5.out.later (below4 HH.out))).mono ?_; rintro r v3 ⟨rfl, HB9⟩) | fail)
  have hH := keep4 HB9.out HH.out
  refine hK.out _ _ hH (fun _ => ?_)
  clear hK K
  replace HH := Lib.hid hH
  clear hH
  refine wpAnyH_take (i := 11) (v := .bool true) rfl (by kernel_rfl) (by kernel_rfl) (by kernel_rfl) (fun _ _ _ h => h) (Or.inl ⟨by rfl, by intro w hS; obtain ⟨z1, z2, z3, z4, _⟩ := hS; go_simp⟩) HH.out ?_
  go_simp
  refine wpAnyH_take (i := 12) (v := .bool true) rfl (by kernel_rfl) (by kernel_rfl) (by kernel_rfl) (fun _ _ _ h => h) (Or.inl ⟨by rfl, by intro w hS; obtain ⟨z1, z2, z3, z4, _⟩ := hS; go_simp⟩) HH.out ?_
  go_simp
  refine wpAnyH_take (i := 13) (v := .agg #[.pointer x]) rfl (by kernel_rfl) (by kernel_rfl) (by kernel_rfl) (fun _ _ _ h => h) (Or.inl ⟨by rfl, by intro w hS; obtain ⟨z1, z2, z3, z4, _⟩ := hS; go_simp⟩) HH.out ?_
  go_simp
  refine wpAnyH_take (i := 14) (v := .int .i64 Nf) rfl (by kernel_rfl) (by kernel_rfl) (by kernel_rfl) (fun _ _ _ h => h) (Or.inl ⟨by rfl, by intro w hS; obtain ⟨z1, z2, z3, z4, _⟩ := hS; go_simp⟩) HH.out ?_
  go_simp
  refine wpAnyH_take (i := 15) (v := .int .i64 Ni) rfl (by kernel_rfl) (by kernel_rfl) (by kernel_rfl) (fun _ _ _ h => h) (Or.inl ⟨by rfl, by intro w hS; obtain ⟨z1, z2, z3, z4, _⟩ := hS; go_simp⟩) HH.out ?_
  go_simp
  refine wpAnyH_take (i := 16) (v := .int .i64 F) rfl (by kernel_rfl) (by kernel_rfl) (by kernel_rfl) (fun _ _ _ h => h) (Or.inl ⟨by rfl, by intro w hS; obtain ⟨z1, z2, z3, z4, _⟩ := hS; go_simp⟩) HH.out ?_
  go_simp
  refine wpAnyH_take (i := 17) (v := .int .i64 Ni) rfl (by kernel_rfl) (by kernel_rfl) (by kernel_rfl) (fun _ _ _ h => h) (Or.inl ⟨by rfl, by intro w hS; obtain ⟨z1, z2, z3, z4, _⟩ := hS; go_simp⟩) HH.out ?_
  go_simp
  refine wpAnyH_take (i := 19) (v := .int .i64 Nt) rfl (by kernel_rfl) (by kernel_rfl) (by kernel_rfl) (fun _ _ _ h => h) (Or.inl ⟨by rfl, by intro w hS; obtain ⟨z1, z2, z3, z4, _⟩ := hS; go_simp⟩) HH.out ?_
  go_simp
  refine wpAnyH_take (i := 21) (v := .agg #[.pointer x]) rfl (by kernel_rfl) (by kernel_rfl) (by kernel_rfl) (fun _ _ _ h => h) (Or.inl ⟨by rfl, by intro w hS; obtain ⟨z1, z2, z3, z4, _⟩ := hS; go_simp⟩) HH.out ?_
  go_simp
  refine wpAnyH_take (i := 22) (v := .int .i64 Nf) rfl (by kernel_rfl) (by kernel_rfl) (by kernel_rfl) (fun _ _ _ h => h) (Or.inl ⟨by rfl, by intro w hS; obtain ⟨z1, z2, z3, z4, _⟩ := hS; go_simp⟩) HH.out ?_
  go_simp
  refine wpAnyH_take (i := 23) (v := .int .i64 Ni) rfl (by kernel_rfl) (by kernel_rfl) (by kernel_rfl) (fun _ _ _ h => h) (Or.inl ⟨by rfl, by intro w hS; obtain ⟨z1, z2, z3, z4, _⟩ := hS; go_simp⟩) HH.out ?_
  go_simp
  refine wpAnyH_take (i := 24) (v := .int .i64 F) rfl (by kernel_rfl) (by kernel_rfl) (by kernel_rfl) (fun _ _ _ h => h) (Or.inl ⟨by rfl, by intro w hS; obtain ⟨z1, z2, z3, z4, _⟩ := hS; go_simp⟩) HH.out ?_
  go_simp
  refine wpAnyH_take (i := 25) (v := .int .i64 Ni) rfl (by kernel_rfl) (by kernel_rfl) (by kernel_rfl) (fun _ _ _ h => h) (Or.inl ⟨by rfl, by intro w hS; obtain ⟨z1, z2, z3, z4, _⟩ := hS; go_simp⟩) HH.out ?_
  go_simp
  refine wpAnyH_take (i := 26) (v := .int .i64 Nf) rfl (by kernel_rfl) (by kernel_rfl) (by kernel_rfl) (fun _ _ _ h => h) (Or.inl ⟨by rfl, by intro w hS; obtain ⟨z1, z2, z3, z4, _⟩ := hS; go_simp⟩) HH.out ?_
  go_simp
  refine wpAnyH_take (i := 27) (v := .int .i64 Ni) rfl (by kernel_rfl) (by kernel_rfl) (by kernel_rfl) (fun _ _ _ h => h) (Or.inl ⟨by rfl, by intro w hS; obtain ⟨z1, z2, z3, z4, _⟩ := hS; go_simp⟩) HH.out ?_
  go_simp
  refine wpAnyH_take (i := 28) (v := .int .i64 F) rfl (by kernel_rfl) (by kernel_rfl) (by kernel_rfl) (fun _ _ _ h => h) (Or.inl ⟨by rfl, by intro w hS; obtain ⟨z1, z2, z3, z4, _⟩ := hS; go_simp⟩) HH.out ?_
  go_simp
  refine wpAnyH_take (i := 29) (v := .int .i64 Nt) rfl (by kernel_rfl) (by kernel_rfl) (by kernel_rfl) (fun _ _ _ h => h) (Or.inl ⟨by rfl, by intro w hS; obtain ⟨z1, z2, z3, z4, _⟩ := hS; go_simp⟩) HH.out ?_
  go_simp
  refine wpAnyH_take (i := 30) (v := .int .i64 ((F : Int) + (Nt : Int))) rfl (by kernel_rfl) (by kernel_rfl) (by kernel_rfl) (fun _ _ _ h => h) (Or.inl ⟨by rfl, by intro w hS; obtain ⟨z1, z2, z3, z4, _⟩ := hS; go_simp⟩) HH.out ?_
  go_simp
  refine wpAnyH_take (i := 31) (v := .int .i64 G) rfl (by kernel_rfl) (by kernel_rfl) (by kernel_rfl) (fun _ _ _ h => h) (Or.inl ⟨by rfl, by intro w hS; obtain ⟨z1, z2, z3, z4, _⟩ := hS; go_simp⟩) HH.out ?_
  go_simp
  refine wpAnyH_take (i := 33) (v := .func (.func 30) #[] #[]) rfl (by kernel_rfl) (by kernel_rfl) (by kernel_rfl) (fun _ _ _ h => h) (Or.inl ⟨by rfl, by intro w hS; obtain ⟨z1, z2, z3, z4, _⟩ := hS; go_simp⟩) HH.out ?_
  go_simp
  refine wpAnyH_ready (rs := [18]) (by kernel_rfl) (by simp) ?_
  refine AllReadyH.cons rfl (fun K hK => ?_) AllReadyH.nil
  go_simp
  go_wp2_with (first | (go_at_call 17; refine (HP_1.out _ (HX5.out.later (below4 HH.out))).mono ?_; rintro r v4 ⟨r1, rfl, HR1, HB9⟩) | fail)
  have hH := keep4 HB9.out HH.out
  refine hK.out _ _ hH (fun _ => ?_)
  clear hK K
  replace HH := Lib.hid hH
  clear hH
  refine wpAnyH_ready (rs := [20]) (by kernel_rfl) (by simp) ?_
  refine AllReadyH.cons rfl (fun K hK => ?_) AllReadyH.nil
  go_simp
  go_wp2_with (first | (go_at_call 17; refine (HP_2.out _ _ HR1.out).mono ?_; rintro r v5 ⟨r2, rfl, HR2, HB9⟩) | fail)
  have hH := keep4 HB9.out HH.out
  refine hK.out _ _ hH (fun _ => ?_)
  clear hK K
  replace HH := Lib.hid hH
  clear hH
  refine wpAnyH_ready (rs := [32]) (by kernel_rfl) (by simp) ?_
  refine AllReadyH.cons rfl (fun K hK => ?_) AllReadyH.nil
  go_simp
  go_wp2_with (first | (go_at_call 17; refine (HP_3.out _ (HX5.out.later (below4 HH.out))).mono ?_; rintro r v6 ⟨r3, rfl, HR3, HB9⟩) | fail)
  have HR2' := Lib.hid (HR2.out.later HB9.out)
  have hH := keep4 HB9.out HH.out
  refine hK.out _ _ hH (fun _ => ?_)
  clear hK K
  replace HH := Lib.hid hH
  clear hH
  refine wpAnyH_ready (rs := [34]) (by kernel_rfl) (by simp) ?_
  refine AllReadyH.cons rfl (fun K hK => ?_) AllReadyH.nil
  go_simp
  go_wp2_with (first | (go_at_call 31; refine (EQ.out _ _ _ _ HLP2.out HR2'.out HR3.out).mono ?_; rintro r v7 ⟨rfl, HB9⟩) | fail)
  have hH := keep4 HB9.out HH.out
  refine hK.out _ _ hH (fun _ => ?_)
  clear hK K
  replace HH := Lib.hid hH
  clear hH
  refine wpAnyH_take (i := 35) (v := .bool true) rfl (by kernel_rfl) (by kernel_rfl) (by kernel_rfl) (fun _ _ _ h => h) (Or.inl ⟨by rfl, by intro w hS; obtain ⟨z1, z2, z3, z4, _⟩ := hS; go_simp⟩) HH.out ?_
  go_simp
  refine wpAnyH_take (i := 36) (v := .bool true) rfl (by kernel_rfl) (by kernel_rfl) (by kernel_rfl) (fun _ _ _ h => h) (Or.inl ⟨by rfl, by intro w hS; obtain ⟨z1, z2, z3, z4, _⟩ := hS; go_simp⟩) HH.out ?_
  go_simp
  refine wpAnyH_ready (rs := [37]) (by kernel_rfl) (by simp) ?_
  refine AllReadyH.cons rfl (fun K hK => ?_) AllReadyH.nil
  go_simp
  go_wp2_with (first | (go_at_call 11; refine (AW.out _).mono ?_; rintro r v8 ⟨rfl, HB9⟩) | fail)
  have hH := keep4 HB9.out HH.out
  refine hK.out _ _ hH (fun _ => ?_)
  clear hK K
  replace HH := Lib.hid hH
  clear hH
  refine wpAnyH_take (i := 38) (v := .bool true) rfl (by kernel_rfl) (by kernel_rfl) (by kernel_rfl) (fun _ _ _ h => h) (Or.inl ⟨by rfl, by intro w hS; obtain ⟨z1, z2, z3, z4, _⟩ := hS; go_simp⟩) HH.out ?_
  go_simp
  refine wpAnyH_take (i := 39) (v := .bool true) rfl (by kernel_rfl) (by kernel_rfl) (by kernel_rfl) (fun _ _ _ h => h) (Or.inl ⟨by rfl, by intro w hS; obtain ⟨z1, z2, z3, z4, _⟩ := hS; go_simp⟩) HH.out ?_
  go_simp
  refine wpAnyH_done (by kernel_rfl) ?_ _
  have HZ := Lib.hid (HBW5.out.trans ((below4 HH.out).mono HBW5.out.size))
  refine hKC _ _ ?_
  go_wp2
  go_ret
  exact ⟨rfl, HZ⟩
end Go.Proofs.Ytamcobncfbjdmaa
