/- The law's model: one operation on lists. -/
import Derived.Test.YtamcobncfbjdmaaRTe
import Derived.Test.YtamcobncfbjdmaaRW
import Derived.Test.YtamcobncfbjdmaaRZa
import Derived.BigQuiet
import Derived.Deep.RegionHeld3
import Derived.Deep.AppendLies
namespace Go.Proofs.Ytamcobncfbjdmaa
open Go.RowKit Go.Shelf Go.BigFrame
attribute [local go_sem] Oper.semAt_some

/-- a list handed back: it may be nil. -/
def OutM (p0 : Option Addr) (r0 X : List Int) (w : World) (r : Ending) (w' : World) : Prop := ∃ p c, r = .returned (.slice p X.length c) ∧ X.length ≤ c ∧ ((p = none → c = 0) ∧ ((p = p0 ∧ X = r0) ∨ ∀ b o s, p = some ⟨b, o, s⟩ → w.heap.size ≤ b)) ∧ Hid (SqL w' p X) ∧ Hid (Below w.heap.size w w')
theorem OutR.m {p0 : Option Addr} {r0 l : List Int} {w : World} {r : Ending} {w' : World} (h : OutR l w r w') : OutM p0 r0 l w r w' := by
  obtain ⟨g, c, h1, h2, h3, h4⟩ := h
  exact ⟨_, c, h1, h2.1, ⟨(fun e => by cases e), .inr fun _ _ _ e => by cases e; exact h2.2⟩, h3, h4⟩
theorem OutM.base {p0 : Option Addr} {r0 l : List Int} {w w0 : World} {r : Ending} {w' : World} (hb : Below w0.heap.size w0 w) (h : OutM p0 r0 l w r w') : OutM p0 r0 l w0 r w' := by
  obtain ⟨g, c, h1, h2, h3, h4, h5⟩ := h
  exact ⟨g, c, h1, h2, ⟨h3.1, h3.2.imp id (fun k b o s e => Nat.le_trans hb.size (k b o s e))⟩, h4, Lib.hid (hb.trans (h5.out.mono hb.size))⟩
def cutF (fr : Int) (n : Nat) : Nat := (min (max fr 0) (n : Int)).toNat
/-- what an operation makes of two lists. -/
def mdl (kd : Nat) (fr to : Int) (r s : List Int) : List Int :=
  match kd % 6 with
  | 0 => r ++ s
  | 1 => r.drop (cutF fr r.length) ++ r.take (cutF fr r.length)
  | 2 => (r.take (max (cutF to r.length) (cutF fr r.length))).drop (cutF fr r.length)
  | 3 => r.take (cutF fr r.length) ++ s ++ r.drop (max (cutF to r.length) (cutF fr r.length))
  | 4 => r
  | _ => r.map (gF fr)
theorem owns_none {w : World} {base n m c : Nat} {v : Value} {xs : List Value} {p : Option Addr} (h : w.ownsRow base 3 1 v n xs) (hv : v = .slice p m c) : p = none → c = 0 := by
  rintro rfl
  rcases h.2 with ⟨h0, _⟩ | ⟨g, cap, cur, h0, _⟩
  · rw [hv] at h0
    cases h0
    rfl
  · rw [hv] at h0
    cases h0
theorem keep5 {W4 : World} {b1 : Nat} {v1 : Value} {w1 w2 : World} (hb : Below w1.heap.size w1 w2) (h : w1.cell? ⟨b1, 3, none⟩ = some v1 ∧ Hid (b1 < W4.heap.size ∧ Below W4.heap.size W4 w1)) : w2.cell? ⟨b1, 3, none⟩ = some v1 ∧ Hid (b1 < W4.heap.size ∧ Below W4.heap.size W4 w2) := by
  obtain ⟨h1, h2⟩ := h
  obtain ⟨l1, h5⟩ := h2.out
  have hs := h5.size
  exact ⟨(hb.cell (p := ⟨b1, 3, none⟩) (by show b1 < w1.heap.size; omega)).trans h1, Lib.hid ⟨l1, h5.trans (hb.mono hs)⟩⟩

set_option maxRecDepth 100000 in
set_option maxHeartbeats 12800000 in
theorem model0_any (g N c kd rp ot i1 i2 nr ns cr cs : Nat) (fr to : Int) (pr ps : Option Addr) (r s : List Int) (w : World) (hN : 1 ≤ N) (hNb : N ≤ 1000) (hg : g < w.heap.size) (hr0 : rp < 256) (hs0 : ot < 256) (hr1 : rp % N = i1) (hs1 : ot % N = i2) (k1 : w.cell? ⟨g, i1, none⟩ = some (.slice pr nr cr)) (k2 : w.cell? ⟨g, i2, none⟩ = some (.slice ps ns cs)) (e1 : nr = r.length) (e2 : ns = s.length) (q1 : SqL w pr r) (q2 : SqL w ps s) (z1 : pr = none → cr = 0) (z2 : ps = none → cs = 0) (u1 : nr ≤ cr) (u2 : ns ≤ cs) (b1 : nr ≤ 2000) (b2 : ns ≤ 2000) (hk : kd % 6 = 0) :
    Calls Try.prog 14 #[.slice (some ⟨g, 0, none⟩) N c, .agg #[.int .u8 (kd : Nat), .int .u8 (rp : Nat), .int .u8 (ot : Nat), .int .i64 fr, .int .i64 to]] w (OutM pr r (r ++ s) w) := by
  obtain ⟨W, hW⟩ : ∃ W, W = w.alloc (.cells #[.int .u8 (kd : Nat), .int .u8 (rp : Nat), .int .u8 (ot : Nat), .int .i64 fr, .int .i64 to] 33) := ⟨_, rfl⟩
  have hb : Below w.heap.size w W := by rw [hW]; exact (Below.refl _ _).alloc (Nat.le_refl _) _
  have hbs : w.heap.size < W.heap.size := by rw [hW]; simp
  have hn : W.heap[w.heap.size]? = some (.cells #[.int .u8 (kd : Nat), .int .u8 (rp : Nat), .int .u8 (ot : Nat), .int .i64 fr, .int .i64 to] 33) := by rw [hW]; exact heap_alloc_new w _
  have y0 : W.cell? ⟨w.heap.size, 0, none⟩ = some (.int .u8 (kd : Nat)) := by simp [World.cell?, hn]
  have y1 : W.cell? ⟨w.heap.size, 1, none⟩ = some (.int .u8 (rp : Nat)) := by simp [World.cell?, hn]
  have y2 : W.cell? ⟨w.heap.size, 2, none⟩ = some (.int .u8 (ot : Nat)) := by simp [World.cell?, hn]
  have y3 : W.cell? ⟨w.heap.size, 3, none⟩ = some (.int .i64 fr) := by simp [World.cell?, hn]
  have y4 : W.cell? ⟨w.heap.size, 4, none⟩ = some (.int .i64 to) := by simp [World.cell?, hn]
  have l1 := (hb.cell (p := ⟨g, i1, none⟩) hg).trans k1
  have l2 := (hb.cell (p := ⟨g, i2, none⟩) hg).trans k2
  have t1 : Int.tmod (rp : Int) (N : Int) = (i1 : Int) := by rw [← hr1, Int.tmod_eq_emod_of_nonneg (by omega)]; rfl
  have t2 : Int.tmod (ot : Int) (N : Int) = (i2 : Int) := by rw [← hs1, Int.tmod_eq_emod_of_nonneg (by omega)]; rfl
  have t1' : (rp : Int) % (N : Int) = (i1 : Int) := by rw [← hr1]; rfl
  have t2' : (ot : Int) % (N : Int) = (i2 : Int) := by rw [← hs1]; rfl
  have hi1 : i1 < N := by rw [← hr1]; exact Nat.mod_lt _ (by omega)
  have hi2 : i2 < N := by rw [← hs1]; exact Nat.mod_lt _ (by omega)
  have t3 : (kd : Int) % 6 = 0 := by omega
  have t3' : Int.tmod (kd : Int) 6 = 0 := by rw [Int.tmod_eq_emod_of_nonneg (by omega)]; exact t3
  have n0 : ¬ (N : Int) = 0 := by omega
  have v1 : (i1 : Int) < (N : Int) := by omega
  have v2 : (i2 : Int) < (N : Int) := by omega
  have v3 : (0 : Int) ≤ (i1 : Int) := by omega
  have v4 : (0 : Int) ≤ (i2 : Int) := by omega
  have w1 : IntKind.i64.wrap (rp : Int) = (rp : Int) := IntWalk.i64_in _ (by omega)
  have w2 : IntKind.i64.wrap (ot : Int) = (ot : Int) := IntWalk.i64_in _ (by omega)
  have Q1 := Lib.hid (q1.later hb)
  have Q2 := Lib.hid (q2.later hb)
  have HB := Lib.hid hb
  have HBS := Lib.hid hbs
  have HW := Lib.hid hW
  have HE := Lib.hid (And.intro e1 e2)
  have HZ := Lib.hid (And.intro z1 z2)
  have HU := Lib.hid (And.intro u1 u2)
  obtain ⟨NN, hNN⟩ : ∃ N, N = (r ++ s).length := ⟨_, rfl⟩
  have HC : Hid (∀ w', Below W.heap.size W w' → Calls Try.prog 50 #[.slice pr nr cr, .slice ps ns cs] w' (OutN (r ++ s) NN w')) := Lib.hid fun w' h => by
    have := refJoin_any pr ps cr cs r s w' ((q1.later hb).later h) ((q2.later hb).later h) z1 z2 (by omega)
    rw [← e1, ← e2] at this
    exact this.mono fun _ _ hr => hr.n hNN
  have HNN := Lib.hid hNN
  clear hNN
  clear hn hb hbs k1 k2 q1 q2 hg hr0 hs0 hr1 hs1 hk hNb hN e1 e2 z1 z2 u1 u2
  go_enter Try.func14, Try.ntmps14
  go_wp2
  rw [← HW.out]
  clear hW
  go_quiet (fail)
  go_simp
  rename_i KA hKA
  obtain ⟨V, hV⟩ : ∃ V, V = W.drewN nq := ⟨_, rfl⟩
  rw [← hV]
  have HVW : Hid (Below W.heap.size W V) := Lib.hid (by rw [hV]; exact below_drewN (Below.refl _ _) nq)
  have x0 : V.cell? ⟨w.heap.size, 0, none⟩ = some (.int .u8 (kd : Nat)) := by rw [hV]; exact y0
  have x3 : V.cell? ⟨w.heap.size, 3, none⟩ = some (.int .i64 fr) := by rw [hV]; exact y3
  have x4 : V.cell? ⟨w.heap.size, 4, none⟩ = some (.int .i64 to) := by rw [hV]; exact y4
  clear hV y0 y1 y2 y3 y4 l1 l2 t1 t2 t1' t2' hi1 hi2 v1 v2 v3 v4 w1 w2 n0
  refine hKA _ _ ?_
  clear hKA
  have HBV := Lib.hid (HB.out.trans (HVW.out.mono HB.out.size))
  go_wp2_with (first
    | (go_at_call 50; refine (HC.out _ HVW.out).mono ?_; rintro r1 w1 ⟨g1, c1, rfl, hc1, HQ1, HB1⟩)
    | fail)
  go_ret
  exact OutM.base HBV.out (OutR.m (OutN.r HNN.out ⟨g1, c1, rfl, hc1, HQ1, HB1⟩))

set_option maxRecDepth 100000 in
set_option maxHeartbeats 12800000 in
theorem model1_any (g N c kd rp ot i1 i2 nr ns cr cs : Nat) (fr to : Int) (pr ps : Option Addr) (r s : List Int) (w : World) (hN : 1 ≤ N) (hNb : N ≤ 1000) (hg : g < w.heap.size) (hr0 : rp < 256) (hs0 : ot < 256) (hr1 : rp % N = i1) (hs1 : ot % N = i2) (k1 : w.cell? ⟨g, i1, none⟩ = some (.slice pr nr cr)) (k2 : w.cell? ⟨g, i2, none⟩ = some (.slice ps ns cs)) (e1 : nr = r.length) (e2 : ns = s.length) (q1 : SqL w pr r) (q2 : SqL w ps s) (z1 : pr = none → cr = 0) (z2 : ps = none → cs = 0) (u1 : nr ≤ cr) (u2 : ns ≤ cs) (b1 : nr ≤ 2000) (_b2 : ns ≤ 2000) (hk : kd % 6 = 1) :
    Calls Try.prog 14 #[.slice (some ⟨g, 0, none⟩) N c, .agg #[.int .u8 (kd : Nat), .int .u8 (rp : Nat), .int .u8 (ot : Nat), .int .i64 fr, .int .i64 to]] w (OutM pr r (r.drop (cutF fr r.length) ++ r.take (cutF fr r.length)) w) := by
  obtain ⟨W, hW⟩ : ∃ W, W = w.alloc (.cells #[.int .u8 (kd : Nat), .int .u8 (rp : Nat), .int .u8 (ot : Nat), .int .i64 fr, .int .i64 to] 33) := ⟨_, rfl⟩
  have hb : Below w.heap.size w W := by rw [hW]; exact (Below.refl _ _).alloc (Nat.le_refl _) _
  have hbs : w.heap.size < W.heap.size := by rw [hW]; simp
  have hn : W.heap[w.heap.size]? = some (.cells #[.int .u8 (kd : Nat), .int .u8 (rp : Nat), .int .u8 (ot : Nat), .int .i64 fr, .int .i64 to] 33) := by rw [hW]; exact heap_alloc_new w _
  have y0 : W.cell? ⟨w.heap.size, 0, none⟩ = some (.int .u8 (kd : Nat)) := by simp [World.cell?, hn]
  have y1 : W.cell? ⟨w.heap.size, 1, none⟩ = some (.int .u8 (rp : Nat)) := by simp [World.cell?, hn]
  have y2 : W.cell? ⟨w.heap.size, 2, none⟩ = some (.int .u8 (ot : Nat)) := by simp [World.cell?, hn]
  have y3 : W.cell? ⟨w.heap.size, 3, none⟩ = some (.int .i64 fr) := by simp [World.cell?, hn]
  have y4 : W.cell? ⟨w.heap.size, 4, none⟩ = some (.int .i64 to) := by simp [World.cell?, hn]
  have l1 := (hb.cell (p := ⟨g, i1, none⟩) hg).trans k1
  have l2 := (hb.cell (p := ⟨g, i2, none⟩) hg).trans k2
  have t1 : Int.tmod (rp : Int) (N : Int) = (i1 : Int) := by rw [← hr1, Int.tmod_eq_emod_of_nonneg (by omega)]; rfl
  have t2 : Int.tmod (ot : Int) (N : Int) = (i2 : Int) := by rw [← hs1, Int.tmod_eq_emod_of_nonneg (by omega)]; rfl
  have t1' : (rp : Int) % (N : Int) = (i1 : Int) := by rw [← hr1]; rfl
  have t2' : (ot : Int) % (N : Int) = (i2 : Int) := by rw [← hs1]; rfl
  have hi1 : i1 < N := by rw [← hr1]; exact Nat.mod_lt _ (by omega)
  have hi2 : i2 < N := by rw [← hs1]; exact Nat.mod_lt _ (by omega)
  have t3 : (kd : Int) % 6 = 1 := by omega
  have t3' : Int.tmod (kd : Int) 6 = 1 := by rw [Int.tmod_eq_emod_of_nonneg (by omega)]; exact t3
  have n0 : ¬ (N : Int) = 0 := by omega
  have v1 : (i1 : Int) < (N : Int) := by omega
  have v2 : (i2 : Int) < (N : Int) := by omega
  have v3 : (0 : Int) ≤ (i1 : Int) := by omega
  have v4 : (0 : Int) ≤ (i2 : Int) := by omega
  have w1 : IntKind.i64.wrap (rp : Int) = (rp : Int) := IntWalk.i64_in _ (by omega)
  have w2 : IntKind.i64.wrap (ot : Int) = (ot : Int) := IntWalk.i64_in _ (by omega)
  have Q1 := Lib.hid (q1.later hb)
  have Q2 := Lib.hid (q2.later hb)
  have HB := Lib.hid hb
  have HBS := Lib.hid hbs
  have HW := Lib.hid hW
  have HE := Lib.hid (And.intro e1 e2)
  have HZ := Lib.hid (And.intro z1 z2)
  have HU := Lib.hid (And.intro u1 u2)
  obtain ⟨F, hF0⟩ : ∃ F, F = cutF fr r.length := ⟨_, rfl⟩
  obtain ⟨T0, hT0⟩ : ∃ T, T = cutF to r.length := ⟨_, rfl⟩
  obtain ⟨T, hT⟩ : ∃ T, T = max T0 F := ⟨_, rfl⟩
  have hF1 : min (max fr 0) (nr : Int) = (F : Int) := by rw [hF0, cutF, e1]; omega
  have hT1 : min (max to 0) (nr : Int) = (T0 : Int) := by rw [hT0, cutF, e1]; omega
  rw [← hF0]
  obtain ⟨X1, hX1⟩ : ∃ X, X = r.drop F := ⟨_, rfl⟩
  obtain ⟨X2, hX2⟩ : ∃ X, X = r.take F := ⟨_, rfl⟩
  rw [← hX1, ← hX2]
  obtain ⟨N1, hN1⟩ : ∃ N, N = X1.length := ⟨_, rfl⟩
  obtain ⟨NN, hNN⟩ : ∃ N, N = (X1 ++ X2).length := ⟨_, rfl⟩
  obtain ⟨N2, hN2⟩ : ∃ N, N = X2.length := ⟨_, rfl⟩
  have m1 : N1 ≤ 2000 := by rw [hN1, hX1, List.length_drop]; omega
  have m2 : N2 ≤ 2000 := by rw [hN2, hX2, List.length_take]; omega
  have R1 : Hid (∀ w', Below W.heap.size W w' → Calls Try.prog 18 #[.slice pr nr cr, .int .i64 fr, .int .i64 nr] w' (OutN X1 N1 w')) := Lib.hid fun w' h => by
    have := refPart_any pr cr nr F nr nr fr nr r w' ((q1.later hb).later h) z1 u1 e1 hF1 (by omega) (by omega) (by omega)
    rw [show r.take nr = r from by rw [e1, List.take_length], ← hX1] at this
    exact this.mono fun r w'' hr => hr.n hN1
  have R2 : Hid (∀ w', Below W.heap.size W w' → Calls Try.prog 18 #[.slice pr nr cr, .int .i64 0, .int .i64 fr] w' (OutN X2 N2 w')) := Lib.hid fun w' h => by
    have := refPart_any pr cr nr 0 F F 0 fr r w' ((q1.later hb).later h) z1 u1 e1 (by omega) hF1 (by omega) (by omega)
    rw [List.drop_zero, ← hX2] at this
    exact this.mono fun r w'' hr => hr.n hN2
  have JJ : Hid (∀ g1 c1 g2 c2 w', SqL w' (some ⟨g1, 0, none⟩) X1 → SqL w' (some ⟨g2, 0, none⟩) X2 → Calls Try.prog 50 #[.slice (some ⟨g1, 0, none⟩) N1 c1, .slice (some ⟨g2, 0, none⟩) N2 c2] w' (OutN (X1 ++ X2) NN w')) := Lib.hid fun g1 c1 g2 c2 w' h1 h2 => by
    have := refJoin_any (some ⟨g1, 0, none⟩) (some ⟨g2, 0, none⟩) c1 c2 X1 X2 w' h1 h2 (fun e => by cases e) (fun e => by cases e) (by rw [← hN1, ← hN2]; omega)
    rw [← hN1, ← hN2] at this
    exact this.mono fun _ _ hr => hr.n hNN
  have HNN := Lib.hid hNN
  clear hNN hX1 hX2 hN1 hN2 m1 m2 hF0 hT0 hT hF1 hT1
  clear hn hb hbs k1 k2 q1 q2 hg hr0 hs0 hr1 hs1 hk hNb hN e1 e2 z1 z2 u1 u2
  go_enter Try.func14, Try.ntmps14
  go_wp2
  rw [← HW.out]
  clear hW
  go_quiet (fail)
  go_simp
  rename_i KA hKA
  obtain ⟨V, hV⟩ : ∃ V, V = W.drewN nq := ⟨_, rfl⟩
  rw [← hV]
  have HVW : Hid (Below W.heap.size W V) := Lib.hid (by rw [hV]; exact below_drewN (Below.refl _ _) nq)
  have x0 : V.cell? ⟨w.heap.size, 0, none⟩ = some (.int .u8 (kd : Nat)) := by rw [hV]; exact y0
  have x3 : V.cell? ⟨w.heap.size, 3, none⟩ = some (.int .i64 fr) := by rw [hV]; exact y3
  have x4 : V.cell? ⟨w.heap.size, 4, none⟩ = some (.int .i64 to) := by rw [hV]; exact y4
  clear hV y0 y1 y2 y3 y4 l1 l2 t1 t2 t1' t2' hi1 hi2 v1 v2 v3 v4 w1 w2 n0
  refine hKA _ _ ?_
  clear hKA
  have HBV := Lib.hid (HB.out.trans (HVW.out.mono HB.out.size))
  go_wp2
  rename_i KB hKB
  have hS0 : V.drew.cell? ⟨w.heap.size, 3, none⟩ = some (.int .i64 fr) ∧ Hid (w.heap.size < V.heap.size ∧ Below V.heap.size V V.drew) := ⟨x3, Lib.hid ⟨by have := HVW.out.size; have := HBS.out; omega, (Below.refl _ _).drew⟩⟩
  go_region_held3 (fun w' => w'.cell? ⟨w.heap.size, 3, none⟩ = some (.int .i64 fr) ∧ Hid (w.heap.size < V.heap.size ∧ Below V.heap.size V w'))
    (first | exact hS0 | exact keep5 HB9.out (by assumption) | assumption)
    (first
      | (go_at_call 50; refine (JJ.out _ _ _ _ _ HQ1'.out HQ2.out).mono ?_; rintro r1 w20 ⟨g3, c3, rfl, hc3, HQ3, HB9⟩; have HG3 : w.heap.size ≤ g3 := Nat.le_trans (Below.size (bt HBV.out (And.right (Hid.out (And.right (by assumption)))))) hc3.2)
      | (go_at_call 18; have hmark := HQ1.out; refine (R2.out _ (bt HVW.out (And.right (Hid.out (And.right (by assumption)))))).mono ?_; rintro r1 w20 ⟨g2, c2, rfl, hc2, HQ2, HB9⟩; have HQ1' := Lib.hid (HQ1.out.later HB9.out))
      | (go_at_call 18; refine (R1.out _ (bt HVW.out (And.right (Hid.out (And.right (by assumption)))))).mono ?_; rintro r1 w20 ⟨g1, c1, rfl, hc1, HQ1, HB9⟩)
      | fail)
  all_goals
    have HZ2 := Lib.hid (bt HBV.out (And.right (Hid.out (And.right (by assumption)))))
    refine hKB _ _ ?_
    go_wp2
    go_ret
    exact ⟨_, c3, by rw [← HNN.out]; rfl, by rw [← HNN.out]; exact hc3.1, ⟨(fun e => by cases e), .inr fun _ _ _ e => by cases e; exact HG3⟩, HQ3, HZ2⟩

set_option maxRecDepth 100000 in
set_option maxHeartbeats 12800000 in
theorem model2_any (g N c kd rp ot i1 i2 nr ns cr cs : Nat) (fr to : Int) (pr ps : Option Addr) (r s : List Int) (w : World) (hN : 1 ≤ N) (hNb : N ≤ 1000) (hg : g < w.heap.size) (hr0 : rp < 256) (hs0 : ot < 256) (hr1 : rp % N = i1) (hs1 : ot % N = i2) (k1 : w.cell? ⟨g, i1, none⟩ = some (.slice pr nr cr)) (k2 : w.cell? ⟨g, i2, none⟩ = some (.slice ps ns cs)) (e1 : nr = r.length) (e2 : ns = s.length) (q1 : SqL w pr r) (q2 : SqL w ps s) (z1 : pr = none → cr = 0) (z2 : ps = none → cs = 0) (u1 : nr ≤ cr) (u2 : ns ≤ cs) (b1 : nr ≤ 2000) (_b2 : ns ≤ 2000) (hk : kd % 6 = 2) :
    Calls Try.prog 14 #[.slice (some ⟨g, 0, none⟩) N c, .agg #[.int .u8 (kd : Nat), .int .u8 (rp : Nat), .int .u8 (ot : Nat), .int .i64 fr, .int .i64 to]] w (OutM pr r ((r.take (max (cutF to r.length) (cutF fr r.length))).drop (cutF fr r.length)) w) := by
  obtain ⟨W, hW⟩ : ∃ W, W = w.alloc (.cells #[.int .u8 (kd : Nat), .int .u8 (rp : Nat), .int .u8 (ot : Nat), .int .i64 fr, .int .i64 to] 33) := ⟨_, rfl⟩
  have hb : Below w.heap.size w W := by rw [hW]; exact (Below.refl _ _).alloc (Nat.le_refl _) _
  have hbs : w.heap.size < W.heap.size := by rw [hW]; simp
  have hn : W.heap[w.heap.size]? = some (.cells #[.int .u8 (kd : Nat), .int .u8 (rp : Nat), .int .u8 (ot : Nat), .int .i64 fr, .int .i64 to] 33) := by rw [hW]; exact heap_alloc_new w _
  have y0 : W.cell? ⟨w.heap.size, 0, none⟩ = some (.int .u8 (kd : Nat)) := by simp [World.cell?, hn]
  have y1 : W.cell? ⟨w.heap.size, 1, none⟩ = some (.int .u8 (rp : Nat)) := by simp [World.cell?, hn]
  have y2 : W.cell? ⟨w.heap.size, 2, none⟩ = some (.int .u8 (ot : Nat)) := by simp [World.cell?, hn]
  have y3 : W.cell? ⟨w.heap.size, 3, none⟩ = some (.int .i64 fr) := by simp [World.cell?, hn]
  have y4 : W.cell? ⟨w.heap.size, 4, none⟩ = some (.int .i64 to) := by simp [World.cell?, hn]
  have l1 := (hb.cell (p := ⟨g, i1, none⟩) hg).trans k1
  have l2 := (hb.cell (p := ⟨g, i2, none⟩) hg).trans k2
  have t1 : Int.tmod (rp : Int) (N : Int) = (i1 : Int) := by rw [← hr1, Int.tmod_eq_emod_of_nonneg (by omega)]; rfl
  have t2 : Int.tmod (ot : Int) (N : Int) = (i2 : Int) := by rw [← hs1, Int.tmod_eq_emod_of_nonneg (by omega)]; rfl
  have t1' : (rp : Int) % (N : Int) = (i1 : Int) := by rw [← hr1]; rfl
  have t2' : (ot : Int) % (N : Int) = (i2 : Int) := by rw [← hs1]; rfl
  have hi1 : i1 < N := by rw [← hr1]; exact Nat.mod_lt _ (by omega)
  have hi2 : i2 < N := by rw [← hs1]; exact Nat.mod_lt _ (by omega)
  have t3 : (kd : Int) % 6 = 2 := by omega
  have t3' : Int.tmod (kd : Int) 6 = 2 := by rw [Int.tmod_eq_emod_of_nonneg (by omega)]; exact t3
  have n0 : ¬ (N : Int) = 0 := by omega
  have v1 : (i1 : Int) < (N : Int) := by omega
  have v2 : (i2 : Int) < (N : Int) := by omega
  have v3 : (0 : Int) ≤ (i1 : Int) := by omega
  have v4 : (0 : Int) ≤ (i2 : Int) := by omega
  have w1 : IntKind.i64.wrap (rp : Int) = (rp : Int) := IntWalk.i64_in _ (by omega)
  have w2 : IntKind.i64.wrap (ot : Int) = (ot : Int) := IntWalk.i64_in _ (by omega)
  have Q1 := Lib.hid (q1.later hb)
  have Q2 := Lib.hid (q2.later hb)
  have HB := Lib.hid hb
  have HBS := Lib.hid hbs
  have HW := Lib.hid hW
  have HE := Lib.hid (And.intro e1 e2)
  have HZ := Lib.hid (And.intro z1 z2)
  have HU := Lib.hid (And.intro u1 u2)
  obtain ⟨F, hF0⟩ : ∃ F, F = cutF fr r.length := ⟨_, rfl⟩
  obtain ⟨T0, hT0⟩ : ∃ T, T = cutF to r.length := ⟨_, rfl⟩
  obtain ⟨T, hT⟩ : ∃ T, T = max T0 F := ⟨_, rfl⟩
  have hF1 : min (max fr 0) (nr : Int) = (F : Int) := by rw [hF0, cutF, e1]; omega
  have hT1 : min (max to 0) (nr : Int) = (T0 : Int) := by rw [hT0, cutF, e1]; omega
  rw [← hF0]
  rw [← hT0, ← hT]
  obtain ⟨NN, hNN⟩ : ∃ N, N = ((r.take T).drop F).length := ⟨_, rfl⟩
  have HC : Hid (∀ w', Below W.heap.size W w' → Calls Try.prog 18 #[.slice pr nr cr, .int .i64 fr, .int .i64 to] w' (OutN ((r.take T).drop F) NN w')) := Lib.hid fun w' h => (refPart_any pr cr nr F T0 T fr to r w' ((q1.later hb).later h) z1 u1 e1 hF1 hT1 hT.symm (by omega)).mono fun _ _ hr => hr.n hNN
  have HNN := Lib.hid hNN
  clear hNN
  clear hF0 hT0 hT hF1 hT1
  clear hn hb hbs k1 k2 q1 q2 hg hr0 hs0 hr1 hs1 hk hNb hN e1 e2 z1 z2 u1 u2
  go_enter Try.func14, Try.ntmps14
  go_wp2
  rw [← HW.out]
  clear hW
  go_quiet (fail)
  go_simp
  rename_i KA hKA
  obtain ⟨V, hV⟩ : ∃ V, V = W.drewN nq := ⟨_, rfl⟩
  rw [← hV]
  have HVW : Hid (Below W.heap.size W V) := Lib.hid (by rw [hV]; exact below_drewN (Below.refl _ _) nq)
  have x0 : V.cell? ⟨w.heap.size, 0, none⟩ = some (.int .u8 (kd : Nat)) := by rw [hV]; exact y0
  have x3 : V.cell? ⟨w.heap.size, 3, none⟩ = some (.int .i64 fr) := by rw [hV]; exact y3
  have x4 : V.cell? ⟨w.heap.size, 4, none⟩ = some (.int .i64 to) := by rw [hV]; exact y4
  clear hV y0 y1 y2 y3 y4 l1 l2 t1 t2 t1' t2' hi1 hi2 v1 v2 v3 v4 w1 w2 n0
  refine hKA _ _ ?_
  clear hKA
  have HBV := Lib.hid (HB.out.trans (HVW.out.mono HB.out.size))
  go_wp2_with (first
    | (go_at_call 18; refine (HC.out _ HVW.out).mono ?_; rintro r1 w1 ⟨g1, c1, rfl, hc1, HQ1, HB1⟩)
    | fail)
  go_ret
  exact OutM.base HBV.out (OutR.m (OutN.r HNN.out ⟨g1, c1, rfl, hc1, HQ1, HB1⟩))

set_option maxRecDepth 100000 in
set_option maxHeartbeats 12800000 in
theorem model3_any (g N c kd rp ot i1 i2 nr ns cr cs : Nat) (fr to : Int) (pr ps : Option Addr) (r s : List Int) (w : World) (hN : 1 ≤ N) (hNb : N ≤ 1000) (hg : g < w.heap.size) (hr0 : rp < 256) (hs0 : ot < 256) (hr1 : rp % N = i1) (hs1 : ot % N = i2) (k1 : w.cell? ⟨g, i1, none⟩ = some (.slice pr nr cr)) (k2 : w.cell? ⟨g, i2, none⟩ = some (.slice ps ns cs)) (e1 : nr = r.length) (e2 : ns = s.length) (q1 : SqL w pr r) (q2 : SqL w ps s) (z1 : pr = none → cr = 0) (z2 : ps = none → cs = 0) (u1 : nr ≤ cr) (u2 : ns ≤ cs) (b1 : nr ≤ 2000) (b2 : ns ≤ 2000) (hk : kd % 6 = 3) :
    Calls Try.prog 14 #[.slice (some ⟨g, 0, none⟩) N c, .agg #[.int .u8 (kd : Nat), .int .u8 (rp : Nat), .int .u8 (ot : Nat), .int .i64 fr, .int .i64 to]] w (OutM pr r (r.take (cutF fr r.length) ++ s ++ r.drop (max (cutF to r.length) (cutF fr r.length))) w) := by
  obtain ⟨W, hW⟩ : ∃ W, W = w.alloc (.cells #[.int .u8 (kd : Nat), .int .u8 (rp : Nat), .int .u8 (ot : Nat), .int .i64 fr, .int .i64 to] 33) := ⟨_, rfl⟩
  have hb : Below w.heap.size w W := by rw [hW]; exact (Below.refl _ _).alloc (Nat.le_refl _) _
  have hbs : w.heap.size < W.heap.size := by rw [hW]; simp
  have hn : W.heap[w.heap.size]? = some (.cells #[.int .u8 (kd : Nat), .int .u8 (rp : Nat), .int .u8 (ot : Nat), .int .i64 fr, .int .i64 to] 33) := by rw [hW]; exact heap_alloc_new w _
  have y0 : W.cell? ⟨w.heap.size, 0, none⟩ = some (.int .u8 (kd : Nat)) := by simp [World.cell?, hn]
  have y1 : W.cell? ⟨w.heap.size, 1, none⟩ = some (.int .u8 (rp : Nat)) := by simp [World.cell?, hn]
  have y2 : W.cell? ⟨w.heap.size, 2, none⟩ = some (.int .u8 (ot : Nat)) := by simp [World.cell?, hn]
  have y3 : W.cell? ⟨w.heap.size, 3, none⟩ = some (.int .i64 fr) := by simp [World.cell?, hn]
  have y4 : W.cell? ⟨w.heap.size, 4, none⟩ = some (.int .i64 to) := by simp [World.cell?, hn]
  have l1 := (hb.cell (p := ⟨g, i1, none⟩) hg).trans k1
  have l2 := (hb.cell (p := ⟨g, i2, none⟩) hg).trans k2
  have t1 : Int.tmod (rp : Int) (N : Int) = (i1 : Int) := by rw [← hr1, Int.tmod_eq_emod_of_nonneg (by omega)]; rfl
  have t2 : Int.tmod (ot : Int) (N : Int) = (i2 : Int) := by rw [← hs1, Int.tmod_eq_emod_of_nonneg (by omega)]; rfl
  have t1' : (rp : Int) % (N : Int) = (i1 : Int) := by rw [← hr1]; rfl
  have t2' : (ot : Int) % (N : Int) = (i2 : Int) := by rw [← hs1]; rfl
  have hi1 : i1 < N := by rw [← hr1]; exact Nat.mod_lt _ (by omega)
  have hi2 : i2 < N := by rw [← hs1]; exact Nat.mod_lt _ (by omega)
  have t3 : (kd : Int) % 6 = 3 := by omega
  have t3' : Int.tmod (kd : Int) 6 = 3 := by rw [Int.tmod_eq_emod_of_nonneg (by omega)]; exact t3
  have n0 : ¬ (N : Int) = 0 := by omega
  have v1 : (i1 : Int) < (N : Int) := by omega
  have v2 : (i2 : Int) < (N : Int) := by omega
  have v3 : (0 : Int) ≤ (i1 : Int) := by omega
  have v4 : (0 : Int) ≤ (i2 : Int) := by omega
  have w1 : IntKind.i64.wrap (rp : Int) = (rp : Int) := IntWalk.i64_in _ (by omega)
  have w2 : IntKind.i64.wrap (ot : Int) = (ot : Int) := IntWalk.i64_in _ (by omega)
  have Q1 := Lib.hid (q1.later hb)
  have Q2 := Lib.hid (q2.later hb)
  have HB := Lib.hid hb
  have HBS := Lib.hid hbs
  have HW := Lib.hid hW
  have HE := Lib.hid (And.intro e1 e2)
  have HZ := Lib.hid (And.intro z1 z2)
  have HU := Lib.hid (And.intro u1 u2)
  obtain ⟨F, hF0⟩ : ∃ F, F = cutF fr r.length := ⟨_, rfl⟩
  obtain ⟨T0, hT0⟩ : ∃ T, T = cutF to r.length := ⟨_, rfl⟩
  obtain ⟨T, hT⟩ : ∃ T, T = max T0 F := ⟨_, rfl⟩
  have hF1 : min (max fr 0) (nr : Int) = (F : Int) := by rw [hF0, cutF, e1]; omega
  have hT1 : min (max to 0) (nr : Int) = (T0 : Int) := by rw [hT0, cutF, e1]; omega
  rw [← hF0]
  rw [← hT0, ← hT]
  obtain ⟨NN, hNN⟩ : ∃ N, N = (r.take F ++ s ++ r.drop T).length := ⟨_, rfl⟩
  have HC : Hid (∀ w', Below W.heap.size W w' → Calls Try.prog 20 #[.slice pr nr cr, .int .i64 fr, .int .i64 to, .slice ps ns cs] w' (OutN (r.take F ++ s ++ r.drop T) NN w')) := Lib.hid fun w' h => (refReplace_any pr ps cr cs nr ns F T0 T fr to r s w' ((q1.later hb).later h) ((q2.later hb).later h) z1 z2 u1 e1 e2 hF1 hT1 hT.symm (by omega)).mono fun _ _ hr => hr.n hNN
  have HNN := Lib.hid hNN
  clear hNN
  clear hF0 hT0 hT hF1 hT1
  clear hn hb hbs k1 k2 q1 q2 hg hr0 hs0 hr1 hs1 hk hNb hN e1 e2 z1 z2 u1 u2
  go_enter Try.func14, Try.ntmps14
  go_wp2
  rw [← HW.out]
  clear hW
  go_quiet (fail)
  go_simp
  rename_i KA hKA
  obtain ⟨V, hV⟩ : ∃ V, V = W.drewN nq := ⟨_, rfl⟩
  rw [← hV]
  have HVW : Hid (Below W.heap.size W V) := Lib.hid (by rw [hV]; exact below_drewN (Below.refl _ _) nq)
  have x0 : V.cell? ⟨w.heap.size, 0, none⟩ = some (.int .u8 (kd : Nat)) := by rw [hV]; exact y0
  have x3 : V.cell? ⟨w.heap.size, 3, none⟩ = some (.int .i64 fr) := by rw [hV]; exact y3
  have x4 : V.cell? ⟨w.heap.size, 4, none⟩ = some (.int .i64 to) := by rw [hV]; exact y4
  clear hV y0 y1 y2 y3 y4 l1 l2 t1 t2 t1' t2' hi1 hi2 v1 v2 v3 v4 w1 w2 n0
  refine hKA _ _ ?_
  clear hKA
  have HBV := Lib.hid (HB.out.trans (HVW.out.mono HB.out.size))
  go_wp2_with (first
    | (go_at_call 20; refine (HC.out _ HVW.out).mono ?_; rintro r1 w1 ⟨g1, c1, rfl, hc1, HQ1, HB1⟩)
    | fail)
  go_ret
  exact OutM.base HBV.out (OutR.m (OutN.r HNN.out ⟨g1, c1, rfl, hc1, HQ1, HB1⟩))

set_option maxRecDepth 100000 in
set_option maxHeartbeats 12800000 in
theorem model4_any (g N c kd rp ot i1 i2 nr ns cr cs : Nat) (fr to : Int) (pr ps : Option Addr) (r s : List Int) (w : World) (hN : 1 ≤ N) (hNb : N ≤ 1000) (hg : g < w.heap.size) (hr0 : rp < 256) (hs0 : ot < 256) (hr1 : rp % N = i1) (hs1 : ot % N = i2) (k1 : w.cell? ⟨g, i1, none⟩ = some (.slice pr nr cr)) (k2 : w.cell? ⟨g, i2, none⟩ = some (.slice ps ns cs)) (e1 : nr = r.length) (e2 : ns = s.length) (q1 : SqL w pr r) (q2 : SqL w ps s) (z1 : pr = none → cr = 0) (z2 : ps = none → cs = 0) (u1 : nr ≤ cr) (u2 : ns ≤ cs) (_b1 : nr ≤ 2000) (_b2 : ns ≤ 2000) (hk : kd % 6 = 4) :
    Calls Try.prog 14 #[.slice (some ⟨g, 0, none⟩) N c, .agg #[.int .u8 (kd : Nat), .int .u8 (rp : Nat), .int .u8 (ot : Nat), .int .i64 fr, .int .i64 to]] w (OutM pr r (r) w) := by
  obtain ⟨W, hW⟩ : ∃ W, W = w.alloc (.cells #[.int .u8 (kd : Nat), .int .u8 (rp : Nat), .int .u8 (ot : Nat), .int .i64 fr, .int .i64 to] 33) := ⟨_, rfl⟩
  have hb : Below w.heap.size w W := by rw [hW]; exact (Below.refl _ _).alloc (Nat.le_refl _) _
  have hbs : w.heap.size < W.heap.size := by rw [hW]; simp
  have hn : W.heap[w.heap.size]? = some (.cells #[.int .u8 (kd : Nat), .int .u8 (rp : Nat), .int .u8 (ot : Nat), .int .i64 fr, .int .i64 to] 33) := by rw [hW]; exact heap_alloc_new w _
  have y0 : W.cell? ⟨w.heap.size, 0, none⟩ = some (.int .u8 (kd : Nat)) := by simp [World.cell?, hn]
  have y1 : W.cell? ⟨w.heap.size, 1, none⟩ = some (.int .u8 (rp : Nat)) := by simp [World.cell?, hn]
  have y2 : W.cell? ⟨w.heap.size, 2, none⟩ = some (.int .u8 (ot : Nat)) := by simp [World.cell?, hn]
  have y3 : W.cell? ⟨w.heap.size, 3, none⟩ = some (.int .i64 fr) := by simp [World.cell?, hn]
  have y4 : W.cell? ⟨w.heap.size, 4, none⟩ = some (.int .i64 to) := by simp [World.cell?, hn]
  have l1 := (hb.cell (p := ⟨g, i1, none⟩) hg).trans k1
  have l2 := (hb.cell (p := ⟨g, i2, none⟩) hg).trans k2
  have t1 : Int.tmod (rp : Int) (N : Int) = (i1 : Int) := by rw [← hr1, Int.tmod_eq_emod_of_nonneg (by omega)]; rfl
  have t2 : Int.tmod (ot : Int) (N : Int) = (i2 : Int) := by rw [← hs1, Int.tmod_eq_emod_of_nonneg (by omega)]; rfl
  have t1' : (rp : Int) % (N : Int) = (i1 : Int) := by rw [← hr1]; rfl
  have t2' : (ot : Int) % (N : Int) = (i2 : Int) := by rw [← hs1]; rfl
  have hi1 : i1 < N := by rw [← hr1]; exact Nat.mod_lt _ (by omega)
  have hi2 : i2 < N := by rw [← hs1]; exact Nat.mod_lt _ (by omega)
  have t3 : (kd : Int) % 6 = 4 := by omega
  have t3' : Int.tmod (kd : Int) 6 = 4 := by rw [Int.tmod_eq_emod_of_nonneg (by omega)]; exact t3
  have n0 : ¬ (N : Int) = 0 := by omega
  have v1 : (i1 : Int) < (N : Int) := by omega
  have v2 : (i2 : Int) < (N : Int) := by omega
  have v3 : (0 : Int) ≤ (i1 : Int) := by omega
  have v4 : (0 : Int) ≤ (i2 : Int) := by omega
  have w1 : IntKind.i64.wrap (rp : Int) = (rp : Int) := IntWalk.i64_in _ (by omega)
  have w2 : IntKind.i64.wrap (ot : Int) = (ot : Int) := IntWalk.i64_in _ (by omega)
  have Q1 := Lib.hid (q1.later hb)
  have Q2 := Lib.hid (q2.later hb)
  have HB := Lib.hid hb
  have HBS := Lib.hid hbs
  have HW := Lib.hid hW
  have HE := Lib.hid (And.intro e1 e2)
  have HZ := Lib.hid (And.intro z1 z2)
  have HU := Lib.hid (And.intro u1 u2)
  clear hn hb hbs k1 k2 q1 q2 hg hr0 hs0 hr1 hs1 hk hNb hN e1 e2 z1 z2 u1 u2
  go_enter Try.func14, Try.ntmps14
  go_wp2
  rw [← HW.out]
  clear hW
  go_quiet (fail)
  go_simp
  rename_i KA hKA
  obtain ⟨V, hV⟩ : ∃ V, V = W.drewN nq := ⟨_, rfl⟩
  rw [← hV]
  have HVW : Hid (Below W.heap.size W V) := Lib.hid (by rw [hV]; exact below_drewN (Below.refl _ _) nq)
  have x0 : V.cell? ⟨w.heap.size, 0, none⟩ = some (.int .u8 (kd : Nat)) := by rw [hV]; exact y0
  have x3 : V.cell? ⟨w.heap.size, 3, none⟩ = some (.int .i64 fr) := by rw [hV]; exact y3
  have x4 : V.cell? ⟨w.heap.size, 4, none⟩ = some (.int .i64 to) := by rw [hV]; exact y4
  clear hV y0 y1 y2 y3 y4 l1 l2 t1 t2 t1' t2' hi1 hi2 v1 v2 v3 v4 w1 w2 n0
  refine hKA _ _ ?_
  clear hKA
  have HBV := Lib.hid (HB.out.trans (HVW.out.mono HB.out.size))
  go_wp2
  go_ret
  exact ⟨pr, cr, by rw [← HE.out.1]; rfl, by rw [← HE.out.1]; exact HU.out.1, ⟨HZ.out.1, .inl ⟨rfl, rfl⟩⟩, Lib.hid (Q1.out.later HVW.out), HBV⟩

set_option maxRecDepth 100000 in
set_option maxHeartbeats 12800000 in
theorem model5_any (g N c kd rp ot i1 i2 nr ns cr cs : Nat) (fr to : Int) (pr ps : Option Addr) (r s : List Int) (w : World) (hN : 1 ≤ N) (hNb : N ≤ 1000) (hg : g < w.heap.size) (hr0 : rp < 256) (hs0 : ot < 256) (hr1 : rp % N = i1) (hs1 : ot % N = i2) (k1 : w.cell? ⟨g, i1, none⟩ = some (.slice pr nr cr)) (k2 : w.cell? ⟨g, i2, none⟩ = some (.slice ps ns cs)) (e1 : nr = r.length) (e2 : ns = s.length) (q1 : SqL w pr r) (q2 : SqL w ps s) (z1 : pr = none → cr = 0) (z2 : ps = none → cs = 0) (u1 : nr ≤ cr) (u2 : ns ≤ cs) (b1 : nr ≤ 2000) (_b2 : ns ≤ 2000) (hk : kd % 6 = 5) :
    Calls Try.prog 14 #[.slice (some ⟨g, 0, none⟩) N c, .agg #[.int .u8 (kd : Nat), .int .u8 (rp : Nat), .int .u8 (ot : Nat), .int .i64 fr, .int .i64 to]] w (OutM pr r (r.map (gF fr)) w) := by
  obtain ⟨W, hW⟩ : ∃ W, W = w.alloc (.cells #[.int .u8 (kd : Nat), .int .u8 (rp : Nat), .int .u8 (ot : Nat), .int .i64 fr, .int .i64 to] 33) := ⟨_, rfl⟩
  have hb : Below w.heap.size w W := by rw [hW]; exact (Below.refl _ _).alloc (Nat.le_refl _) _
  have hbs : w.heap.size < W.heap.size := by rw [hW]; simp
  have hn : W.heap[w.heap.size]? = some (.cells #[.int .u8 (kd : Nat), .int .u8 (rp : Nat), .int .u8 (ot : Nat), .int .i64 fr, .int .i64 to] 33) := by rw [hW]; exact heap_alloc_new w _
  have y0 : W.cell? ⟨w.heap.size, 0, none⟩ = some (.int .u8 (kd : Nat)) := by simp [World.cell?, hn]
  have y1 : W.cell? ⟨w.heap.size, 1, none⟩ = some (.int .u8 (rp : Nat)) := by simp [World.cell?, hn]
  have y2 : W.cell? ⟨w.heap.size, 2, none⟩ = some (.int .u8 (ot : Nat)) := by simp [World.cell?, hn]
  have y3 : W.cell? ⟨w.heap.size, 3, none⟩ = some (.int .i64 fr) := by simp [World.cell?, hn]
  have y4 : W.cell? ⟨w.heap.size, 4, none⟩ = some (.int .i64 to) := by simp [World.cell?, hn]
  have l1 := (hb.cell (p := ⟨g, i1, none⟩) hg).trans k1
  have l2 := (hb.cell (p := ⟨g, i2, none⟩) hg).trans k2
  have t1 : Int.tmod (rp : Int) (N : Int) = (i1 : Int) := by rw [← hr1, Int.tmod_eq_emod_of_nonneg (by omega)]; rfl
  have t2 : Int.tmod (ot : Int) (N : Int) = (i2 : Int) := by rw [← hs1, Int.tmod_eq_emod_of_nonneg (by omega)]; rfl
  have t1' : (rp : Int) % (N : Int) = (i1 : Int) := by rw [← hr1]; rfl
  have t2' : (ot : Int) % (N : Int) = (i2 : Int) := by rw [← hs1]; rfl
  have hi1 : i1 < N := by rw [← hr1]; exact Nat.mod_lt _ (by omega)
  have hi2 : i2 < N := by rw [← hs1]; exact Nat.mod_lt _ (by omega)
  have t3 : (kd : Int) % 6 = 5 := by omega
  have t3' : Int.tmod (kd : Int) 6 = 5 := by rw [Int.tmod_eq_emod_of_nonneg (by omega)]; exact t3
  have n0 : ¬ (N : Int) = 0 := by omega
  have v1 : (i1 : Int) < (N : Int) := by omega
  have v2 : (i2 : Int) < (N : Int) := by omega
  have v3 : (0 : Int) ≤ (i1 : Int) := by omega
  have v4 : (0 : Int) ≤ (i2 : Int) := by omega
  have w1 : IntKind.i64.wrap (rp : Int) = (rp : Int) := IntWalk.i64_in _ (by omega)
  have w2 : IntKind.i64.wrap (ot : Int) = (ot : Int) := IntWalk.i64_in _ (by omega)
  have Q1 := Lib.hid (q1.later hb)
  have Q2 := Lib.hid (q2.later hb)
  have HB := Lib.hid hb
  have HBS := Lib.hid hbs
  have HW := Lib.hid hW
  have HE := Lib.hid (And.intro e1 e2)
  have HZ := Lib.hid (And.intro z1 z2)
  have HU := Lib.hid (And.intro u1 u2)
  clear hn hb hbs k1 k2 q1 q2 hg hr0 hs0 hr1 hs1 hk hNb hN e1 e2 z1 z2 u1 u2
  go_enter Try.func14, Try.ntmps14
  go_wp2
  rw [← HW.out]
  clear hW
  go_quiet (fail)
  go_simp
  rename_i KA hKA
  obtain ⟨V, hV⟩ : ∃ V, V = W.drewN nq := ⟨_, rfl⟩
  rw [← hV]
  have HVW : Hid (Below W.heap.size W V) := Lib.hid (by rw [hV]; exact below_drewN (Below.refl _ _) nq)
  have x0 : V.cell? ⟨w.heap.size, 0, none⟩ = some (.int .u8 (kd : Nat)) := by rw [hV]; exact y0
  have x3 : V.cell? ⟨w.heap.size, 3, none⟩ = some (.int .i64 fr) := by rw [hV]; exact y3
  have x4 : V.cell? ⟨w.heap.size, 4, none⟩ = some (.int .i64 to) := by rw [hV]; exact y4
  clear hV y0 y1 y2 y3 y4 l1 l2 t1 t2 t1' t2' hi1 hi2 v1 v2 v3 v4 w1 w2 n0
  refine hKA _ _ ?_
  clear hKA
  have HBV := Lib.hid (HB.out.trans (HVW.out.mono HB.out.size))
  go_wp2
  go_loopw [7, 71] (fun v7 v71 wr => ∃ j : Nat, v71 = .int .i64 j ∧ j ≤ nr ∧ Hid (wr.ownsRow V.heap.size 3 1 v7 j (((r.take j).map (gF fr)).map encI)) ∧ Hid (Below V.heap.size V wr)) (fun _ i _ => nr - (intOf i).toNat)
  case atStart => exact ⟨0, rfl, Nat.zero_le _, Lib.hid (World.ownsRow_nil _ _ _ _), Lib.hid (Below.refl _ _)⟩
  case round =>
    obtain ⟨j, rfl, hj, HO, HBR⟩ := hrel
    by_cases hjn : j < nr
    · obtain ⟨y, hy⟩ : ∃ y, r[j]? = some y := ⟨_, List.getElem?_eq_getElem (by rw [← HE.out.1]; exact hjn)⟩
      obtain ⟨bb, oo, hp, hbw, hcw⟩ := Q1.out j y hy
      subst hp
      have hbVR := bt HVW.out HBR.out
      have cy := (hbVR.cell (p := ⟨bb, oo + j, none⟩) hbw).trans hcw
      have cf := (HBR.out.cell (p := ⟨w.heap.size, 3, none⟩) (by have := HVW.out.size; have := HBS.out; show w.heap.size < V.heap.size; omega)).trans x3
      have hji : (j : Int) < (nr : Int) := by omega
      have hj0 : (0 : Int) ≤ (j : Int) := by omega
      have hwj : IntKind.i64.wrap ((j : Int) + 1) = (j : Int) + 1 := IntWalk.i64_in _ (by omega)
      obtain ⟨z, hz⟩ : ∃ z, z = gF fr y := ⟨_, rfl⟩
      have hzw : IntKind.i64.wrap (y + fr) = z := hz.symm
      have HT : Hid ((r.take (j + 1)).map (gF fr) = (r.take j).map (gF fr) ++ [z]) := Lib.hid (by rw [List.take_add_one, hy, List.map_append, hz]; rfl)
      have HSQ : Hid (SqL (wr.alloc (.cells #[.int .i64 z] 3)) (some ⟨wr.heap.size, 0, none⟩) [z]) := Lib.hid fun i x hx => by
        match i, hx with
        | 0, h =>
          cases h
          exact ⟨wr.heap.size, 0, rfl, by simp, by simp only [World.cell?, heap_alloc_new]; rfl⟩
        | i + 1, h => cases h
      have HBA : Hid (Below wr.heap.size wr (wr.alloc (.cells #[.int .i64 z] 3))) := Lib.hid ((Below.refl _ _).alloc (Nat.le_refl _) _)
      have HOA := Lib.hid (HO.out.alloc (.cells #[.int .i64 z] 3))
      clear hz hy hbw hcw hbVR
      go_wp2_with (first
        | (at_builtin; (refine app_sqn rfl (.tmp 75) (.tmp 80) 22 rfl Try.underlying22 V.heap.size j _ _ rfl HOA.out 1 1 (some ⟨wr.heap.size, 0, none⟩) [z] rfl rfl (fun e => by cases e) HSQ.out (by omega) (bt HBR.out HBA.out).size ?_); intro v1 w1 hO1 hg1; have HO1 := Lib.hid hO1; have HB1 := Lib.hid ((bt HBR.out HBA.out).grown hg1 (bt HBR.out HBA.out).size (fun j hj => owns_block HOA.out j hj)); clear hO1 hg1)
        | fail)
      go_roundw
      case rel => exact ⟨j + 1, by go_num, by omega, Lib.hid (by rw [HT.out, List.map_append]; exact HO1.out), HB1⟩
      case measure => simp [intOf]; omega
    · obtain rfl : j = nr := by omega
      go_wp2
      go_ret
      have ht : r.take j = r := by rw [HE.out.1, List.take_length]
      have hO := HO.out
      rw [ht] at hO
      obtain ⟨p, c, hv, hc, hq⟩ := sqn_of_owns hO (by rw [List.length_map]; exact HE.out.1)
      exact ⟨p, c, by rw [hv]; rfl, hc.1, ⟨owns_none HO.out hv, .inr fun b o s e => Nat.le_trans HBV.out.size (hc.2 b o s e)⟩, Lib.hid hq, Lib.hid (bt HBV.out HBR.out)⟩

end Go.Proofs.Ytamcobncfbjdmaa

namespace Go.Proofs.Ytamcobncfbjdmaa
open Go.RowKit Go.Shelf Go.BigFrame
attribute [local go_sem] Oper.semAt_some

theorem model_any (g N c kd rp ot i1 i2 nr ns cr cs : Nat) (fr to : Int) (pr ps : Option Addr) (r s : List Int) (w : World) (hN : 1 ≤ N) (hNb : N ≤ 1000) (hg : g < w.heap.size) (hr0 : rp < 256) (hs0 : ot < 256) (hr1 : rp % N = i1) (hs1 : ot % N = i2) (k1 : w.cell? ⟨g, i1, none⟩ = some (.slice pr nr cr)) (k2 : w.cell? ⟨g, i2, none⟩ = some (.slice ps ns cs)) (e1 : nr = r.length) (e2 : ns = s.length) (q1 : SqL w pr r) (q2 : SqL w ps s) (z1 : pr = none → cr = 0) (z2 : ps = none → cs = 0) (u1 : nr ≤ cr) (u2 : ns ≤ cs) (b1 : nr ≤ 2000) (b2 : ns ≤ 2000) :
    Calls Try.prog 14 #[.slice (some ⟨g, 0, none⟩) N c, .agg #[.int .u8 (kd : Nat), .int .u8 (rp : Nat), .int .u8 (ot : Nat), .int .i64 fr, .int .i64 to]] w (OutM pr r (mdl kd fr to r s) w) := by
  have hk : kd % 6 = 0 ∨ kd % 6 = 1 ∨ kd % 6 = 2 ∨ kd % 6 = 3 ∨ kd % 6 = 4 ∨ kd % 6 = 5 := by omega
  rcases hk with hk | hk | hk | hk | hk | hk
  · have := model0_any g N c kd rp ot i1 i2 nr ns cr cs fr to pr ps r s w hN hNb hg hr0 hs0 hr1 hs1 k1 k2 e1 e2 q1 q2 z1 z2 u1 u2 b1 b2 hk
    rwa [show r ++ s = mdl kd fr to r s from by unfold mdl; rw [hk] <;> rfl] at this
  · have := model1_any g N c kd rp ot i1 i2 nr ns cr cs fr to pr ps r s w hN hNb hg hr0 hs0 hr1 hs1 k1 k2 e1 e2 q1 q2 z1 z2 u1 u2 b1 b2 hk
    rwa [show r.drop (cutF fr r.length) ++ r.take (cutF fr r.length) = mdl kd fr to r s from by unfold mdl; rw [hk] <;> rfl] at this
  · have := model2_any g N c kd rp ot i1 i2 nr ns cr cs fr to pr ps r s w hN hNb hg hr0 hs0 hr1 hs1 k1 k2 e1 e2 q1 q2 z1 z2 u1 u2 b1 b2 hk
    rwa [show (r.take (max (cutF to r.length) (cutF fr r.length))).drop (cutF fr r.length) = mdl kd fr to r s from by unfold mdl; rw [hk] <;> rfl] at this
  · have := model3_any g N c kd rp ot i1 i2 nr ns cr cs fr to pr ps r s w hN hNb hg hr0 hs0 hr1 hs1 k1 k2 e1 e2 q1 q2 z1 z2 u1 u2 b1 b2 hk
    rwa [show r.take (cutF fr r.length) ++ s ++ r.drop (max (cutF to r.length) (cutF fr r.length)) = mdl kd fr to r s from by unfold mdl; rw [hk] <;> rfl] at this
  · have := model4_any g N c kd rp ot i1 i2 nr ns cr cs fr to pr ps r s w hN hNb hg hr0 hs0 hr1 hs1 k1 k2 e1 e2 q1 q2 z1 z2 u1 u2 b1 b2 hk
    have e : mdl kd fr to r s = r := by unfold mdl; rw [hk] <;> rfl
    rwa [e]
  · have := model5_any g N c kd rp ot i1 i2 nr ns cr cs fr to pr ps r s w hN hNb hg hr0 hs0 hr1 hs1 k1 k2 e1 e2 q1 q2 z1 z2 u1 u2 b1 b2 hk
    rwa [show r.map (gF fr) = mdl kd fr to r s from by unfold mdl; rw [hk] <;> rfl] at this

/-- an operation: kind, rope, other, from, to. -/
abbrev OpD := Nat × Nat × Nat × Int × Int
def OpsAt (w : World) (pl : Option Addr) (ops : List OpD) : Prop := ∀ j kd rp ot fr to, ops[j]? = some (kd, rp, ot, fr, to) → ∃ b o, pl = some ⟨b, o, none⟩ ∧ b < w.heap.size ∧ kd < 256 ∧ rp < 256 ∧ ot < 256 ∧
  w.cell? ⟨b, o + j * 5, none⟩ = some (.int .u8 (kd : Nat)) ∧ w.cell? ⟨b, o + j * 5 + 1, none⟩ = some (.int .u8 (rp : Nat)) ∧ w.cell? ⟨b, o + j * 5 + 2, none⟩ = some (.int .u8 (ot : Nat)) ∧ w.cell? ⟨b, o + j * 5 + 3, none⟩ = some (.int .i64 fr) ∧ w.cell? ⟨b, o + j * 5 + 4, none⟩ = some (.int .i64 to)
theorem OpsAt.later {w w' : World} {pl : Option Addr} {ops : List OpD} (h : OpsAt w pl ops) (hb : Below w.heap.size w w') : OpsAt w' pl ops := fun j kd rp ot fr to hj => by
  obtain ⟨b, o, h1, h2, h3, h4, h5, c0, c1, c2, c3, c4⟩ := h j kd rp ot fr to hj
  exact ⟨b, o, h1, Nat.lt_of_lt_of_le h2 hb.size, h3, h4, h5, (hb.cell (p := ⟨b, o + j * 5, none⟩) h2).trans c0, (hb.cell (p := ⟨b, o + j * 5 + 1, none⟩) h2).trans c1, (hb.cell (p := ⟨b, o + j * 5 + 2, none⟩) h2).trans c2, (hb.cell (p := ⟨b, o + j * 5 + 3, none⟩) h2).trans c3, (hb.cell (p := ⟨b, o + j * 5 + 4, none⟩) h2).trans c4⟩
def stepL (ls : List (List Int)) (o : OpD) : List Int := mdl o.1 o.2.2.2.1 o.2.2.2.2 (ls.getD (o.2.1 % ls.length) []) (ls.getD (o.2.2.1 % ls.length) [])
def runL : List (List Int) → List OpD → List (List Int)
  | ls, [] => ls
  | ls, o :: os => runL (ls ++ [stepL ls o]) os
def okL : List (List Int) → List OpD → Bool
  | _, [] => true
  | ls, o :: os => decide ((stepL ls o).length ≤ 2000) && okL (ls ++ [stepL ls o]) os
theorem runL_app : ∀ (os qs : List OpD) (ls : List (List Int)), runL ls (os ++ qs) = runL (runL ls os) qs
  | [], _, _ => rfl
  | _ :: os, qs, ls => by rw [List.cons_append, runL, runL, runL_app os qs]
theorem okL_app : ∀ (os qs : List OpD) (ls : List (List Int)), okL ls (os ++ qs) = (okL ls os && okL (runL ls os) qs)
  | [], _, _ => by simp [okL, runL]
  | _ :: os, qs, ls => by rw [List.cons_append, okL, okL, runL, okL_app os qs, Bool.and_assoc]
theorem runL_len : ∀ (os : List OpD) (ls : List (List Int)), (runL ls os).length = ls.length + os.length
  | [], _ => rfl
  | _ :: os, ls => by rw [runL, runL_len os, List.length_append, List.length_cons, List.length_cons, List.length_nil]; omega

/-- a list of lists in a row of the call's own, each in a block apart from the row. -/
def LL (Pn : Nat → Prop) (w : World) (base : Nat) (v : Value) (ls : List (List Int)) : Prop := ∃ g c xs, v = .slice (some ⟨g, 0, none⟩) ls.length c ∧ w.ownsRow base 22 1 v ls.length xs ∧
  ∀ (i : Nat) (l : List Int), ls[i]? = some l → ∃ p n c', xs[i]? = some (.slice p n c') ∧ n = l.length ∧ n ≤ c' ∧ (p = none → c' = 0) ∧ SqL w p l ∧ n ≤ 2000 ∧ (l ≠ [] → ∀ b o s, p = some ⟨b, o, s⟩ → b ≠ g ∧ Pn b)
theorem LL.later {Pn : Nat → Prop} {w w' : World} {base : Nat} {v : Value} {ls : List (List Int)} (h : LL Pn w base v ls) (hb : Below w.heap.size w w') : LL Pn w' base v ls := by
  obtain ⟨g, c, xs, h1, h2, h3⟩ := h
  refine ⟨g, c, xs, h1, h2.kept (row := none) ⟨hb.os, hb.tape, hb.output, hb.size, fun k hk _ => hb.block k hk⟩ (by rw [h1]; exact .inr (fun e => by cases e)), fun i l hl => ?_⟩
  obtain ⟨p, n, c', k1, k2, k3, k4, k5, k6, k7⟩ := h3 i l hl
  exact ⟨p, n, c', k1, k2, k3, k4, k5.later hb, k6, k7⟩
theorem LL.cell {Pn : Nat → Prop} {w : World} {base : Nat} {v : Value} {ls : List (List Int)} (h : LL Pn w base v ls) : ∃ g c, v = .slice (some ⟨g, 0, none⟩) ls.length c ∧ g < w.heap.size ∧ ∀ (i : Nat) (l : List Int), ls[i]? = some l → ∃ p n c', w.cell? ⟨g, i, none⟩ = some (.slice p n c') ∧ n = l.length ∧ n ≤ c' ∧ (p = none → c' = 0) ∧ SqL w p l ∧ n ≤ 2000 ∧ (l ≠ [] → ∀ b o s, p = some ⟨b, o, s⟩ → b ≠ g ∧ Pn b) := by
  obtain ⟨g, c, xs, rfl, h2, h3⟩ := h
  refine ⟨g, c, rfl, (h2.lt g rfl).2, fun i l hl => ?_⟩
  obtain ⟨p, n, c', k1, k⟩ := h3 i l hl
  have hi := (List.getElem?_eq_some_iff.1 hl).1
  exact ⟨p, n, c', (h2.cellAt i (by omega)).trans k1, k⟩
/-- a row that has grown by one list. -/
theorem LL.snoc {Pn : Nat → Prop} {w w' : World} {base g c g' c' n : Nat} {xs : List Value} {ls : List (List Int)} {l : List Int} {p : Option Addr} {cl : Nat} (h2 : w.ownsRow base 22 1 (.slice (some ⟨g, 0, none⟩) ls.length c) ls.length xs)
    (h3 : ∀ (i : Nat) (l : List Int), ls[i]? = some l → ∃ p n c', xs[i]? = some (.slice p n c') ∧ n = l.length ∧ n ≤ c' ∧ (p = none → c' = 0) ∧ SqL w p l ∧ n ≤ 2000 ∧ (l ≠ [] → ∀ b o s, p = some ⟨b, o, s⟩ → b ≠ g ∧ Pn b))
    (h4 : w'.ownsRow base 22 1 (.slice (some ⟨g', 0, none⟩) (ls.length + 1) c') (ls.length + 1) (xs ++ [.slice p n cl])) (hg : w.grownBy w' (some g)) (hl : g = g' ∨ g' = w.heap.size)
    (e1 : n = l.length) (e2 : n ≤ cl) (e3 : p = none → cl = 0) (e4 : SqL w p l) (e5 : n ≤ 2000) (e6 : l ≠ [] → ∀ b o s, p = some ⟨b, o, s⟩ → b ≠ g ∧ Pn b) : LL Pn w' base (.slice (some ⟨g', 0, none⟩) (ls.length + 1) c') (ls ++ [l]) := by
  have hx : xs.length = ls.length := by have := h2.1; omega
  have ne : ∀ {m : List Int} {j : Nat} {x : Int}, m[j]? = some x → m ≠ [] := fun h e => by rw [e] at h; cases h
  have key : ∀ (q : Option Addr) (m : List Int), SqL w q m → (m ≠ [] → ∀ b o s, q = some ⟨b, o, s⟩ → b ≠ g ∧ Pn b) → SqL w' q m := fun q m hq hne j x hj => by
    obtain ⟨b, o, k1, k2, k3⟩ := hq j x hj
    have hbg := (hne (ne hj) b o none k1).1
    exact ⟨b, o, k1, Nat.lt_of_lt_of_le k2 hg.size, hg.cell k3 (fun e => hbg (by first | exact (Option.some.inj e).symm | exact Option.some.inj e))⟩
  have apart : ∀ (q : Option Addr) (m : List Int), SqL w q m → (m ≠ [] → ∀ b o s, q = some ⟨b, o, s⟩ → b ≠ g ∧ Pn b) → m ≠ [] → ∀ b o s, q = some ⟨b, o, s⟩ → b ≠ g' ∧ Pn b := fun q m hq hne hm b o s e => by
    rcases hl with rfl | rfl
    · exact hne hm b o s e
    · obtain ⟨x, hx⟩ : ∃ x, m[0]? = some x := by cases m with | nil => exact absurd rfl hm | cons x _ => exact ⟨x, rfl⟩
      obtain ⟨b', o', k1, k2, _⟩ := hq 0 x hx
      have hP := (hne hm b o s e).2
      rw [k1] at e
      cases e
      exact ⟨by omega, hP⟩
  refine ⟨g', c', xs ++ [.slice p n cl], by rw [List.length_append]; rfl, by rw [List.length_append]; exact h4, fun i m hm => ?_⟩
  by_cases hi : i < ls.length
  · rw [List.getElem?_append_left hi] at hm
    obtain ⟨q, k, ck, k1, k2, k3, k4, k5, k6, k7⟩ := h3 i m hm
    exact ⟨q, k, ck, by rw [List.getElem?_append_left (by omega)]; exact k1, k2, k3, k4, key q m k5 k7, k6, apart q m k5 k7⟩
  · have hi2 : i < ls.length + 1 := by have := (List.getElem?_eq_some_iff.1 hm).1; simpa using this
    obtain rfl : i = ls.length := by omega
    rw [List.getElem?_append_right (Nat.le_refl _), Nat.sub_self] at hm
    obtain rfl : l = m := by simpa using hm
    exact ⟨p, n, cl, by rw [List.getElem?_append_right (by omega), hx, Nat.sub_self]; rfl, e1, e2, e3, key p l e4 e6, e5, apart p l e4 e6⟩
theorem BAo (w : World) (o : Obj) : Below w.heap.size w (w.alloc o) := (Below.refl _ _).alloc (Nat.le_refl _) _
theorem one_new (w : World) (x : Value) (t : TypeId) : ∀ (j : Nat) (u : Value), [x][j]? = some u → (w.alloc (.cells #[x] t)).cell? ((⟨w.heap.size, 0, none⟩ : Addr).add j) = some u := fun j u hu => by
  match j, hu with
  | 0, h =>
    cases h
    have := heap_alloc_new w (.cells #[x] t)
    simp only [Addr.add_lit, World.cell?, this]
    rfl
  | j + 1, h => cases h
theorem Try.infoSl : (Try.prog.info? 22).map (fun i => (i.zero, i.size, i.bytes)) = some (some (.slice none 0 0), 1, 24) := by kernel_rfl

set_option maxRecDepth 100000 in
set_option maxHeartbeats 12800000 in
theorem small_any (p pl : Option Addr) (n c nl cl : Nat) (l : List Int) (ops : List OpD) (w : World) (hn : n = l.length) (hnl : nl = ops.length) (hq : SqL w p l) (hc : n ≤ c) (hz : p = none → c = 0) (ho : OpsAt w pl ops) (h500 : n ≤ 500) (h60 : nl ≤ 60) :
    Calls Try.prog 10 #[.slice p n c, .slice pl nl cl] w (fun r w' => r = .returned (.bool (okL [l] ops)) ∧ Hid (Below w.heap.size w w')) := by
  have i1 : ¬ (500 : Int) < (n : Int) := by omega
  have i2 : ¬ (60 : Int) < (nl : Int) := by omega
  have hb0 : Below w.heap.size w (w.alloc (.cells #[.slice p n c] 22)) := (Below.refl _ _).alloc (Nat.le_refl _) _
  have HL0 : Hid (LL (fun _ => True) (w.alloc (.cells #[.slice p n c] 22)) w.heap.size (.slice (some ⟨w.heap.size, 0, none⟩) 1 1) [l]) := Lib.hid ⟨w.heap.size, 1, [.slice p n c], rfl, World.ownsRow_lit w #[.slice p n c] 1 (Nat.le_refl _) (by decide) rfl, fun i m hm => by
    match i, hm with
    | 0, h =>
      obtain rfl : l = m := by simpa using h
      refine ⟨p, n, c, rfl, hn, hc, hz, hq.later hb0, by omega, fun hne b o s e => ?_⟩
      obtain ⟨x, hx⟩ : ∃ x, l[0]? = some x := by cases l with | nil => exact absurd rfl hne | cons x _ => exact ⟨x, rfl⟩
      obtain ⟨b', o', k1, k2, _⟩ := hq 0 x hx
      rw [k1] at e
      cases e
      exact ⟨by omega, trivial⟩
    | i + 1, h => simp at h⟩
  have HB0 := Lib.hid hb0
  have HO := Lib.hid ho
  have HNL := Lib.hid hnl
  have HI := Lib.hid (info_parts Try.infoSl)
  clear hn hnl hq hc hz ho hb0
  go_enter Try.func10, Try.ntmps10
  go_wp2
  go_loopw [5, 21] (fun v5 v21 wr => ∃ j : Nat, v21 = .int .i64 j ∧ j ≤ nl ∧ Hid (LL (fun _ => True) wr w.heap.size v5 (runL [l] (ops.take j))) ∧ Hid (Below w.heap.size w wr) ∧ Hid (okL [l] (ops.take j) = true)) (fun _ i _ => nl - (intOf i).toNat)
  case atStart => exact ⟨0, rfl, Nat.zero_le _, HL0, HB0, Lib.hid rfl⟩
  case round =>
    obtain ⟨j, rfl, hj, HLL, HBR, HOK⟩ := hrel
    by_cases hjn : j < nl
    · obtain ⟨⟨kd, rp, ot, fr, to⟩, hop⟩ : ∃ o, ops[j]? = some o := ⟨_, List.getElem?_eq_getElem (by rw [← HNL.out]; exact hjn)⟩
      obtain ⟨ls, hls⟩ : ∃ ls, ls = runL [l] (ops.take j) := ⟨_, rfl⟩
      have hlen : ls.length = j + 1 := by rw [hls, runL_len, List.length_take, ← HNL.out]; simp only [List.length_cons, List.length_nil]; omega
      have htk : ops.take (j + 1) = ops.take j ++ [(kd, rp, ot, fr, to)] := by rw [List.take_add_one, hop]; rfl
      obtain ⟨X, hX⟩ : ∃ X, X = stepL ls (kd, rp, ot, fr, to) := ⟨_, rfl⟩
      have HR1 : Hid (runL [l] (ops.take (j + 1)) = ls ++ [X]) := Lib.hid (by rw [htk, runL_app, ← hls, runL, runL, hX])
      have HK1 : Hid (okL [l] (ops.take (j + 1)) = decide (X.length ≤ 2000)) := Lib.hid (by rw [htk, okL_app, HOK.out, ← hls, okL, okL, hX]; simp)
      rw [← hls] at HLL
      obtain ⟨bo, oo, hpl, hbo, hk8, hr8, ho8, c0, c1, c2, c3, c4⟩ := (HO.out.later HBR.out) j kd rp ot fr to hop
      subst hpl
      obtain ⟨g, cg, rfl, hg, hcell⟩ := HLL.out.cell
      obtain ⟨N, hN⟩ : ∃ N, N = ls.length := ⟨_, rfl⟩
      obtain ⟨m1, hm1⟩ : ∃ i, rp % N = i := ⟨_, rfl⟩
      obtain ⟨m2, hm2⟩ : ∃ i, ot % N = i := ⟨_, rfl⟩
      have hN1 : 1 ≤ N := by omega
      have hi1 : m1 < N := by rw [← hm1]; exact Nat.mod_lt _ (by omega)
      have hi2 : m2 < N := by rw [← hm2]; exact Nat.mod_lt _ (by omega)
      obtain ⟨r, hr⟩ : ∃ r, ls[m1]? = some r := ⟨_, List.getElem?_eq_getElem (by omega)⟩
      obtain ⟨s, hs⟩ : ∃ s, ls[m2]? = some s := ⟨_, List.getElem?_eq_getElem (by omega)⟩
      have hXm : X = mdl kd fr to r s := by
        rw [hX, stepL]
        simp only [← hN, hm1, hm2, List.getD_eq_getElem?_getD, hr, hs, Option.getD_some]
      obtain ⟨pr, nr, cr, k1, a1, a2, a3, a4, a5, a6⟩ := hcell m1 r hr
      obtain ⟨ps, ns, cs, k2, b1, b2, b3, b4, b5, b6⟩ := hcell m2 s hs
      obtain ⟨W, hW⟩ : ∃ W, W = wr.alloc (.cells #[.int .u8 (kd : Nat), .int .u8 (rp : Nat), .int .u8 (ot : Nat), .int .i64 fr, .int .i64 to] 33) := ⟨_, rfl⟩
      have hbW : Below wr.heap.size wr W := by rw [hW]; exact (Below.refl _ _).alloc (Nat.le_refl _) _
      have CM := model_any g N cg kd rp ot m1 m2 nr ns cr cs fr to pr ps r s W hN1 (by omega) (Nat.lt_of_lt_of_le hg hbW.size) hr8 ho8 hm1 hm2 ((hbW.cell (p := ⟨g, m1, none⟩) hg).trans k1) ((hbW.cell (p := ⟨g, m2, none⟩) hg).trans k2) a1 b1 (a4.later hbW) (b4.later hbW) a3 b3 a2 b2 a5 b5
      rw [← hXm] at CM
      obtain ⟨NX, hNX⟩ : ∃ N, N = X.length := ⟨_, rfl⟩
      have CM2 : Calls Try.prog 14 #[.slice (some ⟨g, 0, none⟩) N cg, .agg #[.int .u8 (kd : Nat), .int .u8 (rp : Nat), .int .u8 (ot : Nat), .int .i64 fr, .int .i64 to]] W (fun e w' => ∃ p3 c3, e = .returned (.slice p3 NX c3) ∧ Hid (NX ≤ c3 ∧ (p3 = none → c3 = 0) ∧ SqL w' p3 X ∧ (X ≠ [] → ∀ b o s, p3 = some ⟨b, o, s⟩ → b ≠ g ∧ True)) ∧ Hid (Below W.heap.size W w')) := CM.mono fun e w' ⟨p3, c3, h1, h2, h3, h4, h5⟩ => ⟨p3, c3, by rw [h1, hNX], Lib.hid ⟨by rw [hNX]; exact h2, h3.1, h4.out, fun hne b o s e => by
        rcases h3.2 with ⟨rfl, rfl⟩ | hf
        · exact a6 hne b o s e
        · have := hf b o s e
          have := hbW.size
          exact ⟨by omega, trivial⟩⟩, h5⟩
      rw [hW] at CM2
      have HCM := Lib.hid CM2
      have HWe := Lib.hid hW
      have HBW := Lib.hid hbW
      have HG := Lib.hid hg
      have HNX := Lib.hid hNX
      have HNN := Lib.hid hN
      have HJ := Lib.hid hlen
      have hji : (j : Int) < (nl : Int) := by omega
      have hj0 : (0 : Int) ≤ (j : Int) := by omega
      have hwj : IntKind.i64.wrap ((j : Int) + 1) = (j : Int) + 1 := IntWalk.i64_in _ (by omega)
      rw [← hN] at HLL ⊢
      clear hop hls hlen htk hX hcell hm1 hm2 hN1 hi1 hi2 hr hs hXm k1 k2 a1 a2 a3 a4 a5 a6 b1 b2 b3 b4 b5 b6 CM CM2 hW hbW hg hNX hN hk8 hr8 ho8 hbo
      by_cases h2 : NX ≤ 2000
      · have h2i : ¬ (2000 : Int) < (NX : Int) := by omega
        have H2 := Lib.hid h2
        have HK2 : Hid (okL [l] (ops.take (j + 1)) = true) := Lib.hid (by rw [HK1.out, ← HNX.out]; exact decide_eq_true h2)
        obtain ⟨i0, hi, hz0, hz1, hz2⟩ := HI.out
        clear h2
        go_wp2_with (first
          | (go_at_call 14; refine HCM.out.mono ?_; rintro r1 w2 ⟨p3, c3, rfl, HM, HB2'⟩; have HB2 : Hid (Below W.heap.size W w2) := Lib.hid (by have := HB2'.out; rw [← HWe.out] at this; exact this); clear HB2')
          | (at_builtin; (
              obtain ⟨g', cg', xs, hv, hown, h3⟩ := (((HLL.out.later HBW.out).later HB2.out).later (BAo w2 (.cells #[.slice p3 NX c3] 22)));
              obtain ⟨rfl, rfl⟩ : g = g' ∧ cg = cg' := (by cases hv; exact ⟨rfl, rfl⟩);
              have HOW := Lib.hid hown;
              have H3 := Lib.hid h3;
              clear hown h3 hv;
              refine wpList_append_lies _ rfl (.tmp 31) (.tmp 33) 31 rfl w.heap.size 22 i0 (.slice none 0 0) 1 24 Try.underlying31 hi hz0 hz1 hz2 rfl (by decide) _ _ xs rfl HOW.out ⟨w2.heap.size, 0, none⟩ 1 1 [.slice p3 NX c3] rfl rfl (one_new _ _ _) (by intro u hu; simp at hu; subst hu; rfl) (by decide) (by unfold maxLen; have := HJ.out; omega) (by have := HJ.out; omega) (by have a := HBR.out.size; have b := HBW.out.size; have c := HB2.out.size; simp; omega) _ rfl ?_);
              intro g2 cap2 w4 hO4 hg4 hl4 hlt4;
              have HO4 := Lib.hid hO4; have HG4 := Lib.hid hg4; have HL4 := Lib.hid hl4; clear hO4 hg4 hl4)
          | fail)
        have HNN2 := HNN.out
        subst HNN2
        have HB3 := Lib.hid (bt (bt (bt HBR.out HBW.out) HB2.out) (BAo w2 (.cells #[.slice p3 NX c3] 22)))
        have hM := HM.out
        have HLN : Hid (LL (fun _ => True) w4 w.heap.size (.slice (some ⟨g2, 0, none⟩) (ls.length + 1) cap2) (ls ++ [X])) := Lib.hid (LL.snoc HOW.out H3.out HO4.out HG4.out (HL4.out.imp (fun e => by cases e; rfl) id) HNX.out hM.1 hM.2.1 (hM.2.2.1.later (BAo _ _)) H2.out hM.2.2.2)
        have HB4 : Hid (Below w.heap.size w w4) := Lib.hid (HB3.out.grown HG4.out HB3.out.size (fun k e => by cases e; exact (HOW.out.lt g rfl).1))
        clear hM hi hz0 hz1 hz2
        go_roundw
        case rel => exact ⟨j + 1, by go_num, by omega, Lib.hid (by rw [HR1.out]; exact HLN.out), HB4, HK2⟩
        case measure => simp [intOf]; omega
      · have h2i : (2000 : Int) < (NX : Int) := by omega
        have HF : Hid (okL [l] ops = false) := Lib.hid (by
          rw [← List.take_append_drop (j + 1) ops, okL_app, HK1.out, ← HNX.out, decide_eq_false h2, Bool.false_and])
        clear h2
        go_wp2_with (first
          | (go_at_call 14; refine HCM.out.mono ?_; rintro r1 w2 ⟨p3, c3, rfl, HM, HB2'⟩; have HB2 : Hid (Below W.heap.size W w2) := Lib.hid (by have := HB2'.out; rw [← HWe.out] at this; exact this); clear HB2')
          | fail)
        go_ret
        exact ⟨by rw [HF.out]; rfl, Lib.hid (bt (bt HBR.out HBW.out) HB2.out)⟩
    · obtain rfl : j = nl := by omega
      have hall : ops.take j = ops := by rw [HNL.out, List.take_length]
      have HOK2 := Lib.hid (show okL [l] ops = true by have := HOK.out; rwa [hall] at this)
      clear hall
      go_wp2
      go_ret
      exact ⟨by rw [HOK2.out]; rfl, HBR⟩

set_option maxRecDepth 100000 in
set_option maxHeartbeats 3200000 in
theorem smallNo_any (p pl : Option Addr) (n c nl cl : Nat) (w : World) (h : 500 < n ∨ 60 < nl) : Calls Try.prog 10 #[.slice p n c, .slice pl nl cl] w (fun r w' => r = .returned (.bool false) ∧ w' = w) := by
  by_cases h1 : 500 < n
  · have i1 : (500 : Int) < (n : Int) := by omega
    clear h
    go_enter Try.func10, Try.ntmps10
    go_wp2
    go_ret
    exact ⟨rfl, rfl⟩
  · have i1 : ¬ (500 : Int) < (n : Int) := by omega
    have i2 : (60 : Int) < (nl : Int) := by omega
    clear h
    go_enter Try.func10, Try.ntmps10
    go_wp2
    go_ret
    exact ⟨rfl, rfl⟩

/-- a tree stays where a block changes whose first cell is no int. -/
theorem Nd.grownRow {w w' : World} {g : Nat} {v : Value} (hg : w.grownBy w' (some g)) (hv : w.cell? ⟨g, 0, none⟩ = some v) (hn : ∀ i : Int, v ≠ .int .i64 i) : ∀ {a : Option Addr} {t : Rp Int}, Nd encI w a t → t.Lv → Nd encI w' a t := by
  have ap : ∀ (b : Nat) (i : Int), w.cell? ⟨b, 0, none⟩ = some (.int .i64 i) → ∀ (j : Nat) (u : Value), w.cell? ⟨b, j, none⟩ = some u → w'.cell? ⟨b, j, none⟩ = some u := fun b i h0 j u hu => by
    have hne : b ≠ g := fun e => by
      rw [e, hv] at h0
      exact hn i (Option.some.inj h0)
    exact hg.cell hu (fun e => hne (by first | exact (Option.some.inj e).symm | exact Option.some.inj e))
  intro a t
  induction t generalizing a with
  | leaf l =>
    intro h hL
    obtain ⟨b, e, ha, h1, h2, c0, c1, c2, c3, c4, hl⟩ := h
    obtain ⟨x, hx⟩ : ∃ x, l[0]? = some x := by cases l with | nil => exact absurd hL.1 (by simp) | cons x _ => exact ⟨x, rfl⟩
    exact ⟨b, e, ha, Nat.lt_of_lt_of_le h1 hg.size, Nat.lt_of_lt_of_le h2 hg.size, ap b _ c0 _ _ c0, ap b _ c0 _ _ c1, ap b _ c0 _ _ c2, ap b _ c0 _ _ c3, ap b _ c0 _ _ c4, fun j y hy => ap e _ (hl 0 x hx) _ _ (hl j y hy)⟩
  | fork p q ihp ihq =>
    intro h hL
    obtain ⟨b, a1, a2, ha, h1, c0, c1, c2, c3, c4, hp, hq⟩ := h
    exact ⟨b, a1, a2, ha, Nat.lt_of_lt_of_le h1 hg.size, ap b _ c0 _ _ c0, ap b _ c0 _ _ c1, ap b _ c0 _ _ c2, ap b _ c0 _ _ c3, ap b _ c0 _ _ c4, ihp hp hL.1, ihq hq hL.2⟩
theorem Holds.grownRow {w w' : World} {g : Nat} {v : Value} (hg : w.grownBy w' (some g)) (hv : w.cell? ⟨g, 0, none⟩ = some v) (hn : ∀ i : Int, v ≠ .int .i64 i) {a : Option Addr} {l : List Int} (h : Holds w a l) : Holds w' a l := by
  obtain ⟨o, h1, h2, h3⟩ := h
  refine ⟨o, ?_, h2, h3⟩
  cases o with
  | none => exact h1
  | some t => exact Nd.grownRow hg hv hn h1 (h2 t rfl)
end Go.Proofs.Ytamcobncfbjdmaa
