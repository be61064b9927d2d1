/- Equal of two ropes that have the same elements. -/
import Derived.Test.YtamcobncfbjdmaaRU
import Derived.Test.YtamcobncfbjdmaaRO
import Derived.Stop.RegionWithIn
import Derived.Shelf.RegionOpen
import Derived.RangeFuncCalls
import Derived.RecoverIn
namespace Go.Proofs.Ytamcobncfbjdmaa
open Go.RowKit Go.Shelf Go.BigFrame
attribute [local go_sem] Oper.semAt_some

/-- the comparison that RopeJoins hands over. -/
theorem pSameJ_any (x : Int) (w : World) : Calls Try.prog 30 #[.int .i64 x, .int .i64 x] w (fun r w' => r = .returned (.bool true) ∧ w' = w) := by
  go_enter Try.func30, Try.ntmps30
  go_wp2
  go_ret
  exact ⟨rfl, rfl⟩

/-- the deferred call, where nothing panics. -/
theorem recIdle_any (n : Nat) (w : World) : CallsDIn Fence.wide n Try.prog 63 #[] .returning w fun e u' w' => e = .returned (.tuple #[]) ∧ u' = .returning ∧ w' = w := by
  refine callsDIn_of_wpSIn Try.func63 rfl trivial fun c₀ cs hu => ?_
  apply wpSIn_region
  simp [wpOpsSIn, go_sem, recoverD, hu, Try.ntmps63, bodyPostS, results, Try.results63]
  cases c₀
  simp_all

/-- what is left of a leaf: nothing, or elements of the list from q on. -/
def RestOk (w3 : World) (l : List Int) (pp : Option Addr) (m cc q : Nat) : Prop := m = 0 ∨ ∃ e k, pp = some ⟨e, k, none⟩ ∧ e < w3.heap.size ∧ m ≤ cc ∧ m + q ≤ l.length ∧ ∀ j y, j < m → l[q + j]? = some y → w3.cell? ⟨e, k + j, none⟩ = some (encI y)
/-- what lies in the boxes of Equal within its walk. -/
def Ge (w w3 : World) (b : Option Addr) (l : List Int) (q : Nat) (X : World) : Prop :=
  Boxed X (w.heap.size + 1) 28 (.pointer b) ∧ Boxed X (w.heap.size + 1 + 1) 55 (.func (.func 30) #[] #[]) ∧ Boxed X (w.heap.size + 1 + 1 + 1) 4 (.bool false) ∧ (∃ pp m cc, Boxed X w3.heap.size 22 (.slice pp m cc) ∧ RestOk w3 l pp m cc q) ∧
    Below w.heap.size w X ∧ KpC w3.heap.size (w3.heap.size + 1) w3 X ∧ w3.heap.size + 1 ≤ X.heap.size
theorem Ge.grown {w w3 : World} {b : Option Addr} {l : List Int} {q : Nat} {X Y : World} {row : Option Nat} (h : Ge w w3 b l q X) (hw : w.heap.size + 4 ≤ w3.heap.size) (hg : X.grownBy Y row) (hr : ∀ r, row = some r → w3.heap.size + 1 ≤ r) : Ge w w3 b l q Y := by
  obtain ⟨h1, h2, h3, ⟨pp, m, cc, h4, h5⟩, h6, h7, h8⟩ := h
  exact ⟨h1.kept hg (fun e => by have := hr _ e.symm; omega), h2.kept hg (fun e => by have := hr _ e.symm; omega), h3.kept hg (fun e => by have := hr _ e.symm; omega), ⟨pp, m, cc, h4.kept hg (fun e => by have := hr _ e.symm; omega), h5⟩,
    h6.grown hg h6.size (fun k e => by have := hr _ e; omega), h7.frm hg (fun k e => by have := hr _ e; omega), Nat.le_trans h8 hg.size⟩
theorem Ge.set {w w3 : World} {b : Option Addr} {l : List Int} {q : Nat} {X : World} (q' : Nat) (pp : Option Addr) (m cc : Nat) (h : Ge w w3 b l q X) (hw : w.heap.size + 4 ≤ w3.heap.size) (hR : RestOk w3 l pp m cc q') : Ge w w3 b l q' (X.setCell ⟨w3.heap.size, 0, none⟩ (.slice pp m cc)) := by
  obtain ⟨h1, h2, h3, ⟨_, _, _, h4, _⟩, h6, h7, h8⟩ := h
  have hg := grownBy_setCell' X w3.heap.size (.slice pp m cc)
  exact ⟨h1.other (by omega) _, h2.other (by omega) _, h3.other (by omega) _, ⟨pp, m, cc, h4.set _, hR⟩, h6.grown hg h6.size (fun k e => by cases e; omega), h7.trans (KpC.setOwn X _ (by omega) (by omega)), Nat.le_trans h8 hg.size⟩

theorem Ge.fin {w w3 : World} {b : Option Addr} {l : List Int} {q : Nat} {X X6 : World} {B : Nat} (h : Ge w w3 b l q X6) (hw : w.heap.size + 4 ≤ w3.heap.size) (hB : w3.heap.size + 2 ≤ B) (hkf : KeepsFrom B X X6) (hk : KpC w3.heap.size (w3.heap.size + 1) X X6) (pp : Option Addr) (m cc : Nat) (hR : RestOk w3 l pp m cc (q + 1)) :
    KeepsFrom B X (X6.setCell ⟨w3.heap.size, 0, none⟩ (.slice pp m cc)).drew ∧ KpC w3.heap.size (w3.heap.size + 1) X (X6.setCell ⟨w3.heap.size, 0, none⟩ (.slice pp m cc)).drew ∧ Ge w w3 b l (q + 1) (X6.setCell ⟨w3.heap.size, 0, none⟩ (.slice pp m cc)).drew := by
  have hd : Below (X6.setCell ⟨w3.heap.size, 0, none⟩ (.slice pp m cc)).heap.size (X6.setCell ⟨w3.heap.size, 0, none⟩ (.slice pp m cc)) (X6.setCell ⟨w3.heap.size, 0, none⟩ (.slice pp m cc)).drew := (Below.refl _ _).drew
  have hgn : (X6.setCell ⟨w3.heap.size, 0, none⟩ (.slice pp m cc)).grownBy (X6.setCell ⟨w3.heap.size, 0, none⟩ (.slice pp m cc)).drew none := ⟨hd.os, hd.tape, hd.output, hd.size, fun k hk _ => hd.block k hk⟩
  exact ⟨(hkf.trans (KeepsFrom.of_grownBy (grownBy_setCell' X6 w3.heap.size _) (fun j e => by cases e; omega))).trans (KeepsFrom.of_grownBy hgn (fun j e => by cases e)), (hk.trans (KpC.setOwn _ _ (Nat.le_refl _) (by omega))).trans (KpC.of_below hd), (h.set (q + 1) pp m cc hw hR).grown hw hgn (fun r e => by cases e)⟩

set_option maxRecDepth 100000 in
set_option maxHeartbeats 12800000 in
theorem pEqualJ_any (a b : Option Addr) (l : List Int) (w : World) (hH : Holds w a l) (hH2 : Holds w b l) (hl : l.length ≤ 1000000) :
    Calls Try.prog 31 #[.agg #[.pointer a], .agg #[.pointer b], .func (.func 30) #[] #[]] w (fun r w' => r = .returned (.bool true) ∧ Hid (Below w.heap.size w w')) := by
  obtain ⟨o, hN, hL, hol⟩ := hH
  obtain ⟨n, hn⟩ : ∃ n, n = l.length := ⟨_, rfl⟩
  obtain ⟨W, hW⟩ : ∃ W, W = (((w.alloc (.cells #[.pointer a] 28)).alloc (.cells #[.pointer b] 28)).alloc (.cells #[.func (.func 30) #[] #[]] 55)).alloc (.cells #[.bool false] 4) := ⟨_, rfl⟩
  have hb : Below w.heap.size w W := by rw [hW]; exact ((((Below.refl _ _).alloc (Nat.le_refl _) _).alloc (by simp) _).alloc (by simp; omega) _).alloc (by simp; omega) _
  have hsz : W.heap.size = w.heap.size + 4 := by rw [hW]; simp
  have HOn : Hid (∀ w', Below w.heap.size w w' → On encI w' a o) := Lib.hid fun w' h => hN.later h
  have HO2 : Hid (∀ w', Below w.heap.size w w' → Holds w' b l) := Lib.hid fun w' h => hH2.later h
  have CL : Hid (∀ w', Below w.heap.size w w' → Calls Try.prog 28 #[.agg #[.pointer a]] w' (fun e w'' => e = .returned (.int .i64 n) ∧ Hid (Below w'.heap.size w' w''))) := Lib.hid fun w' h => by
    have := pLenI_any a o w' (hN.later h)
    rwa [hol, ← hn] at this
  have CL2 : Hid (∀ w', Below w.heap.size w w' → Calls Try.prog 28 #[.agg #[.pointer b]] w' (fun e w'' => e = .returned (.int .i64 n) ∧ Hid (Below w'.heap.size w' w''))) := Lib.hid fun w' h => by
    obtain ⟨o2, hN2, _, hol2⟩ := hH2
    have := pLenI_any b o2 w' (hN2.later h)
    rwa [hol2, ← hn] at this
  have HB4 := box3 (w.alloc (.cells #[.pointer a] 28)) (.cells #[.pointer b] 28) (.cells #[.func (.func 30) #[] #[]] 55) (.cells #[.bool false] 4)
  rw [← hW, World.size_alloc] at HB4
  have HR0 : Hid (Boxed W w.heap.size 28 (.pointer a)) := Lib.hid (by rw [hW]; exact (((Boxed.new w 28 (.pointer a)).alloc _).alloc _).alloc _)
  have HR1 : Hid (Boxed W (w.heap.size + 1) 28 (.pointer b)) := Lib.hid HB4.1
  have HR2 : Hid (Boxed W (w.heap.size + 1 + 1) 55 (.func (.func 30) #[] #[])) := Lib.hid HB4.2.1
  have HR3 : Hid (Boxed W (w.heap.size + 1 + 1 + 1) 4 (.bool false)) := Lib.hid HB4.2.2
  have HNL := Lib.hid hn
  have HBW := Lib.hid hb
  have HSZ := Lib.hid hsz
  have HWW := Lib.hid hW
  have HOL := Lib.hid hol
  have HHL := Lib.hid hL
  have hnn : (0 : Int) ≤ (n : Int) := by omega
  rw [← hn] at hl
  clear hW hn hb hsz hN hol hL hH2 HB4
  have hmx : Try.prog.follows .mixedOrders = true := by kernel_rfl
  have hmf : ∀ (fn : Fn) (first cap : Array Value) (w : World), (Instr.makeFunc fn first cap).run Try.prog w = .ok (.func fn first cap) w := fun _ _ _ _ => rfl
  refine (callsIn_wide (n := 5)).1 ?_
  refine callsIn_of_wp_marks Try.func31 rfl trivial ?_ rfl
  simp only [Try.ntmps31, List.size_toArray, List.length_cons, List.length_nil, Nat.reduceAdd, Nat.reduceSub, Array.replicate_succ, Array.replicate_zero, List.push_toArray, List.append_toArray, List.nil_append, List.cons_append]
  gi_wp2
  rw [← HWW.out]
  rename_i K1 hK1 K2 hK2
  have x0 := cell_of HR0.out
  have y0 := cell_of HR1.out
  refine wpIn_mono (Q := fun e a' w' => match e with | .normal => a' = { tmps := #[.agg #[.pointer a], .agg #[.pointer b], .func (.func 30) #[] #[], .pointer (some ⟨w.heap.size, 0, none⟩), .pointer (some ⟨w.heap.size + 1, 0, none⟩), .pointer (some ⟨w.heap.size + 1 + 1, 0, none⟩), .pointer (some ⟨w.heap.size + 1 + 1 + 1, 0, none⟩), undef, undef, undef, .agg #[.pointer a], .int .i64 n, .agg #[.pointer b], .int .i64 n, .bool false, undef, undef, undef, undef, undef, undef, undef, undef, undef, undef, undef, undef, undef, undef, undef, undef, undef, undef, undef, undef], defers := [] } ∧ Hid (Below W.heap.size W w') | _ => False) ?_ ?_
  · clear hK1 hK2 HOn
    gi_region_with (first
      | (refine ⟨trivial, ?_⟩; gi_at_call 28; have hmark := HBL.out; refine (callsIn_wide.2 (CL2.out _ HBL.out)).mono ?_; rintro e' w2 ⟨rfl, HB2⟩)
      | (refine ⟨trivial, ?_⟩; gi_at_call 28; refine (callsIn_wide.2 (CL.out _ (by first | exact HBW.out.drew | exact HBW.out))).mono ?_; rintro e' w1 ⟨rfl, HB1'⟩; have HB1 : Hid (Below W.heap.size W w1) := Lib.hid (by first | exact HB1'.out | exact ((Below.refl _ W).drew).trans HB1'.out); clear HB1'; have HBL := Lib.hid (HBW.out.trans (HB1.out.mono HBW.out.size)); have y1 := boxed_cell HR1.out HB1.out)
      | fail)
    all_goals exact ⟨rfl, Lib.hid (HB1.out.trans (HB2.out.mono HB1.out.size))⟩
  intro e a' w3 h
  cases e with
  | normal => ?_
  | _ => exact h.elim
  obtain ⟨rfl, HB3⟩ := h
  refine hK2 _ _ ?_
  clear hK2 x0 y0 CL CL2
  have HB3w := Lib.hid (HBW.out.trans (HB3.out.mono HBW.out.size))
  have R0 : Hid (Boxed w3 w.heap.size 28 (.pointer a)) := Lib.hid ((HB3.out.block _ HR0.out.lt).trans HR0.out)
  have R1 : Hid (Boxed w3 (w.heap.size + 1) 28 (.pointer b)) := Lib.hid ((HB3.out.block _ HR1.out.lt).trans HR1.out)
  have R2 : Hid (Boxed w3 (w.heap.size + 1 + 1) 55 (.func (.func 30) #[] #[])) := Lib.hid ((HB3.out.block _ HR2.out.lt).trans HR2.out)
  have R3 : Hid (Boxed w3 (w.heap.size + 1 + 1 + 1) 4 (.bool false)) := Lib.hid ((HB3.out.block _ HR3.out.lt).trans HR3.out)
  have x5 := (R0.out.alloc (.cells #[.slice none 0 0] 22)).cell
  gi_wp2_with (first
    | (refine ⟨trivial, ?_⟩; gi_at_call 22; refine (callsIn_wide.2 (pAllI_any _ _)).mono ?_; rintro e' w4 ⟨rfl, rfl⟩)
    | fail)
  rename_i K3 hK3
  clear x5 hmf
  have hw3 : w.heap.size + 4 ≤ w3.heap.size := by have := HB3.out.size; have := HSZ.out; omega
  obtain ⟨V, hV⟩ : ∃ V, V = (w3.alloc (.cells #[.slice none 0 0] 22)).alloc (.cells #[.pointer a] 28) := ⟨_, rfl⟩
  have hbV : Below w3.heap.size w3 V := by rw [hV]; exact ((Below.refl _ _).alloc (Nat.le_refl _) _).alloc (by simp) _
  have sV : V.heap.size = w3.heap.size + 2 := by rw [hV]; simp
  have KX := box2 w3 (.cells #[.slice none 0 0] 22) (.cells #[.pointer a] 28)
  rw [← hV] at KX ⊢
  obtain ⟨k5, k7⟩ := KX
  have G0 : Ge w w3 b l 0 V := ⟨(hbV.block _ R1.out.lt).trans R1.out, (hbV.block _ R2.out.lt).trans R2.out, (hbV.block _ R3.out.lt).trans R3.out, ⟨none, 0, 0, k5, .inl rfl⟩, HB3w.out.trans (hbV.mono HB3w.out.size), KpC.of_below hbV, by omega⟩
  have SP := all1P_seq 4 w3.heap.size (w3.heap.size + 1) (w3.heap.size + 1) a o w3 V (Nat.le_refl _) (by omega) (HOn.out w3 HB3w.out) HHL.out (by rw [HOL.out, ← HNL.out]; omega) (KpC.of_below hbV) (by omega) (cell_of k7)
  rw [HOL.out] at SP
  have HT := Lib.hid (HO2.out w3 HB3w.out)
  clear hV hbV k5 k7 HB3 R0 R1 R2 R3
  refine range_ownP (n := 5) rfl rfl (by omega) (gf := 55) (lb := #[.pointer (some ⟨w3.heap.size + 1, 0, none⟩)]) rfl trivial (enters_of Try.func55 (by kernel_rfl) rfl) SP (fun _ => rfl)
    (fun q X => Ge w w3 b l q.length X)
    (fun cd q X => False)
    (fun q A C row hs hg hr => hs.grown hw3 hg (fun r e => by have := hr r e; omega))
    (fun cd q A C row hs hg hr => hs)
    G0
    (fun x => { tmps := #[.agg #[.pointer a], .agg #[.pointer b], .func (.func 30) #[] #[], .pointer (some ⟨w.heap.size, 0, none⟩), .pointer (some ⟨w.heap.size + 1, 0, none⟩), .pointer (some ⟨w.heap.size + 1 + 1, 0, none⟩), .pointer (some ⟨w.heap.size + 1 + 1 + 1, 0, none⟩), .pointer (some ⟨w3.heap.size, 0, none⟩), .int .i64 x.2, encI x.1, .agg #[.pointer a], .int .i64 n, .agg #[.pointer b], .int .i64 n, .bool false, .agg #[.pointer a], .func (.func 55) #[] #[.pointer (some ⟨w3.heap.size + 1, 0, none⟩)], .int .i64 x.2, encI x.1, undef, undef, undef, undef, undef, undef, undef, undef, undef, undef, undef, undef, undef, undef, undef, undef], defers := [] })
    ?assign ?body ?done ?stop
  case assign =>
    intro l' m' x X K hK
    dsimp only
    gi_wp2
    exact hK
  case body =>
    rintro l' m' q ⟨x, i⟩ X hF hpre
    obtain ⟨r, hr⟩ := hpre
    have h1 : l.zipIdx[q.length]? = some (x, i) := by rw [← hr]; simp
    rw [List.getElem?_zipIdx] at h1
    obtain ⟨y, hy, hyx⟩ := Option.map_eq_some_iff.1 h1
    simp only [Nat.zero_add, Prod.mk.injEq] at hyx
    obtain ⟨rfl, hi⟩ := hyx
    have HQL : Hid ((q ++ [(y, i)]).length = q.length + 1) := Lib.hid (by simp)
    clear h1 hr
    obtain ⟨k, hk⟩ : ∃ k, k = q.length := ⟨_, rfl⟩
    rw [← hk] at hi HQL hy
    obtain rfl : i = k := by omega
    have HF : Hid (Ge w w3 b l i X) := Lib.hid (by rw [hk]; exact hF)
    have HY := Lib.hid hy
    clear hF hk hy
    obtain ⟨hB1, hB2, hB3, ⟨pp, m, cc, hB4, hRR⟩, hBw, hKX, hSX⟩ := HF.out
    have hdd : ∀ k : Nat, ((Fence.wide.inRound l').depth.isSome = true → 1 ≤ k) := fun k h => by cases h
    have d4 := hB1.cell
    have d7 := hB4.cell
    have f7 := hB4.frozen
    have hil : i < l.length := (List.getElem?_eq_some_iff.1 HY.out).1
    by_cases hm0 : m = 0
    · subst hm0
      obtain ⟨t, ht, hLt, htl⟩ : ∃ t, Nd encI w3 b t ∧ t.Lv ∧ t.list = l := by
        rcases HT.out.cases with ⟨_, rfl⟩ | ⟨t, h1, h2, h3, _⟩
        · exact absurd hil (by simp)
        · exact ⟨t, h1, h2, h3⟩
      have CF := pfromK_any t i b w3.heap.size (w3.heap.size + 1) w3 X (Nat.le_refl _) hKX ht hLt (by rw [htl]; exact hil) (by rw [htl, ← HNL.out]; exact hl)
      rw [htl] at CF
      have HCF := Lib.hid CF
      have HB4 := Lib.hid hB4
      have HKX := Lib.hid hKX
      clear CF ht hLt htl hB1 hB2 hB3 hB4 hBw hKX hil
      gi_wp2_with (first
        | (refine ⟨trivial, hdd _, ?_⟩; gi_at_call 59; refine (CallsIn.inRound l' (callsIn_wide.2 HCF.out)).mono ?_; rintro e' w6 ⟨e, k0, m1, c1, rfl, hm1, hmc, hml, he, HC, HB6⟩; have b6 : Boxed w6 w3.heap.size 22 (.slice pp 0 cc) := (HB6.out.block _ HB4.out.lt).trans HB4.out; have z6 := b6.cell; have f6 := b6.frozen; have HBX6 := Lib.hid b6; clear b6)
        | fail)
      obtain ⟨m2, rfl⟩ : ∃ m2, m1 = m2 + 1 := ⟨m1 - 1, by omega⟩
      obtain ⟨c2, rfl⟩ : ∃ c2, c1 = c2 + 1 := ⟨c1 - 1, by omega⟩
      have hR6 : RestOk w3 l (some ⟨e, k0, none⟩) (m2 + 1) (c2 + 1) i := .inr ⟨e, k0, rfl, he, hmc, hml, HC.out⟩
      have hG6 := (HF.out.grown hw3 (row := none) ⟨HB6.out.os, HB6.out.tape, HB6.out.output, HB6.out.size, fun k hk _ => HB6.out.block k hk⟩ (fun r e => by cases e)).set i _ _ _ hw3 hR6
      have hk6 : KpC w3.heap.size (w3.heap.size + 1) X (w6.setCell ⟨w3.heap.size, 0, none⟩ (.slice (some ⟨e, k0, none⟩) (m2 + 1) (c2 + 1))) := (KpC.of_below HB6.out).trans (KpC.setOwn _ _ (Nat.le_refl _) (by omega))
      have hkf6 : KeepsFrom V.heap.size X (w6.setCell ⟨w3.heap.size, 0, none⟩ (.slice (some ⟨e, k0, none⟩) (m2 + 1) (c2 + 1))) := (KeepsFrom.of_grownBy (row := none) ⟨HB6.out.os, HB6.out.tape, HB6.out.output, HB6.out.size, fun k hk _ => HB6.out.block k hk⟩ (fun j e => by cases e)).trans (KeepsFrom.of_grownBy (grownBy_setCell' w6 w3.heap.size _) (fun j e => by cases e; omega))
      obtain ⟨X6, hX6⟩ : ∃ X6, X6 = w6.setCell ⟨w3.heap.size, 0, none⟩ (.slice (some ⟨e, k0, none⟩) (m2 + 1) (c2 + 1)) := ⟨_, rfl⟩
      rw [← hX6] at hG6 hk6 hkf6 ⊢
      have HG6 := Lib.hid hG6
      obtain ⟨_, g2, _, _, _, hK6, _⟩ := hG6
      have g4 : Boxed X6 w3.heap.size 22 (.slice (some ⟨e, k0, none⟩) (m2 + 1) (c2 + 1)) := by rw [hX6]; exact HBX6.out.set _
      have cy : X6.cell? ⟨e, k0, none⟩ = some (.int .i64 y) := hK6.cell (p := ⟨e, k0, none⟩) (.inl he) (HC.out 0 y (by omega) HY.out)
      have HK6 := Lib.hid hk6
      have HKF6 := Lib.hid hkf6
      clear hX6 hK6 hk6 hkf6
      have q2 := g2.cell
      have q4 := g4.cell
      have f4 := g4.frozen
      have hmi : (0 : Int) < ((m2 + 1 : Nat) : Int) := by omega
      have hmi2 : (0 : Int) < (m2 : Int) + 1 := by omega
      have HFB := Lib.hid (Ge.fin (q := i) HG6.out hw3 (Nat.le_refl (w3.heap.size + 2)) (by rw [← sV]; exact HKF6.out) HK6.out)
      refine wpIn_region_any (by assumption) ?_
      refine wpAnyIn_round l' rfl (by kernel_rfl) _ _ _ _ ?_
      try (change wpAnyIn _ _ _ _ _ _ _ _ _ (World.drew _))
      refine wpAnyIn_take (i := 1) (v := encI y) rfl rfl (by kernel_rfl) (by kernel_rfl) (by kernel_rfl) (fun _ _ _ h => h) ⟨Or.inl ⟨by rfl, by intro w; go_simp⟩, fun _ => rfl⟩ ?_
      go_simp
      refine wpAnyIn_here (i := 2) (v := .slice (some ⟨e, k0, none⟩) (m2 + 1) (c2 + 1)) [(0, .func (.func 30) #[] #[])] [3, 4, 5, 6] rfl rfl (by kernel_rfl) (by kernel_rfl) (by kernel_rfl) ⟨Or.inl ⟨by rfl, by go_simp⟩, by first | rfl | go_simp⟩ (by intro p hp; simp only [List.mem_cons, List.not_mem_nil, or_false] at hp; rcases hp with rfl <;> exact ⟨_, rfl, ⟨Or.inl ⟨by rfl, by go_simp⟩, by first | rfl | go_simp⟩⟩) ?_
      go_simp
      refine wpAnyIn_here (i := 3) (v := .pointer (some ⟨e, k0, none⟩)) [(0, .func (.func 30) #[] #[])] [4, 5, 6] rfl rfl (by kernel_rfl) (by kernel_rfl) (by kernel_rfl) ⟨Or.inl ⟨by rfl, by go_simp⟩, by first | rfl | go_simp⟩ (by intro p hp; simp only [List.mem_cons, List.not_mem_nil, or_false] at hp; rcases hp with rfl <;> exact ⟨_, rfl, ⟨Or.inl ⟨by rfl, by go_simp⟩, by first | rfl | go_simp⟩⟩) ?_
      go_simp
      refine wpAnyIn_here (i := 4) (v := .int .i64 y) [(0, .func (.func 30) #[] #[])] [5, 6] rfl rfl (by kernel_rfl) (by kernel_rfl) (by kernel_rfl) ⟨Or.inl ⟨by rfl, by go_simp⟩, by first | rfl | go_simp⟩ (by intro p hp; simp only [List.mem_cons, List.not_mem_nil, or_false] at hp; rcases hp with rfl <;> exact ⟨_, rfl, ⟨Or.inl ⟨by rfl, by go_simp⟩, by first | rfl | go_simp⟩⟩) ?_
      go_simp
      refine wpAnyIn_here (i := 0) (v := .func (.func 30) #[] #[]) [] [5, 6] rfl rfl (by kernel_rfl) (by kernel_rfl) (by kernel_rfl) ⟨Or.inl ⟨by rfl, by go_simp⟩, by first | rfl | go_simp⟩ (fun p hp => by cases hp) ?_
      go_simp
      refine wpAnyIn_ready (rs := [5]) (by kernel_rfl) (by simp) ?_
      refine AllReadyIn.cons rfl (fun K hK => ?_) AllReadyIn.nil
      go_simp
      gi_wp2_with (first | (refine ⟨trivial, hdd _, ?_⟩; gi_at_call 30; refine (callsIn_wide.2 (pSameJ_any y _)).mono ?_; rintro e' w7 ⟨rfl, hw7⟩; obtain rfl := hw7.symm) | fail)
      first | (go_simp; refine hK _ _ ?_; clear hK K; go_simp) | (refine hK _ _ ?_; clear hK K; go_simp) | go_simp
      refine wpAnyIn_take (i := 6) (v := .bool false) rfl rfl (by kernel_rfl) (by kernel_rfl) (by kernel_rfl) (fun _ _ _ h => h) ⟨Or.inl ⟨by rfl, by intro w; go_simp⟩, fun _ => rfl⟩ ?_
      go_simp
      refine wpAnyIn_done (by kernel_rfl) ?_ _
      gi_wp2
      all_goals first
        | exact (by show KeepsFrom _ _ _ ∧ KpC _ _ _ _ ∧ Ge w w3 b l (q ++ [(y, i)]).length _; rw [HQL.out]; exact HFB.out _ _ _ (.inr ⟨e, k0 + 1, rfl, he, by omega, by omega, fun j y' hj hy' => by have := HC.out (j + 1) y' (by omega) (by rw [show i + (j + 1) = i + 1 + j by omega]; exact hy'); rw [show k0 + 1 + j = k0 + (j + 1) by omega]; exact this⟩))
        | exact (by show KeepsFrom _ _ _ ∧ KpC _ _ _ _ ∧ Ge w w3 b l (q ++ [(y, i)]).length _; rw [HQL.out]; exact HFB.out _ _ _ (.inl (by omega)))
    · obtain ⟨e, k0, rfl, he, hmc, hml, hcells⟩ := hRR.resolve_left hm0
      obtain ⟨m2, rfl⟩ : ∃ m2, m = m2 + 1 := ⟨m - 1, by omega⟩
      obtain ⟨c2, rfl⟩ : ∃ c2, cc = c2 + 1 := ⟨cc - 1, by omega⟩
      have HC := Lib.hid hcells
      obtain ⟨X6, hX6⟩ : ∃ X6, X6 = X := ⟨_, rfl⟩
      have HG6 : Hid (Ge w w3 b l i X6) := Lib.hid (by rw [hX6]; exact HF.out)
      have HK6 : Hid (KpC w3.heap.size (w3.heap.size + 1) X X6) := Lib.hid (by rw [hX6]; exact KpC.refl _ _ _)
      have HKF6 : Hid (KeepsFrom V.heap.size X X6) := Lib.hid (by rw [hX6]; exact KeepsFrom.of_grownBy (row := none) (World.grownBy.refl X none) (fun j e => by cases e))
      have g2 : Boxed X6 (w.heap.size + 1 + 1) 55 (.func (.func 30) #[] #[]) := by rw [hX6]; exact hB2
      have g4 : Boxed X6 w3.heap.size 22 (.slice (some ⟨e, k0, none⟩) (m2 + 1) (c2 + 1)) := by rw [hX6]; exact hB4
      have cy : X6.cell? ⟨e, k0, none⟩ = some (.int .i64 y) := by rw [hX6]; exact hKX.cell (p := ⟨e, k0, none⟩) (.inl he) (hcells 0 y (by omega) HY.out)
      have hmi0 : ¬ ((m2 + 1 : Nat) : Int) = 0 := by omega
      have hmi1 : ¬ (m2 : Int) + 1 = 0 := by omega
      clear hB1 hB2 hB3 hB4 hBw hKX hil hm0 hRR hcells
      gi_wp2
      rw [← hX6]
      clear hX6
      have q2 := g2.cell
      have q4 := g4.cell
      have f4 := g4.frozen
      have hmi : (0 : Int) < ((m2 + 1 : Nat) : Int) := by omega
      have hmi2 : (0 : Int) < (m2 : Int) + 1 := by omega
      have HFB := Lib.hid (Ge.fin (q := i) HG6.out hw3 (Nat.le_refl (w3.heap.size + 2)) (by rw [← sV]; exact HKF6.out) HK6.out)
      refine wpIn_region_any (by assumption) ?_
      refine wpAnyIn_round l' rfl (by kernel_rfl) _ _ _ _ ?_
      try (change wpAnyIn _ _ _ _ _ _ _ _ _ (World.drew _))
      refine wpAnyIn_take (i := 1) (v := encI y) rfl rfl (by kernel_rfl) (by kernel_rfl) (by kernel_rfl) (fun _ _ _ h => h) ⟨Or.inl ⟨by rfl, by intro w; go_simp⟩, fun _ => rfl⟩ ?_
      go_simp
      refine wpAnyIn_here (i := 2) (v := .slice (some ⟨e, k0, none⟩) (m2 + 1) (c2 + 1)) [(0, .func (.func 30) #[] #[])] [3, 4, 5, 6] rfl rfl (by kernel_rfl) (by kernel_rfl) (by kernel_rfl) ⟨Or.inl ⟨by rfl, by go_simp⟩, by first | rfl | go_simp⟩ (by intro p hp; simp only [List.mem_cons, List.not_mem_nil, or_false] at hp; rcases hp with rfl <;> exact ⟨_, rfl, ⟨Or.inl ⟨by rfl, by go_simp⟩, by first | rfl | go_simp⟩⟩) ?_
      go_simp
      refine wpAnyIn_here (i := 3) (v := .pointer (some ⟨e, k0, none⟩)) [(0, .func (.func 30) #[] #[])] [4, 5, 6] rfl rfl (by kernel_rfl) (by kernel_rfl) (by kernel_rfl) ⟨Or.inl ⟨by rfl, by go_simp⟩, by first | rfl | go_simp⟩ (by intro p hp; simp only [List.mem_cons, List.not_mem_nil, or_false] at hp; rcases hp with rfl <;> exact ⟨_, rfl, ⟨Or.inl ⟨by rfl, by go_simp⟩, by first | rfl | go_simp⟩⟩) ?_
      go_simp
      refine wpAnyIn_here (i := 4) (v := .int .i64 y) [(0, .func (.func 30) #[] #[])] [5, 6] rfl rfl (by kernel_rfl) (by kernel_rfl) (by kernel_rfl) ⟨Or.inl ⟨by rfl, by go_simp⟩, by first | rfl | go_simp⟩ (by intro p hp; simp only [List.mem_cons, List.not_mem_nil, or_false] at hp; rcases hp with rfl <;> exact ⟨_, rfl, ⟨Or.inl ⟨by rfl, by go_simp⟩, by first | rfl | go_simp⟩⟩) ?_
      go_simp
      refine wpAnyIn_here (i := 0) (v := .func (.func 30) #[] #[]) [] [5, 6] rfl rfl (by kernel_rfl) (by kernel_rfl) (by kernel_rfl) ⟨Or.inl ⟨by rfl, by go_simp⟩, by first | rfl | go_simp⟩ (fun p hp => by cases hp) ?_
      go_simp
      refine wpAnyIn_ready (rs := [5]) (by kernel_rfl) (by simp) ?_
      refine AllReadyIn.cons rfl (fun K hK => ?_) AllReadyIn.nil
      go_simp
      gi_wp2_with (first | (refine ⟨trivial, hdd _, ?_⟩; gi_at_call 30; refine (callsIn_wide.2 (pSameJ_any y _)).mono ?_; rintro e' w7 ⟨rfl, hw7⟩; obtain rfl := hw7.symm) | fail)
      first | (go_simp; refine hK _ _ ?_; clear hK K; go_simp) | (refine hK _ _ ?_; clear hK K; go_simp) | go_simp
      refine wpAnyIn_take (i := 6) (v := .bool false) rfl rfl (by kernel_rfl) (by kernel_rfl) (by kernel_rfl) (fun _ _ _ h => h) ⟨Or.inl ⟨by rfl, by intro w; go_simp⟩, fun _ => rfl⟩ ?_
      go_simp
      refine wpAnyIn_done (by kernel_rfl) ?_ _
      gi_wp2
      all_goals first
        | exact (by show KeepsFrom _ _ _ ∧ KpC _ _ _ _ ∧ Ge w w3 b l (q ++ [(y, i)]).length _; rw [HQL.out]; exact HFB.out _ _ _ (.inr ⟨e, k0 + 1, rfl, he, by omega, by omega, fun j y' hj hy' => by have := HC.out (j + 1) y' (by omega) (by rw [show i + (j + 1) = i + 1 + j by omega]; exact hy'); rw [show k0 + 1 + j = k0 + (j + 1) by omega]; exact this⟩))
        | exact (by show KeepsFrom _ _ _ ∧ KpC _ _ _ _ ∧ Ge w w3 b l (q ++ [(y, i)]).length _; rw [HQL.out]; exact HFB.out _ _ _ (.inl (by omega)))
  case done =>
    rintro D xs X hD rfl hF hK
    obtain ⟨hB1, hB2, hB3, _, hBw, hKX, hSX⟩ := hF
    have hXD : D < X.heap.size := (Array.getElem?_eq_some_iff.1 hK).1
    have f4 := hB3.frozen
    have z4 := hB3.cell
    have HFIN : Hid ((X.setCell ⟨w.heap.size + 1 + 1 + 1, 0, none⟩ (.bool true)).heap[D]? = some (.deferred (some [])) ∧ ((X.setCell ⟨w.heap.size + 1 + 1 + 1, 0, none⟩ (.bool true)).putObj D (.deferred none)).cell? ⟨w.heap.size + 1 + 1 + 1, 0, none⟩ = some (.bool true) ∧ Below w.heap.size w ((X.setCell ⟨w.heap.size + 1 + 1 + 1, 0, none⟩ (.bool true)).putObj D (.deferred none))) := Lib.hid (by
      have g := grownBy_setCell' X (w.heap.size + 1 + 1 + 1) (.bool true)
      have k1 := (g.block D hXD (fun e => by cases e; omega)).trans hK
      have hz1 := hBw.grown g hBw.size (fun k e => by cases e; omega)
      refine ⟨k1, ?_, hz1.grown (grownBy_putObj' _ D (.deferred none)) hz1.size (fun k e => by cases e; omega)⟩
      exact ((hB3.set (.bool true)).kept (grownBy_putObj' _ D (.deferred none)) (fun e => by cases e; omega)).cell)
    refine hK3 _ _ ?_
    clear hB1 hB2 hB3 hBw hKX hK hK3
    gi_wp2
    have hc5 := HFIN.out.2.1
    refine ⟨by simp, .inl ⟨_, _, rfl, run_takeDeferred HFIN.out.1, ⟨by simp, .inr ⟨(fun h => by cases h), _, _, 63, #[], rfl, by simp [go_sem], fun g hg => trivial, (recIdle_any _ _).mono ?_⟩⟩⟩⟩
    rintro e u' w'' ⟨rfl, rfl, rfl⟩
    exact ⟨.bool true, by simp [results, Try.f31, go_sem, hc5], rfl, Lib.hid HFIN.out.2.2⟩
  case stop =>
    rintro D cd q X hD hq h hK
    exact h.elim
end Go.Proofs.Ytamcobncfbjdmaa
