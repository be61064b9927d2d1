/- The terms of an expression in preorder, each with its level. -/
import Derived.Test.YtajdpchojimigaaMem
import Derived.Test.YtajdpchojimigaaPd
import Derived.RangeFuncNested
import Derived.RangeFuncBound
import Derived.RangeFuncCalls
import Derived.RangeFuncLeaves
import Derived.RangeFuncFrom
import Derived.Shelf.Abstract
import Derived.Shelf.RegionOpen
import Derived.OwnWalkIn
import Derived.TacticsInMore
import Derived.LoopNIn
import Derived.LoopIn
namespace Go.Proofs.Ytajdpchojimigaa
open Go.RowKit Go.Shelf TmM
attribute [local go_sem] Oper.semAt_some

/-- a term on its way: its level, and how its kids lie in memory. -/
structure Ev where
  lv : Nat
  k : Int
  t : ByteArray
  c : Fo
  a : Option Addr
  cap : Nat
  ht : t.size ≤ 1000000
  hl : lv ≤ 1000000

def Ev.er (x : Ev) : Nat × Int × ByteArray × Fo := (x.lv, x.k, x.t, x.c)
def Ev.enc (x : Ev) : Array Value := #[.int .i64 x.lv, .agg #[.int .i64 x.k, .string x.t, .slice x.a x.c.len x.cap]]
def evs : Nat → Fo → List (Nat × Int × ByteArray × Fo)
  | _, .nil => []
  | L, .cons k t c r => (L, k, t, c) :: (evs (L + 1) c ++ evs L r)
theorem evs_length : ∀ (L : Nat) (f : Fo), (evs L f).length = f.count
  | _, .nil => rfl
  | L, .cons k t c r => by simp [evs, evs_length (L + 1) c, evs_length L r, Fo.count]
theorem evs_app : ∀ (L : Nat) (f g : Fo), evs L (f.app g) = evs L f ++ evs L g
  | _, .nil, _ => rfl
  | L, .cons k t c r, g => by simp [Fo.app, evs, evs_app L r g]
theorem evs_drop (L : Nat) {f : Fo} {n : Nat} {k t c g} (h : f.drop n = .cons k t c g) : evs L f = evs L (f.take n) ++ ((L, k, t, c) :: (evs (L + 1) c ++ evs L g)) := by
  have e := congrArg (evs L) (Fo.take_app_drop n f)
  rw [evs_app, h] at e
  exact e.symm

theorem room_of_none {F : Fence} (hd : F.depth = none) (k : Nat) : F.room k := fun d h => by rw [hd] at h; cases h
theorem RoundIn.anyDepth {F : Fence} (hd : F.depth = none) {m m' : Nat} {P : Program} {l : Nat} {f : FuncId} {tmps : Array Value} {assign body : Code} {w : World} {R : Ending → World → Prop}
    (h : RoundIn F m P l f tmps assign body w R) : RoundIn F m' P l f tmps assign body w R := ⟨h.1, fun c cs _ => h.2 c cs (room_of_none hd _)⟩
theorem YieldAt.anyDepth {F : Fence} (hd : F.depth = none) {m : Nat} (m' : Nat) {P : Program} {l : Nat} {args : Array Value} {W : World} {R : Ending → World → Prop} (h : YieldAt F m P l args W R) : YieldAt F m' P l args W R := by
  obtain ⟨fn, tmps, assign, body, hy, hR⟩ := h
  exact ⟨fn, tmps, assign, body, hy, RoundIn.anyDepth hd hR⟩

/-- all cells lie as they lay, but those of the blocks from n0 to n1, which are the caller's own. -/
def KpC (n0 n1 : Nat) (W W' : World) : Prop := W.heap.size ≤ W'.heap.size ∧ ∀ i o, (i < n0 ∨ n1 ≤ i) → W.heap[i]? = some o → o.isCells = true → W'.heap[i]? = some o
theorem KpC.refl (n0 n1 : Nat) (W : World) : KpC n0 n1 W W := ⟨Nat.le_refl _, fun _ _ _ h _ => h⟩
theorem KpC.trans {n0 n1 : Nat} {A B C : World} (h : KpC n0 n1 A B) (k : KpC n0 n1 B C) : KpC n0 n1 A C := ⟨Nat.le_trans h.1 k.1, fun i o hi ho hc => k.2 i o hi (h.2 i o hi ho hc) hc⟩
theorem KpC.of_below {n0 n1 : Nat} {A B : World} (h : Below A.heap.size A B) : KpC n0 n1 A B := ⟨h.size, fun _ _ _ ho _ => (h.block _ (Array.getElem?_eq_some_iff.1 ho).1).trans ho⟩
theorem KpC.alloc {n0 n1 : Nat} (W : World) (o : Obj) : KpC n0 n1 W (W.alloc o) := KpC.of_below ((Below.refl _ _).alloc (Nat.le_refl _) _)
theorem KpC.putObj {n0 n1 : Nat} (W : World) (l : Nat) (o o' : Obj) (h : W.heap[l]? = some o) (hc : o.isCells = false) : KpC n0 n1 W (W.putObj l o') := by
  have hl := (Array.getElem?_eq_some_iff.1 h).1
  refine ⟨(grownBy_putObj' W l o').size, fun i x _ hx hxc => ?_⟩
  by_cases e : i = l
  · subst e
    rw [h] at hx
    cases hx
    rw [hc] at hxc
    cases hxc
  · exact (World.putObj_heap_other e).trans hx
theorem KpC.cell {n0 n1 : Nat} {W W' : World} (h : KpC n0 n1 W W') {p : Addr} {v : Value} (hi : p.block < n0 ∨ n1 ≤ p.block) (hv : W.cell? p = some v) : W'.cell? p = some v := by
  cases hb : W.heap[p.block]? with
  | none => simp [World.cell?, hb] at hv
  | some o =>
    have hc : o.isCells = true := by
      cases o <;> simp_all [World.cell?, Obj.isCells]
    exact (World.cell?_of_block ((h.2 _ o hi hb hc).trans hb.symm)).trans hv
theorem Cells.kp {n0 n1 : Nat} {w w' : World} {b o : Nat} {xs : List Value} (h : Cells w b o xs) (hk : KpC n0 n1 w w') (hn : b < n0) : Cells w' b o xs := fun j hj => by
  have e := h j hj
  rw [List.getElem?_eq_getElem hj] at e ⊢
  exact hk.cell (.inl hn) e
theorem Reps.kp {n0 n1 n : Nat} {w w' : World} (hk : KpC n0 n1 w w') (hn : n ≤ n0) : ∀ {xs : List Value} {f : Fo}, Reps n w xs f → Reps n w' xs f
  | _, .nil, h => h
  | _, .cons _ _ _ _, ⟨a, cap, ys, hx, ⟨h1, h2, h3, h4⟩, hr⟩ => ⟨a, cap, ys, hx, ⟨h1, h2, h3, h4.elim .inl (fun ⟨b, o, zs, ha, hlt, hc, hz⟩ => .inr ⟨b, o, zs, ha, hlt, hc.kp hk (Nat.lt_of_lt_of_le hlt hn), Reps.kp hk hn hz⟩)⟩, Reps.kp hk hn hr⟩
theorem Sl.kp {n0 n1 n : Nat} {w w' : World} {a : Option Addr} {cap : Nat} {f : Fo} (h : Sl n w a cap f) (hk : KpC n0 n1 w w') (hn : n ≤ n0) : Sl n w' a cap f :=
  ⟨h.1, h.2.1, h.2.2.1, h.2.2.2.elim .inl (fun ⟨b, o, zs, ha, hlt, hc, hz⟩ => .inr ⟨b, o, zs, ha, hlt, hc.kp hk (Nat.lt_of_lt_of_le hlt hn), hz.kp hk hn⟩)⟩

/-- what a walk over all terms may do. -/
def VisitOut (n0 n1 : Nat) (J Jx : List Ev → World → Prop) (L : Nat) (f : Fo) (pre : List Ev) (W : World) (e : Ending) (W' : World) : Prop :=
  (e = .returned (.bool true) ∧ (∃ xs, Hid (xs.map Ev.er = evs L f) ∧ Hid (J (pre ++ xs) W')) ∧ KpC n0 n1 W W') ∨ (e = .returned (.bool false) ∧ ∃ q, Hid (q.map Ev.er <+: evs L f) ∧ Hid (Jx (pre ++ q) W'))

set_option maxRecDepth 100000 in
set_option maxHeartbeats 6400000 in
theorem visit_in (l n0 n1 N B : Nat) (J Jx : List Ev → World → Prop) (hJ : AbidesFrom B J)
    (hY : ∀ m pre x W, J pre W → pre.length < N → YieldAt Fence.wide m Try.prog l x.enc W fun e W' =>
      (e = .returned (.bool true) ∧ J (pre ++ [x]) W' ∧ KpC n0 n1 W W') ∨ (e = .returned (.bool false) ∧ Jx (pre ++ [x]) W')) (M : Nat) :
    ∀ (n : Nat) (f : Fo) (a : Option Addr) (cap L : Nat) (pre : List Ev) (W : World), f.count ≤ M → Small f → L + f.count ≤ 1000000 → Sl n0 W a cap f → n1 ≤ W.heap.size → J pre W → pre.length + f.count ≤ N →
      CallsIn Fence.wide n Try.prog 58 #[.slice a f.len cap, .int .i64 L, .func (.yield l) #[] #[]] W (VisitOut n0 n1 J Jx L f pre W) := by
  induction M with
  | zero =>
    intro n f a cap L pre W hc hsm hL hs hn hj hN
    obtain rfl : f = .nil := by cases f with
      | nil => rfl
      | cons k t c r => simp [Fo.count] at hc
    refine callsIn_of_wp Try.func58 rfl trivial ?_ rfl
    simp only [Try.ntmps58, List.size_toArray, List.length_cons, List.length_nil, Nat.reduceAdd, Nat.reduceSub, Array.replicate_succ, Array.replicate_zero, List.push_toArray, List.append_toArray, List.nil_append, List.cons_append]
    gi_wp2
    gi_loopw [11] (fun i wr => i = .int .i64 0 ∧ W = wr) (fun _ _ => 0)
    case atStart => exact ⟨rfl, rfl⟩
    case round =>
      obtain ⟨rfl, rfl⟩ := hrel
      gi_wp2
      go_ret
      exact .inl ⟨rfl, ⟨[], Lib.hid rfl, Lib.hid (by simpa using hj)⟩, KpC.refl _ _ _⟩
  | succ M ih =>
    intro n f a cap L pre W hc hsm hL hs hn hj hN
    obtain ⟨b, o, hab, hbw, HCX⟩ := base_of hs
    have hcap := hs.cap
    unfold maxLen at hcap
    have HAB := Lib.hid hab
    have HBW := Lib.hid hbw
    have HIH := Lib.hid ih
    have HC := Lib.hid hc
    have HSM := Lib.hid hsm
    have HY := Lib.hid hY
    have HJ := Lib.hid hJ
    have HNN := Lib.hid hN
    have hdd : ∀ k : Nat, (Fence.wide.depth.isSome = true → 1 ≤ k) := fun k h => by cases h
    clear ih hs hab hbw hc hsm hY hJ hN
    refine callsIn_of_wp Try.func58 rfl trivial ?_ rfl
    simp only [Try.ntmps58, List.size_toArray, List.length_cons, List.length_nil, Nat.reduceAdd, Nat.reduceSub, Array.replicate_succ, Array.replicate_zero, List.push_toArray, List.append_toArray, List.nil_append, List.cons_append]
    gi_wp2
    gi_loopw [11] (fun i wr => ∃ (k : Nat) (xs : List Ev), i = .int .i64 k ∧ k ≤ f.len ∧ Hid (xs.map Ev.er = evs L (f.take k)) ∧ Hid (J (pre ++ xs) wr) ∧ KpC n0 n1 W wr) (fun i _ => f.len - (intOf i).toNat)
    case atStart => exact ⟨0, [], rfl, Nat.zero_le _, Lib.hid (by rw [Fo.take_zero]; rfl), Lib.hid (by simpa using hj), KpC.refl _ _ _⟩
    case round =>
      obtain ⟨k, xs, rfl, hk, hxs, hJs, hkp⟩ := hrel
      by_cases hkl : k < f.len
      · obtain rfl := HAB.out (by omega)
        have hb := HBW.out (by omega)
        obtain ⟨kd, t, c, hd⟩ := Fo.drop_at hkl
        obtain ⟨x0, x1, ac, capc, x2, hsc⟩ := HCX.out k kd t c _ hd
        have hck := Fo.count_kid hd
        have hat := HSM.out.at hd
        have c0 : wr.cell? ⟨b, o + k * 3, none⟩ = some (.int .i64 kd) := hkp.cell (.inl hb) x0
        have c1 : wr.cell? ⟨b, o + k * 3 + 1, none⟩ = some (.string t) := hkp.cell (.inl hb) x1
        have c2 : wr.cell? ⟨b, o + k * 3 + 2, none⟩ = some (.slice ac c.len capc) := hkp.cell (.inl hb) x2
        have hwr : n1 ≤ wr.heap.size := Nat.le_trans hn hkp.1
        have hkp1 : KpC n0 n1 wr (wr.alloc (.cells #[.int .i64 kd, .string t, .slice ac c.len capc] 35)) := KpC.alloc _ _
        have HE := Lib.hid (evs_drop L hd)
        have hlen : xs.length = (f.take k).count := by rw [← evs_length L, ← hxs.out, List.length_map]
        have htc : (f.take k).count + (c.count + (f.drop (k + 1)).count + 1) = f.count := by
          have e := congrArg Fo.count (Fo.take_app_drop k f)
          rw [Fo.count_app, hd] at e; exact e
        have hcc : c.count + 1 ≤ f.count := by omega
        have Y := HY.out (n - 1) (pre ++ xs) ⟨L, kd, t, c, ac, capc, hat.1, by omega⟩ (wr.alloc (.cells #[.int .i64 kd, .string t, .slice ac c.len capc] 35))
          (HJ.out _ _ _ none hJs.out (World.grownBy_alloc wr _ none) (fun r e => by cases e)) (by rw [List.length_append]; have := HNN.out; omega)
        obtain ⟨fn, tmps, assign, body, hy, hR⟩ := (show YieldAt Fence.wide (n - 1) Try.prog l #[.int .i64 L, .agg #[.int .i64 kd, .string t, .slice ac c.len capc]] _ _ from Y)
        have hbx : (wr.alloc (.cells #[.int .i64 kd, .string t, .slice ac c.len capc] 35)).cell? ⟨wr.heap.size, 2, none⟩ = some (.slice ac c.len capc) := by rw [World.cell?_alloc_at _ _ _ _ rfl]; rfl
        have HBX := Lib.hid hbx
        obtain ⟨x, hx⟩ : ∃ x : Ev, x = ⟨L, kd, t, c, ac, capc, hat.1, by omega⟩ := ⟨_, rfl⟩
        have hxer : x.er = (L, kd, t, c) := by rw [hx]; rfl
        have HXER := Lib.hid hxer
        rw [← hx] at hR
        have HCT := Lib.hid htc
        have HLN := Lib.hid hlen
        have HCK := Lib.hid hck
        have HSC := Lib.hid hsc
        have HSMC := Lib.hid hat.2
        have HXS := Lib.hid (show (xs ++ [x]).map Ev.er = evs L (f.take k) ++ [(L, kd, t, c)] from by rw [List.map_append, hxs.out]; simp [HXER.out])
        have HTK := Lib.hid (show evs L (f.take (k + 1)) = evs L (f.take k) ++ ((L, kd, t, c) :: evs (L + 1) c) from by rw [Fo.take_succ hd, evs_app]; simp [evs])
        clear hd x0 x1 x2 hbx hx hxer Y htc hlen hck hsc hat
        gi_wp2
        refine ⟨hdd _, ?_⟩
        refine hR.mono ?_
        rintro e W2 (⟨rfl, hJ2, hk2⟩ | ⟨rfl, hJx⟩)
        · have c2' : W2.cell? ⟨wr.heap.size, 2, none⟩ = some (.slice ac c.len capc) := hk2.cell (.inr hwr) HBX.out
          have hkW2 : KpC n0 n1 W W2 := (hkp.trans hkp1).trans hk2
          have S := HIH.out (n - 1) c ac capc (L + 1) (pre ++ xs ++ [x]) W2 (by have := HC.out; have := HCK.out; omega) HSMC.out (by omega) (HSC.out.kp hkW2 (Nat.le_refl _)) (by have := hkW2.1; omega) hJ2 (by rw [List.length_append, List.length_append, List.length_singleton]; have := HNN.out; have := HCT.out; have := HLN.out; omega)
          have HS := Lib.hid S
          clear S
          gi_wp2_with (refine ⟨trivial, ?_⟩; refine ⟨hdd _, ?_⟩; gi_at_call 58; refine HS.out.mono ?_; rintro e W3 (⟨rfl, ⟨ys, hys, hJ3⟩, hk3⟩ | ⟨rfl, q, hq, hx3⟩))
          · go_roundw
            case rel => exact ⟨k + 1, xs ++ [x] ++ ys, by go_num, by omega, Lib.hid (by rw [List.map_append, HXS.out, hys.out, HTK.out]; simp), Lib.hid (by simpa [List.append_assoc] using hJ3.out), hkW2.trans hk3⟩
            case measure => simp [intOf]; omega
          · go_ret
            exact .inr ⟨rfl, xs ++ [x] ++ q, Lib.hid (by
              rw [List.map_append, HXS.out, HE.out]
              obtain ⟨r, hr⟩ := hq.out
              exact ⟨r ++ evs L (f.drop (k + 1)), by rw [← hr]; simp⟩), Lib.hid (by simpa [List.append_assoc] using hx3.out)⟩
        · gi_wp2
          refine ⟨trivial, ?_⟩
          gi_wp2
          go_ret
          exact .inr ⟨rfl, xs ++ [x], Lib.hid (by rw [HXS.out, HE.out]; exact ⟨evs (L + 1) c ++ evs L (f.drop (k + 1)), by simp⟩), Lib.hid (by simpa [List.append_assoc] using hJx)⟩
      · obtain rfl : k = f.len := by omega
        have HF := Lib.hid (show xs.map Ev.er = evs L f from by rw [hxs.out, Fo.take_len])
        gi_wp2
        go_ret
        exact .inl ⟨rfl, ⟨xs, HF, hJs⟩, hkp⟩
end Go.Proofs.Ytajdpchojimigaa
