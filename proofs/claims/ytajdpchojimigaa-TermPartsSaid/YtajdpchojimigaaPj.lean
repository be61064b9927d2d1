/- Maps from texts to true: sets of texts. -/
import Derived.Test.YtajdpchojimigaaSn
import Derived.Maps.OwnSet
import Derived.Maps.Views
import Derived.Test.YtajdpchojimigaaFb
import Derived.Test.YtajdpchojimigaaNm
import Derived.Test.YtajdpchojimigaaPn
namespace Go.Proofs.Ytajdpchojimigaa
open Go.RowKit TmM

/-- block b is a set that has just the texts of l (each at most m times written). -/
def MapB (w : World) (b : Nat) (m : Nat) (l : List ByteArray) : Prop :=
  ∃ (D : DataW Unit), w.ownsMap Try.prog 9 (plainElem Try.prog 4) b m D ∧ ∀ s : ByteArray, s.size ≤ maxLen → D.atKey (.string s.data.toList) (.lit (.bool false)) = .lit (.bool (hasB l s))
theorem MapB.made (w : World) : MapB (w.alloc (.map #[] 0)) w.heap.size 0 [] :=
  ⟨.map [], World.ownsMap_made w _ _ _, fun _ _ => rfl⟩
theorem MapB.kept {w w' : World} {b m : Nat} {l : List ByteArray} {row : Option Nat} (h : MapB w b m l) (hg : w.grownBy w' row) (hne : some b ≠ row) : MapB w' b m l := by
  obtain ⟨D, h1, h2⟩ := h
  exact ⟨D, h1.kept hg hne, h2⟩
theorem MapB.later {w w' : World} {b m : Nat} {l : List ByteArray} (h : MapB w b m l) (hw : w'.heap[b]? = w.heap[b]?) : MapB w' b m l := by
  obtain ⟨D, ⟨es, clock, hb, h3⟩, h2⟩ := h
  exact ⟨D, ⟨es, clock, hw.trans hb, h3⟩, h2⟩
theorem MapB.lt {w : World} {b m : Nat} {l : List ByteArray} (h : MapB w b m l) : b < w.heap.size := by
  obtain ⟨D, h1, _⟩ := h
  exact h1.lt
theorem plainElem_bool_inv {P : Program} {e : TypeId} (he : P.underlying e = some .bool) {v : Value} {z : DataW Unit × List MemPlace} (h : plainElem P e v = some z) : ∃ c, v = .bool c ∧ z = (.lit (.bool c), []) := by
  unfold plainElem at h
  rw [he] at h
  cases v <;> simp at h
  exact ⟨_, rfl, h.symm⟩
theorem text_lit {x s : ByteArray} (h : (Lit.string x.data.toList) = .string s.data.toList) : x = s := by
  injection h with h
  obtain ⟨d⟩ := x
  obtain ⟨d'⟩ := s
  have : d = d' := Array.toList_inj.1 h
  rw [this]
theorem zero_bool (w : World) : (zeroValue 4).run Try.prog w = .ok (.bool false) w := by kernel_rfl

theorem MapB.lookup {w : World} {b m : Nat} {l : List ByteArray} (h : MapB w b m l) {s : ByteArray} (hs : s.size ≤ maxLen) :
    (Instr.lookup 74 (.map (some b)) (.string s) false).run Try.prog w = .ok (.bool (hasB l s)) w := by
  obtain ⟨D, h1, h2⟩ := h
  obtain ⟨v, ps, hrun, hv⟩ := h1.lookup (Maps.string_keyed Try.underlying9) Try.underlying74 (zero_bool w) (plainElem_bool Try.underlying4 false) (WideMaps.keyOf_string_mk Try.underlying9 hs)
  obtain ⟨c, rfl, hc⟩ := plainElem_bool_inv Try.underlying4 hv
  rw [h2 s hs] at hc
  simp only [Prod.mk.injEq, DataW.lit.injEq, Lit.bool.injEq] at hc
  rw [hrun, hc.1]

theorem hasB_snoc (l : List ByteArray) (x s : ByteArray) : hasB (l ++ [x]) s = (hasB l s || decide (x = s)) := by simp [hasB]

theorem MapB.update {w : World} {b m : Nat} {l : List ByteArray} (h : MapB w b m l) (hm : m < maxLen) {x : ByteArray} (hx : x.size ≤ maxLen) :
    ∃ w', (Instr.mapUpdate 74 (.map (some b)) (.string x) (.bool true)).run Try.prog w = .ok () w' ∧ MapB w' b (m + 1) (l ++ [x]) ∧ w.grownBy w' (some b) := by
  obtain ⟨D, h1, h2⟩ := h
  obtain ⟨w', hrun, h3, h4⟩ := h1.update (Maps.string_keyed Try.underlying9) Try.underlying74 hm (WideMaps.keyOf_string_mk Try.underlying9 hx) (plainElem_bool Try.underlying4 true)
  refine ⟨w', hrun, ⟨_, h3, fun s hs => ?_⟩, h4⟩
  rw [hasB_snoc]
  by_cases e : x = s
  · subst e
    rw [Maps.atKey_put_same (World.ownsMap.isMap h1) (by exact trivial), decide_eq_true rfl, Bool.or_true]
  · have hne : (Lit.string s.data.toList) ≠ .string x.data.toList := fun h => e (text_lit h).symm
    rw [Maps.atKey_put_other hne, h2 s hs, decide_eq_false e, Bool.or_false]
end Go.Proofs.Ytajdpchojimigaa

namespace Go.Proofs.Ytajdpchojimigaa
open Go.RowKit Go.Shelf TmM
attribute [local go_sem] Oper.semAt_some

/-- the cells of a term. -/
def termO : Obj → Prop
  | .cells _ t _ => t = 35
  | _ => False
/-- what lay below n0 lies as it lay, and so does every term. -/
structure KpT (n0 : Nat) (W W' : World) : Prop where
  size : W.heap.size ≤ W'.heap.size
  old : ∀ i, i < n0 → ∀ o, W.heap[i]? = some o → o.isCells = true → W'.heap[i]? = some o
  new : ∀ i o, n0 ≤ i → W.heap[i]? = some o → termO o → W'.heap[i]? = some o
theorem KpT.refl (n0 : Nat) (W : World) : KpT n0 W W := ⟨Nat.le_refl _, fun _ _ _ h _ => h, fun _ _ _ h _ => h⟩
theorem KpT.trans {n0 : Nat} {A B C : World} (h : KpT n0 A B) (k : KpT n0 B C) : KpT n0 A C :=
  ⟨Nat.le_trans h.size k.size, fun i hi o ho hc => k.old i hi o (h.old i hi o ho hc) hc, fun i o hi ho hc => k.new i o hi (h.new i o hi ho hc) hc⟩
theorem KpT.of_below {n0 : Nat} {A B : World} (h : Below A.heap.size A B) : KpT n0 A B :=
  ⟨h.size, fun _ _ _ ho _ => (h.block _ (Array.getElem?_eq_some_iff.1 ho).1).trans ho, fun _ _ _ ho _ => (h.block _ (Array.getElem?_eq_some_iff.1 ho).1).trans ho⟩
theorem KpT.alloc {n0 : Nat} (W : World) (o : Obj) : KpT n0 W (W.alloc o) := KpT.of_below ((Below.refl _ _).alloc (Nat.le_refl _) _)
theorem KpT.drew {n0 : Nat} (W : World) : KpT n0 W W.drew := ⟨Nat.le_refl _, fun _ _ _ h _ => h, fun _ _ _ h _ => h⟩
/-- one block from n0 on has changed, and it is no term. -/
theorem KpT.one {n0 b : Nat} {W W' : World} (hz : W.heap.size ≤ W'.heap.size) (hb : n0 ≤ b) (ho : ∀ o, W.heap[b]? = some o → ¬ termO o) (h : ∀ i, i < W.heap.size → i ≠ b → W'.heap[i]? = W.heap[i]?) : KpT n0 W W' :=
  ⟨hz, fun i hi o hoi _ => (h i (Array.getElem?_eq_some_iff.1 hoi).1 (by omega)).trans hoi, fun i o _ hoi ht => by
    by_cases e : i = b
    · subst e; exact absurd ht (ho o hoi)
    · exact (h i (Array.getElem?_eq_some_iff.1 hoi).1 e).trans hoi⟩
theorem KpT.grown {n0 : Nat} {W W' : World} {row : Option Nat} (hg : W.grownBy W' row) (hr : ∀ b, row = some b → n0 ≤ b ∧ ∀ o, W.heap[b]? = some o → ¬ termO o) : KpT n0 W W' := by
  cases row with
  | none => exact ⟨hg.size, fun i _ o hoi _ => (hg.block i (Array.getElem?_eq_some_iff.1 hoi).1 (by simp)).trans hoi, fun i o _ hoi _ => (hg.block i (Array.getElem?_eq_some_iff.1 hoi).1 (by simp)).trans hoi⟩
  | some b => exact KpT.one hg.size (hr b rfl).1 (hr b rfl).2 (fun i hi hne => hg.block i hi (by simp; exact hne))
theorem KpT.putObj {n0 : Nat} (W : World) (l : Nat) (o o' : Obj) (h : W.heap[l]? = some o) (hc : o.isCells = false) : KpT n0 W (W.putObj l o') := by
  refine ⟨(grownBy_putObj' W l o').size, fun i _ x hx hxc => ?_, fun i x _ hx hxc => ?_⟩
  · by_cases e : i = l
    · subst e; rw [h] at hx; cases hx; rw [hc] at hxc; cases hxc
    · exact (World.putObj_heap_other e).trans hx
  · by_cases e : i = l
    · subst e; rw [h] at hx; cases hx
      cases o <;> simp [Obj.isCells] at hc <;> exact hxc.elim
    · exact (World.putObj_heap_other e).trans hx
theorem KpT.cell {n0 : Nat} {W W' : World} (h : KpT n0 W W') {p : Addr} {v : Value} (hi : p.block < n0) (hv : W.cell? p = some v) : W'.cell? p = some v := by
  cases hb : W.heap[p.block]? with
  | none => simp [World.cell?, hb] at hv
  | some o =>
    have hc : o.isCells = true := by
      cases o <;> simp_all [World.cell?, Obj.isCells]
    exact (World.cell?_of_block ((h.old _ hi o hb hc).trans hb.symm)).trans hv
theorem KpT.term {n0 i : Nat} {W W' : World} (h : KpT n0 W W') {cs : Array Value} {fz : Nat × Nat} (hi : n0 ≤ i) (ho : W.heap[i]? = some (.cells cs 35 fz)) : W'.heap[i]? = some (.cells cs 35 fz) := h.new i _ hi ho rfl
theorem Cells.kpT {n0 : Nat} {w w' : World} {b o : Nat} {xs : List Value} (h : Cells w b o xs) (hk : KpT n0 w w') (hn : b < n0) : Cells w' b o xs := fun j hj => by
  have e := h j hj
  rw [List.getElem?_eq_getElem hj] at e ⊢
  exact hk.cell hn e
theorem Reps.kpT {n0 n : Nat} {w w' : World} (hk : KpT n0 w w') (hn : n ≤ n0) : ∀ {xs : List Value} {f : Fo}, Reps n w xs f → Reps n w' xs f
  | _, .nil, h => h
  | _, .cons _ _ _ _, ⟨a, cap, ys, hx, ⟨h1, h2, h3, h4⟩, hr⟩ => ⟨a, cap, ys, hx, ⟨h1, h2, h3, h4.elim .inl (fun ⟨b, o, zs, ha, hlt, hc, hz⟩ => .inr ⟨b, o, zs, ha, hlt, hc.kpT hk (Nat.lt_of_lt_of_le hlt hn), Reps.kpT hk hn hz⟩)⟩, Reps.kpT hk hn hr⟩
theorem Sl.kpT {n0 n : Nat} {w w' : World} {a : Option Addr} {cap : Nat} {f : Fo} (h : Sl n w a cap f) (hk : KpT n0 w w') (hn : n ≤ n0) : Sl n w' a cap f :=
  ⟨h.1, h.2.1, h.2.2.1, h.2.2.2.elim .inl (fun ⟨b, o, zs, ha, hlt, hc, hz⟩ => .inr ⟨b, o, zs, ha, hlt, hc.kpT hk (Nat.lt_of_lt_of_le hlt hn), hz.kpT hk hn⟩)⟩

/-- what a walk over all terms may do. -/
def VisitOutT (n0 : Nat) (J Jx : List Ev → World → Prop) (L : Nat) (f : Fo) (pre : List Ev) (W : World) (e : Ending) (W' : World) : Prop :=
  (e = .returned (.bool true) ∧ (∃ xs, Hid (xs.map Ev.er = evs L f) ∧ Hid (J (pre ++ xs) W')) ∧ KpT n0 W W') ∨ (e = .returned (.bool false) ∧ ∃ q, Hid (q.map Ev.er <+: evs L f) ∧ Hid (Jx (pre ++ q) W'))

set_option maxRecDepth 100000 in
set_option maxHeartbeats 6400000 in
theorem visitT_in (l n0 N B : Nat) (J Jx : List Ev → World → Prop) (hJ : AbidesFrom B J)
    (hY : ∀ m pre x W, J pre W → pre.length < N → YieldAt Fence.wide m Try.prog l x.enc W fun e W' =>
      (e = .returned (.bool true) ∧ J (pre ++ [x]) W' ∧ KpT n0 W W') ∨ (e = .returned (.bool false) ∧ Jx (pre ++ [x]) W')) (M : Nat) :
    ∀ (n : Nat) (f : Fo) (a : Option Addr) (cap L : Nat) (pre : List Ev) (W : World), f.count ≤ M → Small f → L + f.count ≤ 1000000 → Sl n0 W a cap f → n0 ≤ W.heap.size → J pre W → pre.length + f.count ≤ N →
      CallsIn Fence.wide n Try.prog 58 #[.slice a f.len cap, .int .i64 L, .func (.yield l) #[] #[]] W (VisitOutT n0 J Jx L f pre W) := by
  induction M with
  | zero =>
    intro n f a cap L pre W hc hsm hL hs hn hj hN
    obtain rfl : f = .nil := by cases f with
      | nil => rfl
      | cons k t c r => simp [Fo.count] at hc
    refine callsIn_of_wp Try.func58 rfl trivial ?_ rfl
    simp only [Try.ntmps58, List.size_toArray, List.length_cons, List.length_nil, Nat.reduceAdd, Nat.reduceSub, Array.replicate_succ, Array.replicate_zero, List.push_toArray, List.append_toArray, List.nil_append, List.cons_append]
    gi_wp2
    gi_loopw [11] (fun i wr => i = .int .i64 0 ∧ W = wr) (fun _ _ => 0)
    case atStart => exact ⟨rfl, rfl⟩
    case round =>
      obtain ⟨rfl, rfl⟩ := hrel
      gi_wp2
      go_ret
      exact .inl ⟨rfl, ⟨[], Lib.hid rfl, Lib.hid (by simpa using hj)⟩, KpT.refl _ _⟩
  | succ M ih =>
    intro n f a cap L pre W hc hsm hL hs hn hj hN
    obtain ⟨b, o, hab, hbw, HCX⟩ := base_of hs
    have hcap := hs.cap
    unfold maxLen at hcap
    have HAB := Lib.hid hab
    have HBW := Lib.hid hbw
    have HIH := Lib.hid ih
    have HC := Lib.hid hc
    have HSM := Lib.hid hsm
    have HY := Lib.hid hY
    have HJ := Lib.hid hJ
    have HNN := Lib.hid hN
    have hdd : ∀ k : Nat, (Fence.wide.depth.isSome = true → 1 ≤ k) := fun k h => by cases h
    clear ih hs hab hbw hc hsm hY hJ hN
    refine callsIn_of_wp Try.func58 rfl trivial ?_ rfl
    simp only [Try.ntmps58, List.size_toArray, List.length_cons, List.length_nil, Nat.reduceAdd, Nat.reduceSub, Array.replicate_succ, Array.replicate_zero, List.push_toArray, List.append_toArray, List.nil_append, List.cons_append]
    gi_wp2
    gi_loopw [11] (fun i wr => ∃ (k : Nat) (xs : List Ev), i = .int .i64 k ∧ k ≤ f.len ∧ Hid (xs.map Ev.er = evs L (f.take k)) ∧ Hid (J (pre ++ xs) wr) ∧ KpT n0 W wr) (fun i _ => f.len - (intOf i).toNat)
    case atStart => exact ⟨0, [], rfl, Nat.zero_le _, Lib.hid (by rw [Fo.take_zero]; rfl), Lib.hid (by simpa using hj), KpT.refl _ _⟩
    case round =>
      obtain ⟨k, xs, rfl, hk, hxs, hJs, hkp⟩ := hrel
      by_cases hkl : k < f.len
      · obtain rfl := HAB.out (by omega)
        have hb := HBW.out (by omega)
        obtain ⟨kd, t, c, hd⟩ := Fo.drop_at hkl
        obtain ⟨x0, x1, ac, capc, x2, hsc⟩ := HCX.out k kd t c _ hd
        have hck := Fo.count_kid hd
        have hat := HSM.out.at hd
        have c0 : wr.cell? ⟨b, o + k * 3, none⟩ = some (.int .i64 kd) := hkp.cell hb x0
        have c1 : wr.cell? ⟨b, o + k * 3 + 1, none⟩ = some (.string t) := hkp.cell hb x1
        have c2 : wr.cell? ⟨b, o + k * 3 + 2, none⟩ = some (.slice ac c.len capc) := hkp.cell hb x2
        have hwr : n0 ≤ wr.heap.size := Nat.le_trans hn hkp.1
        have hkp1 : KpT n0 wr (wr.alloc (.cells #[.int .i64 kd, .string t, .slice ac c.len capc] 35)) := KpT.alloc _ _
        have HE := Lib.hid (evs_drop L hd)
        have hlen : xs.length = (f.take k).count := by rw [← evs_length L, ← hxs.out, List.length_map]
        have htc : (f.take k).count + (c.count + (f.drop (k + 1)).count + 1) = f.count := by
          have e := congrArg Fo.count (Fo.take_app_drop k f)
          rw [Fo.count_app, hd] at e; exact e
        have hcc : c.count + 1 ≤ f.count := by omega
        have Y := HY.out (n - 1) (pre ++ xs) ⟨L, kd, t, c, ac, capc, hat.1, by omega⟩ (wr.alloc (.cells #[.int .i64 kd, .string t, .slice ac c.len capc] 35))
          (HJ.out _ _ _ none hJs.out (World.grownBy_alloc wr _ none) (fun r e => by cases e)) (by rw [List.length_append]; have := HNN.out; omega)
        obtain ⟨fn, tmps, assign, body, hy, hR⟩ := (show YieldAt Fence.wide (n - 1) Try.prog l #[.int .i64 L, .agg #[.int .i64 kd, .string t, .slice ac c.len capc]] _ _ from Y)
        have hbx : (wr.alloc (.cells #[.int .i64 kd, .string t, .slice ac c.len capc] 35)).heap[wr.heap.size]? = some (.cells #[.int .i64 kd, .string t, .slice ac c.len capc] 35 (0, 0)) := World.alloc_heap_new wr _
        have HBX := Lib.hid hbx
        obtain ⟨x, hx⟩ : ∃ x : Ev, x = ⟨L, kd, t, c, ac, capc, hat.1, by omega⟩ := ⟨_, rfl⟩
        have hxer : x.er = (L, kd, t, c) := by rw [hx]; rfl
        have HXER := Lib.hid hxer
        rw [← hx] at hR
        have HCT := Lib.hid htc
        have HLN := Lib.hid hlen
        have HCK := Lib.hid hck
        have HSC := Lib.hid hsc
        have HSMC := Lib.hid hat.2
        have HXS := Lib.hid (show (xs ++ [x]).map Ev.er = evs L (f.take k) ++ [(L, kd, t, c)] from by rw [List.map_append, hxs.out]; simp [HXER.out])
        have HTK := Lib.hid (show evs L (f.take (k + 1)) = evs L (f.take k) ++ ((L, kd, t, c) :: evs (L + 1) c) from by rw [Fo.take_succ hd, evs_app]; simp [evs])
        clear hd x0 x1 x2 hbx hx hxer Y htc hlen hck hsc hat
        gi_wp2
        refine ⟨hdd _, ?_⟩
        refine hR.mono ?_
        rintro e W2 (⟨rfl, hJ2, hk2⟩ | ⟨rfl, hJx⟩)
        · have c2' : W2.cell? ⟨wr.heap.size, 2, none⟩ = some (.slice ac c.len capc) := by simp [World.cell?, hk2.term hwr HBX.out]
          have hkW2 : KpT n0 W W2 := (hkp.trans hkp1).trans hk2
          have S := HIH.out (n - 1) c ac capc (L + 1) (pre ++ xs ++ [x]) W2 (by have := HC.out; have := HCK.out; omega) HSMC.out (by omega) (HSC.out.kpT hkW2 (Nat.le_refl _)) (by have := hkW2.1; omega) hJ2 (by rw [List.length_append, List.length_append, List.length_singleton]; have := HNN.out; have := HCT.out; have := HLN.out; omega)
          have HS := Lib.hid S
          clear S
          gi_wp2_with (refine ⟨trivial, ?_⟩; refine ⟨hdd _, ?_⟩; gi_at_call 58; refine HS.out.mono ?_; rintro e W3 (⟨rfl, ⟨ys, hys, hJ3⟩, hk3⟩ | ⟨rfl, q, hq, hx3⟩))
          · go_roundw
            case rel => exact ⟨k + 1, xs ++ [x] ++ ys, by go_num, by omega, Lib.hid (by rw [List.map_append, HXS.out, hys.out, HTK.out]; simp), Lib.hid (by simpa [List.append_assoc] using hJ3.out), hkW2.trans hk3⟩
            case measure => simp [intOf]; omega
          · go_ret
            exact .inr ⟨rfl, xs ++ [x] ++ q, Lib.hid (by
              rw [List.map_append, HXS.out, HE.out]
              obtain ⟨r, hr⟩ := hq.out
              exact ⟨r ++ evs L (f.drop (k + 1)), by rw [← hr]; simp⟩), Lib.hid (by simpa [List.append_assoc] using hx3.out)⟩
        · gi_wp2
          refine ⟨trivial, ?_⟩
          gi_wp2
          go_ret
          exact .inr ⟨rfl, xs ++ [x], Lib.hid (by rw [HXS.out, HE.out]; exact ⟨evs (L + 1) c ++ evs L (f.drop (k + 1)), by simp⟩), Lib.hid (by simpa [List.append_assoc] using hJx)⟩
      · obtain rfl : k = f.len := by omega
        have HF := Lib.hid (show xs.map Ev.er = evs L f from by rw [hxs.out, Fo.take_len])
        gi_wp2
        go_ret
        exact .inl ⟨rfl, ⟨xs, HF, hJs⟩, hkp⟩
set_option maxHeartbeats 1000000 in
set_option maxRecDepth 100000 in
theorem all1T_in (n l n0 B Bt : Nat) (f : Fo) (a : Option Addr) (cap : Nat) (J Jx : List Ev → World → Prop) (hJ : AbidesFrom B J)
    (hY : ∀ m pre x W, J pre W → pre.length < f.count → YieldAt Fence.wide m Try.prog l x.enc W fun e W' =>
      (e = .returned (.bool true) ∧ J (pre ++ [x]) W' ∧ KpT n0 W W') ∨ (e = .returned (.bool false) ∧ Jx (pre ++ [x]) W'))
    (W : World) (hBt : W.cell? ⟨Bt, 0, none⟩ = some (.slice a f.len cap)) (hsm : Small f) (hL : f.count ≤ 1000000) (hs : Sl n0 W a cap f) (hn : n0 ≤ W.heap.size) (h0 : J [] W) :
    CallsIn Fence.wide n Try.prog 95 #[.func (.yield l) #[] #[], .pointer (some ⟨Bt, 0, none⟩)] W fun e W' => (∃ v, e = .returned v) ∧
      ((∃ ys, ys.map Ev.er = evs 0 f ∧ J ys W') ∨ (∃ pre, pre.map Ev.er <+: evs 0 f ∧ Jx pre W')) := by
  have hdd : ∀ k : Nat, (Fence.wide.depth.isSome = true → 1 ≤ k) := fun k h => by cases h
  have hv := visitT_in l n0 f.count B J Jx hJ hY f.count (n - 1) f a cap 0 [] W (Nat.le_refl _) hsm (by omega) hs hn h0 (by simp)
  have HV := Lib.hid (show CallsIn Fence.wide (n - 1) Try.prog 58 #[.slice a f.len cap, .int .i64 0, .func (.yield l) #[] #[]] W (VisitOutT n0 J Jx 0 f [] W) from hv)
  clear hv hY hJ hs hsm
  refine callsIn_of_wp Try.func95 rfl trivial ?_ rfl
  simp only [Try.ntmps95, List.size_toArray, List.length_cons, List.length_nil, Nat.reduceAdd, Nat.reduceSub, Array.replicate_succ, Array.replicate_zero, List.push_toArray, List.append_toArray, List.nil_append, List.cons_append]
  gi_wp2_with (refine ⟨trivial, ?_⟩; refine ⟨hdd _, ?_⟩; gi_at_call 58; refine HV.out.mono ?_; rintro e W3 (⟨rfl, ⟨ys, hys, hJ3⟩, hk3⟩ | ⟨rfl, q, hq, hx3⟩))
  · go_end0
    exact ⟨⟨_, rfl⟩, .inl ⟨ys, hys.out, by simpa using hJ3.out⟩⟩
  · go_end0
    exact ⟨⟨_, rfl⟩, .inr ⟨q, hq.out, by simpa using hx3.out⟩⟩

theorem preorderT_stops (n n0 Bt : Nat) (f : Fo) (a : Option Addr) (cap : Nat) (w : World) (hBt : Bt < w.heap.size) (hn0 : n0 ≤ w.heap.size) (hc : w.cell? ⟨Bt, 0, none⟩ = some (.slice a f.len cap))
    (hsm : Small f) (hL : f.count ≤ 1000000) (hs : Sl n0 w a cap f) :
    SeqStopsK Fence.wide n Try.prog 95 #[.pointer (some ⟨Bt, 0, none⟩)] Ev.enc (KpT n0) (fun xs => xs.map Ev.er = evs 0 f) (fun pre => pre.map Ev.er <+: evs 0 f) f.count w :=
  fun l J Jx W hW hJ _ hY h0 =>
    all1T_in n l n0 W.heap.size Bt f a cap J Jx hJ (fun m pre x W' hj hl => YieldAt.anyDepth rfl m (hY pre x W' hj hl)) W ((hW.cell (p := ⟨Bt, 0, none⟩) hBt).trans hc) hsm hL (hs.below (hW.mono hn0) (Nat.le_refl _)) (Nat.le_trans hn0 hW.size) h0

end Go.Proofs.Ytajdpchojimigaa

namespace Go.Proofs.Ytajdpchojimigaa
open Go.RowKit Go.Shelf TmM
attribute [local go_sem] Oper.semAt_some

theorem calls_evs : ∀ (L : Nat) (f : Fo), callsF f = (evs L f).any (fun x => decide (x.2.1 = 8))
  | _, .nil => rfl
  | L, .cons k t c r => by
    rw [callsF, evs, List.any_cons, List.any_append, ← calls_evs (L + 1) c, ← calls_evs L r, Bool.or_assoc]
theorem calls_all {xs : List Ev} {f : Fo} (h : xs.map Ev.er = evs 0 f) : callsF f = xs.any (fun x => decide (x.k = 8)) := by
  rw [calls_evs 0 f, ← h, List.any_map]; rfl
theorem calls_some {xs : List Ev} {f : Fo} (h : xs.map Ev.er <+: evs 0 f) (hb : xs.any (fun x => decide (x.k = 8)) = true) : callsF f = true := by
  obtain ⟨r, hr⟩ := h
  rw [calls_evs 0 f, ← hr, List.any_append, List.any_map]
  rw [show ((fun x : Nat × Int × ByteArray × Fo => decide (x.2.1 = 8)) ∘ Ev.er) = (fun x : Ev => decide (x.k = 8)) from rfl, hb]
  rfl

set_option maxHeartbeats 12800000 in
set_option maxRecDepth 100000 in
theorem pcalls_any (f : Fo) (a : Option Addr) (cap : Nat) (w : World) (hL : f.count ≤ 1000000) (hsm : Small f) (hs : Sl w.heap.size w a cap f) :
    Calls Try.prog 40 #[.slice a f.len cap] w (OutV w (.bool (callsF f))) := by
  refine (callsIn_wide (n := 5)).1 ?_
  refine callsIn_of_wp_marks Try.func40 rfl trivial ?_ rfl
  simp only [Try.ntmps40, List.size_toArray, List.length_cons, List.length_nil, Nat.reduceAdd, Nat.reduceSub, Array.replicate_succ, Array.replicate_zero, List.push_toArray, List.append_toArray, List.nil_append, List.cons_append]
  gi_wp2_with (refine ⟨trivial, ?_⟩; gi_at_call 72; refine (callsIn_wide.2 (preorder_any _ _ _ _)).mono ?_; rintro e w' ⟨rfl, rfl⟩)
  have b0 := (Boxed.new w 4 (.bool false)).alloc (.cells #[.slice a f.len cap] 22)
  have b1 := Boxed.new (w.alloc (.cells #[.bool false] 4)) 22 (.slice a f.len cap)
  have hB0 : Below w.heap.size w ((w.alloc (.cells #[.bool false] 4)).alloc (.cells #[.slice a f.len cap] 22)) := ((Below.refl _ w).alloc (Nat.le_refl _) _).alloc (by simp) _
  have hsz : ((w.alloc (.cells #[.bool false] 4)).alloc (.cells #[.slice a f.len cap] 22)).heap.size = w.heap.size + 2 := by simp
  simp only [World.size_alloc] at b1
  obtain ⟨W0, hW0⟩ : ∃ W0, (w.alloc (.cells #[.bool false] 4)).alloc (.cells #[.slice a f.len cap] 22) = W0 := ⟨_, rfl⟩
  rw [hW0] at b0 b1 hB0 hsz ⊢
  clear hW0
  have HSM := Lib.hid hsm
  have HS := Lib.hid hs
  clear hsm hs
  refine wpIn_rangeFunc_ownH (n := 5) rfl (by omega) (gf := 95) (lb := #[.pointer (some ⟨w.heap.size + 1, 0, none⟩)]) rfl trivial (enters_of Try.func95 (by kernel_rfl) rfl)
    (preorder_stops 4 w.heap.size (w.heap.size + 2) (w.heap.size + 1) f a cap W0 (by omega) (by omega) (by omega) b1.cell HSM.out hL (HS.out.below hB0 (Nat.le_refl _))) KpC.trans (fun W l o o' _ h hc _ => KpC.putObj W l o o' h hc) (Below.refl _ _) (fun _ => rfl)
    (fun pre W => (Boxed W w.heap.size 4 (.bool false) ∧ pre.any (fun x => decide (x.k = 8)) = false ∧ w.heap.size + 2 ≤ W.heap.size) ∧ Below w.heap.size w W)
    (fun c pre W => (c = .ret ∧ pre.any (fun x => decide (x.k = 8)) = true ∧ Boxed W w.heap.size 4 (.bool true)) ∧ Below w.heap.size w W)
    (OwnFrom.and (Own.from (fun s A B row hs hg hr => ⟨boxed_own _ _ (fun (_ : Unit) => Value.bool false) () A B row hs.1 hg hr, hs.2.1, Nat.le_trans hs.2.2 hg.size⟩) _) (ownFrom_below (Nat.le_refl _) (by omega)))
    (fun c => OwnFrom.and (Own.from (fun s A B row hs hg hr => ⟨hs.1, hs.2.1, boxed_own _ _ (fun (_ : Unit) => Value.bool true) () A B row hs.2.2 hg hr⟩) _) (ownFrom_below (Nat.le_refl _) (by omega)))
    ⟨⟨b0, rfl, by omega⟩, hB0⟩
    (fun x a' W => ∃ Bx, w.heap.size + 2 ≤ Bx ∧ Blk W Bx x.cells ∧ a' = { tmps := #[.slice a f.len cap, undef, .pointer (some ⟨w.heap.size, 0, none⟩), undef, .pointer (some ⟨Bx, 0, none⟩), .slice a f.len cap, .func (.func 95) #[] #[.pointer (some ⟨w.heap.size + 1, 0, none⟩)], .int .i64 x.lv, .agg #[.int .i64 x.k, .string x.t, .slice x.a x.c.len x.cap], undef, undef, undef], defers := [] })
    (fun x a' _ X Y row hs hg hr => by obtain ⟨Bx, h1, h2, h3⟩ := hs; exact ⟨Bx, h1, blk_own Bx x.cells rfl () X Y row h2 hg (fun r e => (hr r e).2), h3⟩)
    ?assign ?body ?done ?stop
  case assign =>
    rintro l pre x W K ⟨⟨c0, hp, hz⟩, hB1⟩ hK
    dsimp only [Ev.enc]
    gi_wp2
    exact hK _ _ ((KeepsOthers.alloc _ _).from _) (KpC.alloc _ _) ⟨⟨c0.alloc _, hp, by simp; omega⟩, hB1.alloc hB1.size _⟩ ⟨W.heap.size, hz, Blk.new _ _, rfl⟩
  case body =>
    rintro l pre x a' V hl ⟨r, hr⟩ ⟨⟨c0, hp, hz2⟩, hB1⟩ ⟨Bx, hBx, bX, rfl⟩ hlt
    have d0 := c0.cell
    have f0 := c0.frozen
    have x0 : V.cell? ⟨Bx, 0, none⟩ = some (.int .i64 x.k) := by simp [World.cell?, show V.heap[Bx]? = _ from bX]
    have HP := Lib.hid hp
    clear hp
    by_cases hm : x.k = 8
    · have e8 : (x.k == 8) = true := by simpa using hm
      have HF := Lib.hid (show (pre ++ [x]).any (fun x => decide (x.k = 8)) = true from by rw [List.any_append]; simp [hm])
      clear hm
      gi_wp2
      exact ⟨(KeepsOthers.setCell _ _ _).from _, ⟨rfl, HF.out, c0.set _⟩, hB1.setCell (p := ⟨w.heap.size, 0, none⟩) (by simp) _⟩
    · have e8 : (x.k == 8) = false := by simpa using hm
      have HF := Lib.hid (show (pre ++ [x]).any (fun x => decide (x.k = 8)) = false from by rw [List.any_append, HP.out]; simp [hm])
      clear hm
      gi_wp2
      exact ⟨(KeepsOthers.refl _).from _, KpC.refl _ _ _, ⟨c0, HF.out, hz2⟩, hB1⟩
  case stop =>
    rintro D c pre W hD hpre ⟨⟨rfl, hln, c1⟩, hB⟩ hK
    have HW := Lib.hid (calls_some hpre hln)
    gi_wp2
    refine ⟨by simp, .inl ⟨_, _, rfl, run_takeDeferred hK, ?_⟩⟩
    have hc5 := cell_kept c1.cell (grownBy_putObj' _ D (.deferred none)) (fun r e => by cases e; exact ⟨_, hK, rfl⟩)
    refine ⟨.bool true, ?_, by rw [HW.out], hB.trans (belowK_b (w := w) (Nat.le_refl _) W D _ _ (by omega) hK rfl rfl)⟩
    simp [results, Try.f40, go_sem, hc5]
  case done =>
    rintro D ys W hD hS ⟨⟨c0, hp, hz⟩, hB⟩ hK
    have HW := Lib.hid ((calls_all hS).trans hp)
    have HC0 := Lib.hid c0
    have d0 := c0.cell
    have f0 := c0.frozen
    clear hS hp c0
    gi_wp2
    have hK' := (KeepsOthers.setCell W ⟨w.heap.size, 0, none⟩ (.bool false)).same D _ hK rfl
    refine ⟨by simp, .inl ⟨_, _, rfl, run_takeDeferred hK', ?_⟩⟩
    have hc5 := cell_kept (HC0.out.set (.bool false)).cell (grownBy_putObj' _ D (.deferred none)) (fun r e => by cases e; exact ⟨_, hK', rfl⟩)
    refine ⟨.bool false, ?_, by rw [HW.out], (hB.setCell (p := ⟨w.heap.size, 0, none⟩) (by simp) _).trans (belowK_b (w := w) (Nat.le_refl _) _ D _ _ (by omega) hK' rfl rfl)⟩
    simp [results, Try.f40, go_sem, hc5]
end Go.Proofs.Ytajdpchojimigaa

namespace Go.Proofs.Ytajdpchojimigaa
open Go.RowKit Go.Shelf TmM
attribute [local go_sem] Oper.semAt_some

theorem names_evs : ∀ (L : Nat) (f : Fo) (out : List ByteArray), namesF f out = (evs L f).foldl (fun o x => addN (nameF x.2.1 x.2.2.1) o) out
  | _, .nil, _ => rfl
  | L, .cons k t c r, out => by
    rw [namesF, evs, List.foldl_cons, List.foldl_append, ← names_evs (L + 1) c, ← names_evs L r]
def namesE (xs : List Ev) : List ByteArray := xs.foldl (fun o x => addN (nameF x.k x.t) o) []
theorem namesE_snoc (xs : List Ev) (x : Ev) : namesE (xs ++ [x]) = addN (nameF x.k x.t) (namesE xs) := by simp [namesE]
theorem namesE_all {xs : List Ev} {f : Fo} (h : xs.map Ev.er = evs 0 f) : namesE xs = namesF f [] := by
  rw [names_evs 0 f, ← h, List.foldl_map]; rfl
theorem foldN_len : ∀ (xs : List Ev) (out : List ByteArray), (xs.foldl (fun o x => addN (nameF x.k x.t) o) out).length ≤ out.length + xs.length
  | [], _ => by simp
  | x :: xs, out => by
    have h1 := foldN_len xs (addN (nameF x.k x.t) out)
    have h2 := addN_len (nameF x.k x.t) out
    simp only [List.foldl_cons, List.length_cons]
    omega
theorem namesE_len (xs : List Ev) : (namesE xs).length ≤ xs.length := by have := foldN_len xs []; simpa [namesE] using this

theorem wpListIn_append_strs {F : Fence} {n : Nat} {base : Nat} {w : World} {v : Value} {l l2 : List ByteArray} {ad : Option Addr} {c m : Nat} {ops : Array Oper} {rest : List Oper} {o : Oper} {a : Act} {Q : Exit → Act → World → Prop} (hgd : o.guard = none) (s x : Operand) (ho : o.op = .call { callee := .builtin .append, args := #[s, x], argTypes := #[43, 43] })
    (hB : OwnS base w v l) (hs : a.eval s = v) (hx : a.eval x = .slice ad m c) (hm : m = l2.length) (hp : Ss w ad c l2) (hl : l.length + l2.length ≤ 8000000)
    (h : ∀ v' w', OwnS base w' v' (l ++ l2) → w.grownBy w' v.ownBlock → wpListIn F n Try.prog ops Q rest (a.put o.dst v') w') : wpListIn F n Try.prog ops Q (o :: rest) a w := by
  refine wpListIn_plain hgd fun K hK' => ?_
  obtain ⟨v', w', hrun, h2, h3, _⟩ := run_append_strs hB hp hl hm o.type
  unfold Oper.wpIn
  refine ⟨?_, ?_⟩
  · simp [Oper.about, ho, resolve, Target.leads, Sem.run_pure]
  · rw [Oper.semAt_plain F _ _ (by rw [ho]; intro c hc'; cases hc')]
    simp [execOp, ho, resolve, invoke, builtin, hs, hx, hrun, Result.andThen]
    exact hK' _ _ (h v' w' h2 h3)

/-- only blocks of which S holds have changed. -/
structure Chg (S : Nat → Prop) (W W' : World) : Prop where
  size : W.heap.size ≤ W'.heap.size
  same : ∀ i, i < W.heap.size → ¬ S i → W'.heap[i]? = W.heap[i]?
theorem Chg.below {S : Nat → Prop} {W W' : World} (h : Below W.heap.size W W') : Chg S W W' := ⟨h.size, fun i hi _ => h.block i hi⟩
theorem Chg.grown {S : Nat → Prop} {W W' : World} {row : Option Nat} (h : W.grownBy W' row) (hr : ∀ b, row = some b → b < W.heap.size → S b) : Chg S W W' :=
  ⟨h.size, fun i hi hs => h.block i hi (fun e => hs (hr i e.symm hi))⟩
theorem Chg.trans {S : Nat → Prop} {A B C : World} (h : Chg S A B) (k : Chg S B C) : Chg S A C :=
  ⟨Nat.le_trans h.size k.size, fun i hi hs => (k.same i (Nat.lt_of_lt_of_le hi h.size) hs).trans (h.same i hi hs)⟩
theorem Chg.keeps {S : Nat → Prop} {W W' : World} {B : Nat} (h : Chg S W W') (hS : ∀ i o, B ≤ i → S i → W.heap[i]? = some o → o.isCells = true) : KeepsFrom B W W' :=
  ⟨h.size, fun k o hk ho hc => (h.same k (Array.getElem?_eq_some_iff.1 ho).1 (fun hs => by rw [hS k o hk hs ho] at hc; cases hc)).trans ho⟩
theorem Chg.kpT {S : Nat → Prop} {W W' : World} {n0 : Nat} (h : Chg S W W') (hS : ∀ i, S i → n0 ≤ i ∧ ∀ o, W.heap[i]? = some o → ¬ termO o) : KpT n0 W W' :=
  ⟨h.size, fun i hi o ho _ => (h.same i (Array.getElem?_eq_some_iff.1 ho).1 (fun hs => by have := (hS i hs).1; omega)).trans ho, fun i o _ ho ht => (h.same i (Array.getElem?_eq_some_iff.1 ho).1 (fun hs => (hS i hs).2 o ho ht)).trans ho⟩

/-- what the loop keeps: the names so far, as a list and as a set. -/
def VarJ (n : Nat) (pre : List Ev) (W : World) : Prop :=
  ∃ v m, Boxed W n 43 v ∧ OwnS n W v (namesE pre) ∧ Boxed W (n + 1 + 1) 74 (.map (some (n + 1))) ∧ MapB W (n + 1) m (namesE pre) ∧ m ≤ pre.length ∧ n + 4 ≤ W.heap.size
theorem varJ_own (n B : Nat) (hB : n + 4 ≤ B) : OwnFrom B (fun pre W => VarJ n pre W) := by
  rintro pre X Y row ⟨v, m, h1, h2, h3, h4, h5, h6⟩ hg hr
  have hne : ∀ b o, X.heap[b]? = some o → o.isCells = true → some b ≠ row := fun b o ho hc e => by
    obtain ⟨_, o', ho', hc'⟩ := hr b e.symm
    rw [ho] at ho'
    cases ho'
    rw [hc] at hc'
    cases hc'
  refine ⟨v, m, h1.kept hg (hne _ _ h1 rfl), ⟨h2.1.kept hg ?_, Nat.le_trans h2.2 hg.size⟩, h3.kept hg (hne _ _ h3 rfl), h4.kept hg (fun e => by have := (hr _ e.symm).1; omega), h5, Nat.le_trans h6 hg.size⟩
  rcases h2.1.2 with ⟨rfl, _⟩ | ⟨g, cap, cur, rfl, _, hgb, _⟩
  · exact .inl rfl
  · exact .inr (fun e => hne g _ hgb rfl e)

theorem own_obj {base : Nat} {w : World} {v : Value} {l : List ByteArray} (h : OwnS base w v l) {b : Nat} (hb : v.ownBlock = some b) : ∃ cs fz, w.heap[b]? = some (.cells cs 9 fz) := by
  rcases h.1.2 with ⟨rfl, _⟩ | ⟨g, cap, cur, rfl, _, hg, _⟩
  · cases hb
  · cases hb; exact ⟨_, _, hg⟩

theorem Ss.kept {w w' : World} {a : Option Addr} {cap : Nat} {l : List ByteArray} {row : Option Nat} (h : Ss w a cap l) (hg : w.grownBy w' row) (hr : ∀ r, row = some r → ∃ o : Obj, w.heap[r]? = some o ∧ o.isCells = false) : Ss w' a cap l :=
  ⟨h.1, h.2.1, h.2.2.1, h.2.2.2.imp id (fun ⟨b, o, ha, hlt, hc⟩ => ⟨b, o, ha, Nat.lt_of_lt_of_le hlt hg.size, fun j s hj => cell_kept (hc j s hj) hg hr⟩)⟩
theorem set_obj {w : World} {b m : Nat} {l : List ByteArray} (h : MapB w b m l) : ∃ es cl, w.heap[b]? = some (.map es cl) := by
  obtain ⟨D, ⟨es, cl, hb, _⟩, _⟩ := h
  exact ⟨es, cl, hb⟩
theorem set_obj' {w : World} {b m : Nat} {l : List ByteArray} (h : MapB w b m l) : ∃ o : Obj, w.heap[b]? = some o ∧ o.isCells = false := by
  obtain ⟨es, cl, hb⟩ := set_obj h
  exact ⟨_, hb, rfl⟩
theorem own_past {n b : Nat} {w w' : World} {v : Value} {l : List ByteArray} (h : OwnS n w v l) (hg : w.grownBy w' (some b)) (hb : ∃ es cl, w.heap[b]? = some (.map es cl)) : OwnS n w' v l := by
  refine ⟨h.1.kept hg ?_, Nat.le_trans h.2 hg.size⟩
  obtain ⟨es, cl, hb⟩ := hb
  rcases h.1.2 with ⟨rfl, _⟩ | ⟨g, cap, cur, rfl, _, hgb, _⟩
  · exact .inl rfl
  · exact .inr (fun e => by cases e; rw [hb] at hgb; cases hgb)

/-- what a new name leaves. -/
theorem var_new {n m : Nat} {w w3 w6 : World} {v v6 : Value} {L : List ByteArray} {s : ByteArray} {o : Obj} (c0 : Boxed w n 43 v) (ho : OwnS n w v L) (c2 : Boxed w (n + 1 + 1) 74 (.map (some (n + 1)))) (hmb : MapB w (n + 1) m L)
    (hz : n + 4 ≤ w.heap.size) (hg3 : w.grownBy w3 (some (n + 1))) (hm3 : MapB w3 (n + 1) (m + 1) (L ++ [s])) (hg6 : (w3.alloc o).grownBy w6 v.ownBlock) (hB6 : OwnS n w6 v6 (L ++ [s])) :
    Boxed w6 n 43 v ∧ Boxed (w6.setCell ⟨n, 0, none⟩ v6) n 43 v6 ∧ OwnS n (w6.setCell ⟨n, 0, none⟩ v6) v6 (L ++ [s]) ∧ Boxed (w6.setCell ⟨n, 0, none⟩ v6) (n + 1 + 1) 74 (.map (some (n + 1))) ∧
    MapB (w6.setCell ⟨n, 0, none⟩ v6) (n + 1) (m + 1) (L ++ [s]) ∧ n + 4 ≤ (w6.setCell ⟨n, 0, none⟩ v6).heap.size ∧ Below n w (w6.setCell ⟨n, 0, none⟩ v6) ∧
    Chg (fun i => i = n ∨ i = n + 1 ∨ v.ownBlock = some i) w (w6.setCell ⟨n, 0, none⟩ v6) := by
  have hmo : ∃ es cl, w.heap[n + 1]? = some (.map es cl) := by
    obtain ⟨D, ⟨es, cl, hb, _⟩, _⟩ := hmb
    exact ⟨es, cl, hb⟩
  obtain ⟨es, cl, hmo⟩ := hmo
  have own : ∀ b, v.ownBlock = some b → b ≠ n ∧ b ≠ n + 1 ∧ b ≠ n + 1 + 1 := by
    intro b hb
    obtain ⟨cs, fz, hcs⟩ := own_obj ho hb
    refine ⟨fun e => ?_, fun e => ?_, fun e => ?_⟩
    · subst e; have := (show w.heap[b]? = _ from c0).symm.trans hcs; simp at this
    · subst e; rw [hmo] at hcs; cases hcs
    · subst e; have := (show w.heap[n + 1 + 1]? = _ from c2).symm.trans hcs; simp at this
  have z3 : w.heap.size ≤ w3.heap.size := hg3.size
  have z6 : w3.heap.size + 1 ≤ w6.heap.size := by have := hg6.size; simpa using this
  have hk : ∀ i, i < w.heap.size → i ≠ n + 1 → v.ownBlock ≠ some i → w6.heap[i]? = w.heap[i]? := fun i hi h1 h2 =>
    (hg6.block i (by simp; omega) (fun e => h2 e.symm)).trans ((Below.heap_alloc w3 o i (by omega)).trans (hg3.block i hi (by simp; exact h1)))
  have b0 : Boxed w6 n 43 v := (hk n c0.lt (by omega) (fun e => (own n e).1 rfl)).trans c0
  have b2 : Boxed w6 (n + 1 + 1) 74 (.map (some (n + 1))) := (hk _ c2.lt (by omega) (fun e => (own _ e).2.2 rfl)).trans c2
  have m6 : w6.heap[n + 1]? = w3.heap[n + 1]? := (hg6.block (n + 1) (by simp; have := hm3.lt; omega) (fun e => (own _ e.symm).2.1 rfl)).trans (Below.heap_alloc w3 o _ hm3.lt)
  have hse : ∀ i, i ≠ n → (w6.setCell ⟨n, 0, none⟩ v6).heap[i]? = w6.heap[i]? := fun i hi => Below.heap_setCell _ _ _ _ hi
  have hsz : (w6.setCell ⟨n, 0, none⟩ v6).heap.size = w6.heap.size := by simp [World.setCell]
  have hv6 : v6.ownBlock ≠ some n := by
    intro e
    obtain ⟨cs, fz, hcs⟩ := own_obj hB6 e
    have := (show w6.heap[n]? = _ from b0).symm.trans hcs
    simp at this
  refine ⟨b0, b0.set _, ⟨ownsRow_setCell_other hB6.1 hv6 _, by rw [hsz]; exact hB6.2⟩, (hse _ (by omega)).trans b2, hm3.later ((hse _ (by omega)).trans m6), by rw [hsz]; omega, ?_, ?_⟩
  · refine ((((Below.refl n w).grown hg3 (by omega) (fun k hk => by cases hk; omega)).alloc (by omega) o).grown hg6 (by simp; omega) (fun k hk => ho.own_ge hk)).setCell (p := ⟨n, 0, none⟩) (Nat.le_refl _) _
  · exact ⟨by rw [hsz]; omega, fun i hi hs => (hse i (fun e => hs (.inl e))).trans (hk i hi (fun e => hs (.inr (.inl e))) (fun e => hs (.inr (.inr e))))⟩

set_option maxHeartbeats 12800000 in
set_option maxRecDepth 100000 in
theorem pvariables_any (f : Fo) (a : Option Addr) (cap : Nat) (w : World) (hL : f.count ≤ 1000000) (hsm : Small f) (hs : Sl w.heap.size w a cap f) :
    Calls Try.prog 38 #[.slice a f.len cap] w (OutS w (namesF f [])) := by
  have hmm := @run_makeMap Try.prog
  refine (callsIn_wide (n := 5)).1 ?_
  refine callsIn_of_wp_marks Try.func38 rfl trivial ?_ rfl
  simp only [Try.ntmps38, List.size_toArray, List.length_cons, List.length_nil, Nat.reduceAdd, Nat.reduceSub, Array.replicate_succ, Array.replicate_zero, List.push_toArray, List.append_toArray, List.nil_append, List.cons_append]
  gi_wp2_with (refine ⟨trivial, ?_⟩; gi_at_call 72; refine (callsIn_wide.2 (preorder_any _ _ _ _)).mono ?_; rintro e w' ⟨rfl, rfl⟩)
  have b0 := ((Boxed.new w 43 (.slice none 0 0)).alloc (.map #[] 0)).alloc (.cells #[.map (some (w.heap.size + 1))] 74) |>.alloc (.cells #[.slice a f.len cap] 22)
  have b1 : MapB (((w.alloc (.cells #[.slice none 0 0] 43)).alloc (.map #[] 0)).alloc (.cells #[.map (some (w.heap.size + 1))] 74) |>.alloc (.cells #[.slice a f.len cap] 22)) (w.heap.size + 1) 0 [] := by
    have h := MapB.made (w.alloc (.cells #[.slice none 0 0] 43))
    simp only [World.size_alloc] at h
    exact (h.kept (World.grownBy_alloc _ _ none) (by simp)).kept (World.grownBy_alloc _ _ none) (by simp)
  have b2 := (Boxed.new ((w.alloc (.cells #[.slice none 0 0] 43)).alloc (.map #[] 0)) 74 (.map (some (w.heap.size + 1)))).alloc (.cells #[.slice a f.len cap] 22)
  have b3 := Boxed.new (((w.alloc (.cells #[.slice none 0 0] 43)).alloc (.map #[] 0)).alloc (.cells #[.map (some (w.heap.size + 1))] 74)) 22 (.slice a f.len cap)
  have hB0 : Below w.heap.size w ((((w.alloc (.cells #[.slice none 0 0] 43)).alloc (.map #[] 0)).alloc (.cells #[.map (some (w.heap.size + 1))] 74)).alloc (.cells #[.slice a f.len cap] 22)) :=
    ((((Below.refl _ w).alloc (Nat.le_refl _) _).alloc (by simp) _).alloc (by simp; omega) _).alloc (by simp; omega) _
  have hsz : ((((w.alloc (.cells #[.slice none 0 0] 43)).alloc (.map #[] 0)).alloc (.cells #[.map (some (w.heap.size + 1))] 74)).alloc (.cells #[.slice a f.len cap] 22)).heap.size = w.heap.size + 4 := by simp
  simp only [World.size_alloc] at b2 b3
  obtain ⟨W0, hW0⟩ : ∃ W0, (((w.alloc (.cells #[.slice none 0 0] 43)).alloc (.map #[] 0)).alloc (.cells #[.map (some (w.heap.size + 1))] 74)).alloc (.cells #[.slice a f.len cap] 22) = W0 := ⟨_, rfl⟩
  rw [hW0] at b0 b1 b2 b3 hB0 hsz ⊢
  clear hW0
  have HSM := Lib.hid hsm
  have HS := Lib.hid hs
  have HL := Lib.hid hL
  clear hsm hs
  refine wpIn_rangeFunc_ownH (n := 5) rfl (by omega) (gf := 95) (lb := #[.pointer (some ⟨w.heap.size + 1 + 1 + 1, 0, none⟩)]) rfl trivial (enters_of Try.func95 (by kernel_rfl) rfl)
    (preorderT_stops 4 w.heap.size (w.heap.size + 1 + 1 + 1) f a cap W0 (by omega) (by omega) b3.cell HSM.out hL (HS.out.below hB0 (Nat.le_refl _))) KpT.trans (fun W l o o' _ h hc _ => KpT.putObj W l o o' h hc) (Below.refl _ _) (fun _ => rfl)
    (fun pre W => VarJ w.heap.size pre W ∧ Below w.heap.size w W)
    (fun c pre W => False)
    (OwnFrom.and (varJ_own _ _ (by omega)) (ownFrom_below (Nat.le_refl _) (by omega)))
    (fun c => fun s X Y row hs _ _ => hs.elim)
    ⟨⟨_, 0, b0, ⟨⟨rfl, .inl ⟨rfl, rfl⟩⟩, by omega⟩, b2, b1, Nat.le_refl _, by omega⟩, hB0⟩
    (fun x a' W => ∃ Bx, w.heap.size + 4 ≤ Bx ∧ Blk W Bx x.cells ∧ a' = { tmps := #[.slice a f.len cap, undef, .slice none 0 0, .pointer (some ⟨w.heap.size, 0, none⟩), .pointer (some ⟨w.heap.size + 1 + 1, 0, none⟩), undef, .pointer (some ⟨Bx, 0, none⟩), undef, .map (some (w.heap.size + 1)), .slice a f.len cap, .func (.func 95) #[] #[.pointer (some ⟨w.heap.size + 1 + 1 + 1, 0, none⟩)], .int .i64 x.lv, .agg #[.int .i64 x.k, .string x.t, .slice x.a x.c.len x.cap], undef, undef, undef, undef, undef, undef, undef, undef, undef, undef, undef, undef, undef, undef, undef, undef, undef], defers := [] })
    (fun x a' _ X Y row hs hg hr => by obtain ⟨Bx, h1, h2, h3⟩ := hs; exact ⟨Bx, h1, blk_own Bx x.cells rfl () X Y row h2 hg (fun r e => (hr r e).2), h3⟩)
    ?assign ?body ?done ?stop
  case assign =>
    rintro l pre x W K ⟨⟨v, m, c0, ho, c2, hmb, hml, hz⟩, hB1⟩ hK
    dsimp only [Ev.enc]
    gi_wp2
    have hb : Below W.heap.size W (W.alloc x.cells) := (Below.refl _ _).alloc (Nat.le_refl _) _
    exact hK _ _ ((KeepsOthers.alloc _ _).from _) (KpT.alloc _ _) ⟨⟨v, m, c0.alloc _, ho.later hb, c2.alloc _, hmb.kept (World.grownBy_alloc _ _ none) (by simp), hml, by simp; omega⟩, hB1.alloc hB1.size _⟩ ⟨W.heap.size, hz, Blk.new _ _, rfl⟩
  case body =>
    rintro l pre x a' V hl ⟨r, hr⟩ ⟨⟨v, m, c0, ho, c2, hmb, hml, hz2⟩, hB1⟩ ⟨Bx, hBx, bX, rfl⟩ hlt
    have hnot : ∀ (x : Bool) (w : World), (Op.unary .not (.bool x)).run Try.prog w = .ok (.bool (!x)) w := fun _ _ => rfl
    have x0 : V.cell? ⟨Bx, 0, none⟩ = some (.int .i64 x.k) := by simp [World.cell?, show V.heap[Bx]? = _ from bX]
    have x1 : V.cell? ⟨Bx, 1, none⟩ = some (.string x.t) := by simp [World.cell?, show V.heap[Bx]? = _ from bX]
    have x2 : V.cell? ⟨Bx, 2, none⟩ = some (.slice x.a x.c.len x.cap) := by simp [World.cell?, show V.heap[Bx]? = _ from bX]
    have hxt := x.ht
    have NM := Lib.hid (fun (w : World) => pname_al x.k x.t x.a x.c.len x.cap w (by omega))
    have hss := nameF_size x.k x.t (by omega)
    have HNX := Lib.hid (namesE_snoc pre x)
    have HNL := Lib.hid (namesE_len pre)
    obtain ⟨s, hsn⟩ : ∃ s, s = nameF x.k x.t := ⟨_, rfl⟩
    rw [← hsn] at NM hss HNX
    obtain ⟨L, hLn⟩ : ∃ L, L = namesE pre := ⟨_, rfl⟩
    rw [← hLn] at ho hmb HNX HNL
    have HLT := Lib.hid (show pre.length ≤ 1000000 by have := HL.out; omega)
    have HML := Lib.hid hml
    have HO := Lib.hid ho
    have HMB := Lib.hid hmb
    have HSS := Lib.hid hss
    have C0 := Lib.hid c0
    have C2 := Lib.hid c2
    have HB1 := Lib.hid hB1
    have HZ2 := Lib.hid hz2
    have HSZ0 := Lib.hid hsz
    clear hsn hLn hml ho hmb hss c0 c2 hB1 hz2 hlt hr bX hxt b0 b1 b2 b3 hB0 hL hsz
    have HSZ := Lib.hid (show s.size ≤ maxLen from by have := HSS.out; unfold maxLen; omega)
    by_cases he : s.toList = []
    · have hs0 : s.size = 0 := by rw [ByteArray.toList_eq] at he; show s.data.size = 0; simpa using congrArg List.length he
      have HF := Lib.hid (show addN s L = L from by simp [addN, hs0])
      clear hs0
      gi_wp2_with (refine ⟨trivial, ?_⟩; gi_at_call 31; refine (CallsIn.inRound l (callsIn_wide.2 (NM.out _))).mono ?_; rintro e w2 ⟨rfl, hb2⟩)
      refine ⟨(Chg.below (S := fun _ => False) hb2).keeps (fun _ _ _ h => h.elim), KpT.of_below hb2, ⟨v, m, (hb2.block _ C0.out.lt).trans C0.out, ?_, (hb2.block _ C2.out.lt).trans C2.out, ?_, ?_, Nat.le_trans HZ2.out hb2.size⟩, HB1.out.trans (hb2.mono HB1.out.size)⟩
      · rw [HNX.out, HF.out]; exact HO.out.later hb2
      · rw [HNX.out, HF.out]; exact HMB.out.later (hb2.block _ HMB.out.lt)
      · have := HML.out; simp; omega
    · have hs0 : s.size ≠ 0 := fun e => he (by rw [ByteArray.toList_eq]; exact List.eq_nil_of_length_eq_zero (by simpa using (show s.data.size = 0 from e)))
      have hemp : s.toList.isEmpty = false := by simpa using he
      obtain ⟨q, hq⟩ : ∃ q, q = hasB L s := ⟨_, rfl⟩
      cases q
      · have HF := Lib.hid (show addN s L = L ++ [s] from by simp [addN, hs0, ← hq])
        have HQ := Lib.hid hq
        have HLL := Lib.hid (show L.length + 1 ≤ 8000000 from by have := HNL.out; have := HLT.out; omega)
        have HMM := Lib.hid (show m < maxLen from by have := HML.out; have := HLT.out; unfold maxLen; omega)
        clear hs0 hq
        have HOB := Lib.hid (fun b (hb : v.ownBlock = some b) => own_obj HO.out hb)
        gi_wp2_with (first
          | (refine wpListIn_append_strs rfl (.tmp 25) (.tmp 27) rfl (HO3.out.later (Below.alloc (Below.refl _ _) (Nat.le_refl _) _)) rfl rfl rfl (Ss.one _ _) HLL.out ?_; intro v6 w6 hB6 hg6; obtain ⟨a6, c6, hv6, _⟩ := hB6.ss; obtain ⟨l6, hl6⟩ : ∃ n, n = (L ++ [s]).length := ⟨_, rfl⟩; rw [← hl6] at hv6; subst hv6; clear hl6; have VN := var_new C02.out HO2.out C22.out HM2.out (Nat.le_trans HZ2.out HB2.out.size) HG3.out HM3.out hg6 hB6; obtain ⟨VN0, VN1⟩ := VN; have HV := Lib.hid VN1; have e6 := VN0.cell; have f6 := VN0.frozen; have HG6 := Lib.hid hg6; clear VN1 hB6 hg6)
          | (refine ⟨trivial, ?_⟩; gi_at_call 31; refine (CallsIn.inRound l (callsIn_wide.2 (NM.out _))).mono ?_; rintro e w2 ⟨rfl, hb2⟩; have d2 := Boxed.cell ((hb2.block _ C2.out.lt).trans C2.out); have C22 := Lib.hid ((hb2.block _ C2.out.lt).trans C2.out); have C02 := Lib.hid ((hb2.block _ C0.out.lt).trans C0.out); have HB2 := Lib.hid hb2; have hm2 := HMB.out.later (hb2.block _ HMB.out.lt); have HM2 := Lib.hid hm2; have HO2 := Lib.hid (HO.out.later hb2); have hlk := hm2.lookup HSZ.out; rw [← HQ.out] at hlk; obtain ⟨w3, hup, hm3, hg3⟩ := hm2.update HMM.out HSZ.out; have HG3 := Lib.hid hg3; have HM3 := Lib.hid hm3; have HO3 := Lib.hid (own_past HO2.out hg3 (set_obj hm2)); have hc3 := cell_kept (Boxed.cell C02.out) hg3 (fun r e => by cases e; exact set_obj' hm2); clear hb2 hm2 hm3 hg3))
        refine ⟨?_, ?_, ⟨_, m + 1, HV.out.1, ?_, HV.out.2.2.1, ?_, ?_, HV.out.2.2.2.2.1⟩, ?_⟩
        · exact ((Chg.below HB2.out).trans HV.out.2.2.2.2.2.2).keeps (by
            rintro i o hi hS ho
            have := HSZ0.out
            rcases hS with rfl | rfl | hS
            · omega
            · omega
            · obtain ⟨cs, fz, h⟩ := own_obj HO.out hS
              rw [h] at ho; cases ho; rfl)
        · exact ((Chg.below HB2.out).trans HV.out.2.2.2.2.2.2).kpT (by
            rintro i hS
            rcases hS with rfl | rfl | hS
            · refine ⟨Nat.le_refl _, fun o ho ht => ?_⟩
              rw [show V.heap[w.heap.size]? = _ from C0.out] at ho; cases ho; exact absurd ht (by show ¬ (_ = _); decide)
            · refine ⟨by omega, fun o ho ht => ?_⟩
              obtain ⟨es, cl, h⟩ := set_obj HMB.out
              rw [h] at ho; cases ho; exact ht
            · refine ⟨HO.out.own_ge hS, fun o ho ht => ?_⟩
              obtain ⟨cs, fz, h⟩ := own_obj HO.out hS
              rw [h] at ho; cases ho; exact absurd ht (by show ¬ (_ = _); decide))
        · rw [HNX.out, HF.out]; exact HV.out.2.1
        · rw [HNX.out, HF.out]; exact HV.out.2.2.2.1
        · have := HML.out; simp; omega
        · exact (HB1.out.trans (HB2.out.mono HB1.out.size)).trans HV.out.2.2.2.2.2.1
      · have HF := Lib.hid (show addN s L = L from by simp [addN, ← hq])
        have HQ := Lib.hid hq
        clear hs0 hq
        gi_wp2_with (refine ⟨trivial, ?_⟩; gi_at_call 31; refine (CallsIn.inRound l (callsIn_wide.2 (NM.out _))).mono ?_; rintro e w2 ⟨rfl, hb2⟩; have d2 := Boxed.cell ((hb2.block _ C2.out.lt).trans C2.out); have hlk := (HMB.out.later (hb2.block _ HMB.out.lt)).lookup HSZ.out; rw [← HQ.out] at hlk)
        refine ⟨(Chg.below (S := fun _ => False) hb2).keeps (fun _ _ _ h => h.elim), KpT.of_below hb2, ⟨v, m, (hb2.block _ C0.out.lt).trans C0.out, ?_, (hb2.block _ C2.out.lt).trans C2.out, ?_, ?_, Nat.le_trans HZ2.out hb2.size⟩, HB1.out.trans (hb2.mono HB1.out.size)⟩
        · rw [HNX.out, HF.out]; exact HO.out.later hb2
        · rw [HNX.out, HF.out]; exact HMB.out.later (hb2.block _ HMB.out.lt)
        · have := HML.out; simp; omega
  case stop =>
    rintro D c pre W hD hpre h hK
    exact h.elim
  case done =>
    rintro D ys W hD hS ⟨⟨v, m, c0, ho, c2, hmb, hml, hz⟩, hB⟩ hK
    have HW := Lib.hid (namesE_all hS)
    obtain ⟨av, cv, rfl, hss⟩ := ho.ss
    have HS2 := Lib.hid hss
    have d0 := c0.cell
    have HC0 := Lib.hid c0
    clear hS ho c2 hmb hml hss
    gi_wp2
    refine ⟨by simp, .inl ⟨_, _, rfl, run_takeDeferred hK, ?_⟩⟩
    refine ⟨.slice av (namesE ys).length cv, ?_, ?_⟩
    · simp [results, Try.f38, go_sem]
    · rw [HW.out] at HS2 ⊢
      exact ⟨av, cv, rfl, Lib.hid (HS2.out.kept (grownBy_putObj' _ D (.deferred none)) (fun r e => by cases e; exact ⟨_, hK, rfl⟩)), Lib.hid (hB.trans (belowK_b (w := w) (Nat.le_refl _) W D _ _ (by omega) hK rfl rfl))⟩
end Go.Proofs.Ytajdpchojimigaa
