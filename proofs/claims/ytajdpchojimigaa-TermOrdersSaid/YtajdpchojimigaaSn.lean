/- Lists of texts in memory. -/
import Derived.Test.YtajdpchojimigaaBa
import Derived.Test.YtajdpchojimigaaTl
namespace Go.Proofs.Ytajdpchojimigaa
open Go.RowKit TmM

theorem Try.infoStr : (Try.prog.info? 9).map (fun i => (i.zero, i.size, i.bytes)) = some (some (.string ⟨#[]⟩), 1, 16) := by kernel_rfl

theorem text_beq' (t s : ByteArray) : (t.toList == s.toList) = decide (t = s) := by
  rw [ByteArray.toList_eq, ByteArray.toList_eq, Bool.eq_iff_iff, beq_iff_eq, decide_eq_true_iff]
  constructor
  · intro h
    obtain ⟨d⟩ := t
    obtain ⟨d'⟩ := s
    have : d = d' := Array.toList_inj.1 h
    rw [this]
  · rintro rfl; rfl

/-- .slice a (length of l) cap is the list of texts l; it may be nil. -/
def Ss (w : World) (a : Option Addr) (cap : Nat) (l : List ByteArray) : Prop :=
  l.length ≤ cap ∧ cap ≤ maxLen ∧ (a = none → cap = 0) ∧ (l = [] ∨ ∃ b o, a = some ⟨b, o, none⟩ ∧ b < w.heap.size ∧ ∀ j s, l[j]? = some s → w.cell? ⟨b, o + j, none⟩ = some (.string s))
theorem Ss.nil {w : World} : Ss w none 0 [] := ⟨Nat.le_refl _, Nat.zero_le _, fun _ => rfl, .inl rfl⟩
theorem Ss.later {w w' : World} {a : Option Addr} {cap : Nat} {l : List ByteArray} (h : Ss w a cap l) (hb : Below w.heap.size w w') : Ss w' a cap l :=
  ⟨h.1, h.2.1, h.2.2.1, h.2.2.2.imp id (fun ⟨b, o, ha, hlt, hc⟩ => ⟨b, o, ha, Nat.lt_of_lt_of_le hlt hb.size, fun j s hj => (hb.cell (p := ⟨b, o + j, none⟩) hlt).trans (hc j s hj)⟩)⟩
/-- where it lies. -/
theorem Ss.base {w : World} {a : Option Addr} {cap : Nat} {l : List ByteArray} (h : Ss w a cap l) : ∃ b o, (0 < l.length → a = some ⟨b, o, none⟩) ∧ (0 < l.length → b < w.heap.size) ∧ Hid (∀ j s, l[j]? = some s → w.cell? ⟨b, o + j, none⟩ = some (.string s)) := by
  rcases h.2.2.2 with rfl | ⟨b, o, ha, hlt, hc⟩
  · exact ⟨0, 0, by simp, by simp, Lib.hid (fun j s hj => by simp at hj)⟩
  · exact ⟨b, o, fun _ => ha, fun _ => hlt, Lib.hid hc⟩

/-- v is a list of texts of the call's own, from block base on. -/
def OwnS (base : Nat) (w : World) (v : Value) (l : List ByteArray) : Prop := w.ownsRow base 9 1 v l.length (l.map Value.string) ∧ base ≤ w.heap.size
theorem OwnS.ss {base : Nat} {w : World} {v : Value} {l : List ByteArray} (h : OwnS base w v l) : ∃ a cap, v = .slice a l.length cap ∧ Ss w a cap l := by
  obtain ⟨ho, hb⟩ := h
  rcases ho.2 with ⟨rfl, h0⟩ | ⟨g, cap, cur, rfl, hbg, hg, hnc, hcm, _⟩
  · have hl : l = [] := List.eq_nil_of_length_eq_zero h0
    subst hl
    exact ⟨none, 0, rfl, Ss.nil⟩
  · refine ⟨some ⟨g, 0, none⟩, cap, rfl, hnc, hcm, by simp, .inr ⟨g, 0, rfl, (Array.getElem?_eq_some_iff.1 hg).1, fun j s hj => ?_⟩⟩
    have hjl := (List.getElem?_eq_some_iff.1 hj).1
    rw [Nat.zero_add, ho.cellAt j (by omega), List.getElem?_map, hj]
    rfl
theorem OwnS.later {base : Nat} {w w' : World} {v : Value} {l : List ByteArray} (h : OwnS base w v l) (hb : Below w.heap.size w w') : OwnS base w' v l :=
  ⟨own_below h.1 hb (fun _ hk => own_lt h.1 hk), Nat.le_trans h.2 hb.size⟩
theorem OwnS.own_ge {base : Nat} {w : World} {v : Value} {l : List ByteArray} (h : OwnS base w v l) {k : Nat} (hk : v.ownBlock = some k) : base ≤ k := by
  rcases h.1.2 with ⟨rfl, _⟩ | ⟨g, cap, cur, rfl, hbg, _⟩
  · cases hk
  · cases hk; exact hbg
theorem OwnS.empty {w : World} {n : Nat} (hn : n = w.heap.size) : OwnS w.heap.size (w.alloc (.cells #[] 9)) (.slice (some ⟨n, 0, none⟩) 0 0) [] := by
  subst hn
  exact ⟨World.ownsRow_lit (base := w.heap.size) (e := 9) (size := 1) w #[] 0 (Nat.le_refl _) (by unfold maxLen; omega) rfl, by simp⟩
/-- one text in a new block. -/
theorem Ss.one (w : World) (s : ByteArray) : Ss (w.alloc (.cells #[.string s] 9)) (some ⟨w.heap.size, 0, none⟩) 1 [s] :=
  ⟨Nat.le_refl _, by unfold maxLen; omega, by simp, .inr ⟨_, 0, rfl, by simp, fun j u hj => by
    match j, hj with
    | 0, hj => cases hj; exact news_cell [.string s] _ 0 rfl⟩⟩

section
variable {base : Nat} {w : World} {v : Value} {l l2 : List ByteArray} {ad : Option Addr} {c m : Nat}
theorem run_append_strs (hB : OwnS base w v l) (hp : Ss w ad c l2) (hl : l.length + l2.length ≤ 8000000) (hm : m = l2.length) (ty : TypeId) :
    ∃ v' w', (Builtin.append_ #[43, 43] ty #[v, .slice ad m c]).run Try.prog w = .ok v' w' ∧ OwnS base w' v' (l ++ l2) ∧ w.grownBy w' v.ownBlock ∧ (v'.ownBlock = v.ownBlock ∨ v'.ownBlock = some w.heap.size) := by
  subst hm
  obtain ⟨i0, hi, hz0, hz1, hz2⟩ := info_parts Try.infoStr
  obtain ⟨ho, hs⟩ := hB
  obtain ⟨h1, h2, h3, h4⟩ := hp
  cases ad with
  | none =>
    obtain rfl : l2 = [] := by rcases h4 with rfl | ⟨b, o, ha, _⟩; rfl; cases ha
    obtain rfl := h3 rfl
    exact ⟨v, w, run_append_owned_none (P := Try.prog) w base 43 ty 9 i0 1 Try.underlying43 hi v l.length _ ho, by rw [List.append_nil]; exact ⟨ho, hs⟩, ⟨rfl, rfl, rfl, Nat.le_refl _, fun _ _ _ => rfl⟩, .inl rfl⟩
  | some p =>
    have hc : ∀ j u, (l2.map Value.string)[j]? = some u → w.cell? (p.add j) = some u := by
      intro j u hj
      rw [List.getElem?_map, Option.map_eq_some_iff] at hj
      obtain ⟨s, hs, rfl⟩ := hj
      rcases h4 with rfl | ⟨b, o, ha, _, hc⟩
      · simp at hs
      · cases ha
        rw [add_cell]
        exact hc j s hs
    have hones : ∀ u ∈ l2.map Value.string, u.oneCell' = true := by
      intro u hu
      obtain ⟨s, _, rfl⟩ := List.mem_map.1 hu
      rfl
    obtain ⟨v', w', hrun, ho', hg, _, hat⟩ := run_append_own_at (P := Try.prog) w base 43 ty 9 i0 (.string ⟨#[]⟩) 1 16 Try.underlying43 hi hz0 hz1 hz2 rfl (by decide) v l.length _ ho p l2.length c (l2.map Value.string) (by simp) hc hones (by unfold maxLen; omega) (by omega) hs
    exact ⟨v', w', hrun, ⟨by rw [List.length_append, List.map_append]; exact ho', Nat.le_trans hs hg.size⟩, hg, hat⟩
theorem wpList_append_strs {ops : Array Oper} {rest : List Oper} {o : Oper} {a : Act} {Q : Exit → Act → World → Prop} (hgd : o.guard = none) (s x : Operand) (ho : o.op = .call { callee := .builtin .append, args := #[s, x], argTypes := #[43, 43] })
    (hB : OwnS base w v l) (hs : a.eval s = v) (hx : a.eval x = .slice ad m c) (hm : m = l2.length) (hp : Ss w ad c l2) (hl : l.length + l2.length ≤ 8000000)
    (h : ∀ v' w', OwnS base w' v' (l ++ l2) → w.grownBy w' v.ownBlock → (v'.ownBlock = v.ownBlock ∨ v'.ownBlock = some w.heap.size) → wpList Try.prog ops Q rest (a.put o.dst v') w') : wpList Try.prog ops Q (o :: rest) a w :=
  wpList_plain hgd fun _ hK => by
    obtain ⟨v', w', hr, h2, h3, h4⟩ := run_append_strs hB hp hl hm o.type
    unfold Oper.wp execOp
    simp only [ho, resolve, invoke, builtin, Sem.run_bind, Sem.run_pure, Result.andThen_ok, List.map_toArray, List.map_cons, List.map_nil, hs, hx, hr]
    exact hK _ _ (h v' w' h2 h3 h4)
end

/-- a list of texts, new or as it came. -/
def OutS (w : World) (l : List ByteArray) (e : Ending) (w' : World) : Prop := ∃ a cap, e = .returned (.slice a l.length cap) ∧ Hid (Ss w' a cap l) ∧ Hid (Below w.heap.size w w')

/-- is a text among others. -/
def hasB (l : List ByteArray) (s : ByteArray) : Bool := l.any fun x => decide (x = s)
theorem hasB_iff {l : List ByteArray} {s : ByteArray} : hasB l s = true ↔ s ∈ l := by
  rw [hasB, List.any_eq_true]
  exact ⟨fun ⟨x, h1, h2⟩ => of_decide_eq_true h2 ▸ h1, fun h => ⟨s, h, decide_eq_true rfl⟩⟩
theorem hasB_no {l : List ByteArray} {s : ByteArray} (h : ¬ s ∈ l) : hasB l s = false := by
  cases hb : hasB l s with
  | false => rfl
  | true => exact absurd (hasB_iff.1 hb) h

theorem rhas_any (l : List ByteArray) (a : Option Addr) (cap : Nat) (s : ByteArray) (w : World) (hs : Ss w a cap l) :
    Calls Try.prog 96 #[.slice a l.length cap, .string s] w fun e w' => e = .returned (.bool (hasB l s)) ∧ w = w' := by
  obtain ⟨b, o, hab, hbw, HC⟩ := hs.base
  have hcap : l.length ≤ cap ∧ cap ≤ maxLen := ⟨hs.1, hs.2.1⟩
  unfold maxLen at hcap
  have HAB := Lib.hid hab
  obtain ⟨R, hR⟩ : ∃ R, R = hasB l s := ⟨_, rfl⟩
  have HR := Lib.hid hR
  rw [← hR]
  clear hab hbw hs hR
  go_enter Try.func96, Try.ntmps96
  go_wp2_with fail
  go_loop [5] (fun i => ∃ k : Nat, i = .int .i64 k ∧ k ≤ l.length ∧ Hid (∀ j, j < k → l[j]? ≠ some s)) (fun i => l.length - (intOf i).toNat)
  case atStart => exact ⟨0, rfl, Nat.zero_le _, Lib.hid (fun j hj => absurd hj (Nat.not_lt_zero _))⟩
  case round =>
    obtain ⟨k, rfl, hk, hno⟩ := hrel
    by_cases hkl : k < l.length
    · obtain rfl := HAB.out (by omega)
      have hki : (k : Int) < (l.length : Int) := by omega
      obtain ⟨t, ht⟩ : ∃ t, l[k]? = some t := ⟨_, List.getElem?_eq_getElem hkl⟩
      have c0 := HC.out k t ht
      have HT := Lib.hid (text_beq' t s)
      have HTK := Lib.hid ht
      obtain ⟨q, hq⟩ : ∃ q, q = (t.toList == s.toList) := ⟨_, rfl⟩
      have HQ := Lib.hid (show q = decide (t = s) from by rw [hq]; exact HT.out)
      clear ht HT
      cases q
      · have e3 := hq.symm
        have hne : ¬ t = s := of_decide_eq_false HQ.out.symm
        have HN := Lib.hid (show ∀ j, j < k + 1 → l[j]? ≠ some s from fun j hj => by
          by_cases h : j = k
          · subst h; rw [HTK.out]; intro e; cases e; exact hne rfl
          · exact hno.out j (by omega))
        clear hq hne
        go_wp2
        go_round
        case rel => exact ⟨k + 1, by go_num, by omega, HN⟩
        case measure => simp [intOf]; omega
      · have e3 := hq.symm
        have heq : t = s := of_decide_eq_true HQ.out.symm
        have HF := Lib.hid (show R = true from by rw [HR.out]; exact hasB_iff.2 (List.mem_of_getElem? (i := k) (by rw [HTK.out, heq])))
        clear hq heq
        go_wp2
        go_ret
        exact ⟨by rw [HF.out]; rfl, rfl⟩
    · have hki : ¬ (k : Int) < (l.length : Int) := by omega
      have HF := Lib.hid (show R = false from by
        rw [HR.out]
        refine hasB_no (fun h => ?_)
        obtain ⟨j, hj⟩ := List.getElem?_of_mem h
        exact hno.out j (by have := (List.getElem?_eq_some_iff.1 hj).1; omega) hj)
      go_wp2
      go_ret
      exact ⟨by rw [HF.out]; rfl, rfl⟩
end Go.Proofs.Ytajdpchojimigaa
