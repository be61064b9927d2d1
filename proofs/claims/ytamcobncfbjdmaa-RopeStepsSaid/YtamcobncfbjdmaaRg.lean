/- Regions that draw their order, in a fence: an operation that yields in the world at hand, where all others that may come ahead of it yield there too, may be taken first. -/
import Derived.OrdersIn
namespace Go.Proofs.Ytamcobncfbjdmaa
open Go

variable {F : Fence} {n : Nat} {P : Program} {ops : Array Oper} {Q : Exit → Act → World → Prop} {md : Region.Mode}

/-- the operation yields v in this world, or is not wanted. -/
def YieldsHere (P : Program) (ops : Array Oper) (o : Oper) (v : Value) (a : Act) (w : World) : Prop :=
  ((Region.wanted o (yielded ops a.tmps) = true ∧ (execOp a.eval o).run P w = .ok (.value v) w) ∨ (Region.wanted o (yielded ops a.tmps) = false ∧ v = undef)) ∧ o.about P w a.eval = none

theorem YieldsHere.wpOpIn {i : Nat} {o : Oper} {v : Value} {a : Act} {w : World} (hro : F.round = none) (hi : ops[i]? = some o) (hy : YieldsHere P ops o v a w)
    {K : Act → World → Prop} : wpOpIn F n P ops Q i K a w ↔ K (a.put o.dst v) w := by
  unfold Go.wpOpIn
  simp only [hi]
  have hab : ∀ f, o.about P w a.eval = some f → F.fn f := fun f hf => by rw [hy.2] at hf; cases hf
  rcases hy.1 with ⟨hw, hv⟩ | ⟨hw, rfl⟩
  · simp only [hw, if_true, Oper.wpIn, hro, Oper.semAt_none, hv, Oper.uponIn]
    exact ⟨fun h => h.2, fun h => ⟨hab, h⟩⟩
  · simp only [hw, Bool.false_eq_true, if_false]
    exact ⟨fun h => h.2, fun h => ⟨hab, h⟩⟩

theorem YieldsHere.put {o : Oper} {v : Value} {a : Act} {w : World} (hs : ∀ cs b, o.op ≠ .select cs b) (hy : YieldsHere P ops o v a w) (dst : Option Tmp) (u : Value) (h : ∀ d, dst = some d → d ∉ o.looksAt ops) :
    YieldsHere P ops o v (a.put dst u) w := by
  unfold YieldsHere at *
  rw [execOp_put o hs a dst u h, wanted_put o a dst u h, about_put o w a dst u h]
  exact hy

/-- what is to be checked of the numbers: all that is not listed is i, or in L, or in D; what is in D comes behind i; what is in L is apart from i and from one another. -/
def hereB (md : Region.Mode) (ops : Array Oper) (listed : Array Bool) (i : Nat) (L D : List Nat) : Bool :=
  (List.range ops.size).all (fun k => k == i || listed.getD k true || L.contains k || D.contains k) &&
  D.all (fun k => !listed.getD k true && match ops[k]? with
    | some ok => ok.after.any (fun e => Region.binds md e && (e.on == i || D.contains e.on))
    | none => false) &&
  (match ops[i]? with
    | some oi => L.all (fun j => match ops[j]? with
      | some oj => oi.apart ops oj && L.all (fun k => k == j || match ops[k]? with
        | some ok => oj.apart ops ok
        | none => true)
      | none => true)
    | none => false)

theorem getD_false_of {l : Array Bool} {k : Nat} (h : l.getD k true = false) : l.getD k false = false := by
  rcases Nat.lt_or_ge k l.size with h' | h'
  · simp [h'] at h ⊢; exact h
  · simp [Array.getElem?_eq_none h'] at h

theorem wpAnyIn_here' {i : Nat} {oi : Oper} {v : Value} (L : List (Nat × Value)) (D : List Nat) (hro : F.round = none) (hi : ops[i]? = some oi) (hsel : ∀ (j : Nat) (o : Oper) cs b, ops[j]? = some o → o.op ≠ .select cs b)
    (hD : ∀ k ∈ D, ∃ ok, ops[k]? = some ok ∧ ∃ e ∈ ok.after, Region.binds md e = true ∧ (e.on = i ∨ e.on ∈ D))
    (hLi : ∀ p ∈ L, ∀ oj, ops[p.1]? = some oj → oi.apart ops oj = true)
    (hLL : ∀ p ∈ L, ∀ q ∈ L, q.1 ≠ p.1 → ∀ oj ok, ops[p.1]? = some oj → ops[q.1]? = some ok → oj.apart ops ok = true) (w : World) :
    ∀ (fuel : Nat) (listed : Array Bool) (a : Act),
      (∀ k, k < ops.size → listed.getD k true = false → k = i ∨ k ∈ L.map Prod.fst ∨ k ∈ D) → (∀ k ∈ D, listed.getD k true = false) →
      i ∈ Region.ready md ops listed → YieldsHere P ops oi v a w →
      (∀ p ∈ L, listed.getD p.1 true = false → ∃ o, ops[p.1]? = some o ∧ YieldsHere P ops o p.2 a w) →
      wpAnyIn F n P md ops Q fuel (listed.setIfInBounds i true) (a.put oi.dst v) w → wpAnyIn F n P md ops Q (fuel + 1) listed a w := by
  intro fuel
  induction fuel with
  | zero =>
    intro listed a _ _ hr hy _ H
    refine ⟨fun h => (by rw [h] at hr; cases hr), fun j hj => ?_⟩
    by_cases hji : j = i
    · subst hji; exact (hy.wpOpIn hro hi).2 H
    · have := ready_mono hj hji
      rw [H.1] at this
      cases this
  | succ fuel ih =>
    intro listed a hall hDun hr hy hL H
    refine ⟨fun h => (by rw [h] at hr; cases hr), fun j hj => ?_⟩
    by_cases hji : j = i
    · subst hji; exact (hy.wpOpIn hro hi).2 H
    · obtain ⟨hjun, oj, hoj, hdep⟩ := mem_ready.1 hj
      have hiun := (mem_ready.1 hr).1
      have hjD : j ∉ D := fun hjD => by
        obtain ⟨ok, hok, e, he, hb, hon⟩ := hD j hjD
        rw [hoj] at hok
        cases hok
        have h1 := hdep e he hb
        rcases hon with h2 | h2
        · rw [h2, getD_false_of hiun] at h1; cases h1
        · rw [getD_false_of (hDun _ h2)] at h1; cases h1
      have hjL : j ∈ L.map Prod.fst := by
        rcases hall j (Array.getElem?_eq_some_iff.1 hoj).1 hjun with h | h | h
        · exact absurd h hji
        · exact h
        · exact absurd h hjD
      obtain ⟨p, hp, rfl⟩ := List.mem_map.1 hjL
      obtain ⟨o', ho', hyj⟩ := hL p hp hjun
      rw [hoj] at ho'
      cases ho'
      obtain ⟨a1, a2, a3⟩ := Oper.apart_spec (hLi p hp oj hoj)
      rw [hyj.wpOpIn hro hoj]
      have H1 := H.2 p.1 (ready_mono hj hji)
      rw [(hyj.put (fun cs b => hsel _ _ cs b hoj) oi.dst v a1).wpOpIn hro hoj, Act.put_comm a v p.2 a2, Array.setIfInBounds_comm _ _ (Ne.symm hji)] at H1
      refine ih (listed.setIfInBounds p.1 true) (a.put oj.dst p.2) ?_ ?_ (ready_mono hr (Ne.symm hji)) (hy.put (fun cs b => hsel _ _ cs b hi) oj.dst p.2 a3) ?_ H1
      · intro k hk hun
        by_cases hjk : p.1 = k
        · exact hall k hk (by rw [← hjk]; exact hjun)
        · exact hall k hk (by rwa [getD_set_ne true hjk] at hun)
      · intro k hk
        rw [getD_set_ne true (show p.1 ≠ k from fun e => hjD (by rw [e]; exact hk))]
        exact hDun k hk
      · intro q hq hun
        by_cases hjq : p.1 = q.1
        · exfalso
          rw [← hjq] at hun
          have hb : p.1 < listed.size := by
            rcases Nat.lt_or_ge p.1 listed.size with h' | h'
            · exact h'
            · simp [Array.getElem?_eq_none h'] at hjun
          simp [hb] at hun
        · rw [getD_set_ne true hjq] at hun
          obtain ⟨o, ho, hyq⟩ := hL q hq hun
          refine ⟨o, ho, hyq.put (fun cs b => hsel _ _ cs b ho) oj.dst p.2 ?_⟩
          exact (Oper.apart_spec (hLL p hp q hq (Ne.symm hjq) oj o hoj ho)).1

/-- taken first, since all that may come ahead of it yields in this world: L says what; D: what comes behind it. -/
theorem wpAnyIn_here {i : Nat} {oi : Oper} {v : Value} {fuel : Nat} {listed : Array Bool} {a : Act} {w : World} (L : List (Nat × Value)) (D : List Nat) (hro : F.round = none) (hi : ops[i]? = some oi)
    (hs : Region.noSelect ops = true) (hB : hereB md ops listed i (L.map Prod.fst) D = true) (hr : (Region.ready md ops listed).contains i = true)
    (hy : YieldsHere P ops oi v a w) (hL : ∀ p ∈ L, ∃ o, ops[p.1]? = some o ∧ YieldsHere P ops o p.2 a w)
    (h : wpAnyIn F n P md ops Q fuel (listed.setIfInBounds i true) (a.put oi.dst v) w) : wpAnyIn F n P md ops Q (fuel + 1) listed a w := by
  simp only [hereB, hi, Bool.and_eq_true, List.all_eq_true, List.mem_range, Bool.or_eq_true, beq_iff_eq, List.contains_iff_mem, Bool.not_eq_true'] at hB
  obtain ⟨⟨h1, h2⟩, h3⟩ := hB
  refine wpAnyIn_here' L D hro hi (Region.noSelect_spec hs) ?_ ?_ ?_ w fuel listed a ?_ (fun k hk => (h2 k hk).1) (by simpa using hr) hy (fun p hp _ => hL p hp) h
  · intro k hk
    have := (h2 k hk).2
    cases hok : ops[k]? with
    | none => rw [hok] at this; cases this
    | some ok =>
      rw [hok] at this
      obtain ⟨e, he, hb⟩ := Array.any_eq_true'.1 this
      simp only [Bool.and_eq_true, Bool.or_eq_true, beq_iff_eq, List.contains_iff_mem] at hb
      exact ⟨ok, rfl, e, he, hb.1, hb.2⟩
  · intro p hp oj hoj
    have := h3 p.1 (List.mem_map.2 ⟨p, hp, rfl⟩)
    rw [hoj] at this
    simp only [Bool.and_eq_true] at this
    exact this.1
  · intro p hp q hq hne oj ok hoj hok
    have := h3 p.1 (List.mem_map.2 ⟨p, hp, rfl⟩)
    rw [hoj] at this
    simp only [Bool.and_eq_true, List.all_eq_true] at this
    have := this.2 q.1 (List.mem_map.2 ⟨q, hq, rfl⟩)
    rw [hok] at this
    simpa [hne] using this
  · intro k hk hun
    have := h1 k hk
    rw [hun] at this
    simpa [or_assoc] using this
end Go.Proofs.Ytamcobncfbjdmaa
