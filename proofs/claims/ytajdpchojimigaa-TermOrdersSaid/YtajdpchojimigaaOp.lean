/- An argument that is an expression, opened. -/
import Derived.Test.YtajdpchojimigaaMem
import Derived.Deep.Slices
import Derived.Deep.Fields
import Derived.ChangeSame
import Derived.ChangeOld
import Derived.Carry
import Derived.KernelRfl
namespace Go.Proofs.Ytajdpchojimigaa
open Go.RowKit TmM Go.ChangeShapes Go.WideShapes Go.Deep

section
variable {H : Type} {enc : TypeId × Value → H} {P : Program} {w : World} {base : Nat} {spare : Nat → Bool} {held : Bool}
theorem slice_fields {t e : TypeId} {fs : Array Field} {fuel : Nat} {cs : List Value} {x : DataW H × List MemPlace} (ht : P.underlying t = some (.slice e)) (he : P.underlying e = some (.struct fs))
    (hone : oneCellFields P fs = true) (hC : P.cellsOf e = fs.size) (h : DataW.trod enc P w base spare held fuel t cs = some x) :
    (cs = [.slice none 0 0] ∧ x = (.nil, [])) ∨
    ∃ (a : Addr) (len cap m : Nat) (D : Nat → DataW H) (R : List (DataW H)), cs = [.slice (some a) len cap] ∧ len ≤ cap ∧ cap ≤ maxLen ∧ m = (if spare a.block then cap else len) ∧
      x.1 = .slice ((List.range len).map D) R ∧
      ∀ i, i < m → ∃ (ys : List (DataW H × List MemPlace)) (n : Nat), D i = .agg (ys.map (·.1)) ∧
        ∀ (j : Nat) (f : Field), fs[j]? = some f → ∃ (v : Value) (y : DataW H × List MemPlace), w.cell? (a.add (i * fs.size + j)) = some v ∧ ys[j]? = some y ∧ DataW.trod enc P w base spare held n f.type [v] = some y := by
  rcases open_slice ht h with h0 | ⟨a, len, cap, m, n, D, Pl, hcs, hb, hl, hm, hmm, hx, hi⟩
  · exact .inl h0
  · refine .inr ⟨a, len, cap, m, D, _, hcs, hl, hm, hmm, by rw [hx], fun i him => ?_⟩
    obtain ⟨cs', hc, ht'⟩ := hi i him
    rw [hC] at hc
    obtain ⟨ys, n', hn', hy, hlen, hyl, hf⟩ := DataW.trod_struct he ht'
    obtain ⟨_, hcl, hat⟩ := World.cells?_some hc
    simp only [Prod.mk.injEq] at hy
    refine ⟨ys, n', hy.1, fun j f hj => ?_⟩
    obtain ⟨ho, hk⟩ := hone_of hone j f hj
    have hjl : j < fs.size := (Array.getElem?_eq_some_iff.1 hj).1
    have hcell := hat j hjl
    have hv : cs'[j]? = some (cs'[j]'(by omega)) := List.getElem?_eq_getElem (by omega)
    have h1 := hf j f hj
    rw [ho, hk] at h1
    have hone' : (cs'.drop j).take 1 = [cs'[j]'(by omega)] := by
      rw [List.drop_eq_getElem_cons (by omega)]
      rfl
    rw [hone'] at h1
    have hys : ys[j]? = some (ys[j]'(by omega)) := List.getElem?_eq_getElem (by omega)
    refine ⟨_, _, ?_, hys, h1.trans hys⟩
    rw [← Go.Deep.add_add, hcell, hv]
end

/-- the terms from the last ones on. -/
theorem rows_from {W : World} {b o len : Nat} (h : ∀ i, i < len → ∃ (k : Int) (t : ByteArray) (a : Option Addr) (cap : Nat) (c : Fo), W.cell? ⟨b, o + i * 3, none⟩ = some (.int .i64 k) ∧ W.cell? ⟨b, o + (i * 3 + 1), none⟩ = some (.string t) ∧ W.cell? ⟨b, o + (i * 3 + 2), none⟩ = some (.slice a c.len cap) ∧ Sl W.heap.size W a cap c) :
    ∀ r, r ≤ len → ∃ (f : Fo) (zs : List Value), f.len = r ∧ Reps W.heap.size W zs f ∧ Cells W b (o + 3 * (len - r)) zs := by
  intro r
  induction r with
  | zero => exact fun _ => ⟨.nil, [], rfl, rfl, fun j hj => by simp at hj⟩
  | succ r ih =>
    intro hr
    obtain ⟨f, zs, hl, hz, hc⟩ := ih (by omega)
    obtain ⟨k, t, a, cap, c, h0, h1, h2, hs⟩ := h (len - (r + 1)) (by omega)
    refine ⟨.cons k t c f, .int .i64 k :: .string t :: .slice a c.len cap :: zs, by simp [hl], Reps.cons_mk hs hz, fun j hj => ?_⟩
    match j, hj with
    | 0, _ => rw [show o + 3 * (len - (r + 1)) + 0 = o + (len - (r + 1)) * 3 by omega]; exact h0
    | 1, _ => rw [show o + 3 * (len - (r + 1)) + 1 = o + ((len - (r + 1)) * 3 + 1) by omega]; exact h1
    | 2, _ => rw [show o + 3 * (len - (r + 1)) + 2 = o + ((len - (r + 1)) * 3 + 2) by omega]; exact h2
    | j + 3, hj =>
      rw [show o + 3 * (len - (r + 1)) + (j + 3) = o + 3 * (len - r) + j by omega]
      exact hc j (by simpa using hj)

set_option maxRecDepth 100000 in
theorem sl_open {H : Type} {enc : TypeId × Value → H} {W : World} (N : Nat) : ∀ (n : Nat) (cs : List Value) (x : DataW H × List MemPlace), SizeOf.sizeOf x.1 ≤ N → DataW.trod enc Try.prog W 0 (fun _ => true) true n 22 cs = some x →
    ∃ (a : Option Addr) (cap : Nat) (f : Fo), cs = [.slice a f.len cap] ∧ Sl W.heap.size W a cap f := by
  induction N with
  | zero =>
    intro n cs x hx
    exfalso
    cases hd : x.1 <;> rw [hd] at hx <;> simp at hx
  | succ N ih =>
    intro n cs x hx h
    rcases slice_fields Try.underlying22 Try.underlying35 (by kernel_rfl) (by kernel_rfl) h with ⟨rfl, _⟩ | ⟨a, len, cap, m, D, R, rfl, hl, hm, hmm, hxx, hf⟩
    · exact ⟨none, 0, .nil, rfl, Sl.nil⟩
    · simp only [if_true] at hmm
      subst hmm
      by_cases hl0 : len = 0
      · subst hl0
        exact ⟨some a, m, .nil, rfl, hl, hm, by simp, .inl rfl⟩
      · obtain ⟨b, o, spot⟩ := a
        have hspot : spot = none := by
          obtain ⟨ys, n', _, hj⟩ := hf 0 (by omega)
          obtain ⟨v, y, hc, _⟩ := hj 0 _ rfl
          simpa [Addr.add] using World.cell?_spot hc
        subst hspot
        have hb : b < W.heap.size := by
          obtain ⟨ys, n', _, hj⟩ := hf 0 (by omega)
          obtain ⟨v, y, hc, _⟩ := hj 0 _ rfl
          have := World.block_lt_of_cell? W _ hc
          rwa [show ((⟨b, o, none⟩ : Addr).add _).block = b from by unfold Addr.add; split <;> simp_all] at this
        have hadd : ∀ j, (⟨b, o, none⟩ : Addr).add j = ⟨b, o + j, none⟩ := fun j => by unfold Addr.add; split <;> simp_all
        have hrows : ∀ i, i < len → ∃ (k : Int) (t : ByteArray) (a : Option Addr) (cap : Nat) (c : Fo), W.cell? ⟨b, o + i * 3, none⟩ = some (.int .i64 k) ∧ W.cell? ⟨b, o + (i * 3 + 1), none⟩ = some (.string t) ∧ W.cell? ⟨b, o + (i * 3 + 2), none⟩ = some (.slice a c.len cap) ∧ Sl W.heap.size W a cap c := by
          intro i hi
          obtain ⟨ys, n', hD, hj⟩ := hf i (by omega)
          obtain ⟨v0, y0, hc0, _, ht0⟩ := hj 0 _ rfl
          obtain ⟨v1, y1, hc1, _, ht1⟩ := hj 1 _ rfl
          obtain ⟨v2, y2, hc2, hy2, ht2⟩ := hj 2 _ rfl
          obtain ⟨k, hk, _, _⟩ := DataW.trod_int Try.underlying3 ht0
          obtain ⟨t, hst, _, _⟩ := DataW.trod_string Try.underlying9 ht1
          have hmem : y2.1 ∈ ys.map (·.1) := List.mem_map.2 ⟨y2, List.mem_of_getElem? hy2, rfl⟩
          have hDm : D i ∈ (List.range len).map D := List.mem_map.2 ⟨i, List.mem_range.2 hi, rfl⟩
          have s1 := List.sizeOf_lt_of_mem hmem
          have s2 := List.sizeOf_lt_of_mem hDm
          have s3 : SizeOf.sizeOf (D i) = 1 + SizeOf.sizeOf (ys.map (·.1)) := by rw [hD]; simp
          have s4 : SizeOf.sizeOf x.1 = 1 + SizeOf.sizeOf ((List.range len).map D) + SizeOf.sizeOf R := by rw [hxx]; simp
          obtain ⟨a2, cap2, c, hv2, hs2⟩ := ih n' [v2] y2 (by omega) ht2
          simp only [List.cons.injEq, and_true] at hk hst hv2
          subst hk hst hv2
          rw [hadd] at hc0 hc1 hc2
          exact ⟨k, t, a2, cap2, c, hc0, hc1, hc2, hs2⟩
        obtain ⟨f, zs, hfl, hz, hc⟩ := rows_from hrows len (Nat.le_refl _)
        subst hfl
        exact ⟨some ⟨b, o, none⟩, m, f, rfl, hl, hm, by simp, .inr ⟨b, o, zs, rfl, hb, by simpa using hc, hz⟩⟩

theorem trod_blocks {H : Type} {enc : TypeId × Value → H} {W : World} {base : Nat} {sp : Nat → Bool} {held : Bool} {t : TypeId} {v : Value} {d : DataW H} {ps : List MemPlace} (h : DataW.Trod enc Try.prog W base sp held t v d ps) : ∀ x ∈ ps, x.block < W.heap.size := by
  obtain ⟨fuel, hf⟩ := h
  exact DataW.trod_lt _ _ _ _ hf
theorem Try.laidOut : laidOutB Try.prog = true := by kernel_rfl

theorem sl_of {H : Type} {enc : TypeId × Value → H} {W : World} {v : Value} {d : DataW H} {ps : List MemPlace} (hv : ∃ a l c, v = .slice a l c) (h : DataW.Trod enc Try.prog W 0 (fun _ => true) true 22 v d ps) :
    ∃ (a : Option Addr) (cap : Nat) (f : Fo), v = .slice a f.len cap ∧ Sl W.heap.size W a cap f := by
  obtain ⟨a, l, c, rfl⟩ := hv
  obtain ⟨fuel, hf⟩ := h
  obtain ⟨a', cap', f, h1, h2⟩ := sl_open _ fuel _ _ (Nat.le_refl _) hf
  simp [Value.cells] at h1
  obtain ⟨rfl, rfl, rfl⟩ := h1
  exact ⟨_, _, f, rfl, h2⟩
end Go.Proofs.Ytajdpchojimigaa
