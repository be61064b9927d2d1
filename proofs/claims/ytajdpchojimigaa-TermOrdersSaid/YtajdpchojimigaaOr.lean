/- An argument that is an expression, opened, with what a real process can hold. -/
import Derived.Test.YtajdpchojimigaaOp
import Derived.Test.YtajdpchojimigaaSm
import Derived.SizedLaws
namespace Go.Proofs.Ytajdpchojimigaa
open Go.RowKit TmM Go.ChangeShapes Go.WideShapes Go.Deep

theorem rows_reach {W : World} {b o len : Nat} (h : ∀ i, i < len → ∃ (k : Int) (t : ByteArray) (a : Option Addr) (cap : Nat) (c : Fo), W.cell? ⟨b, o + i * 3, none⟩ = some (.int .i64 k) ∧ W.cell? ⟨b, o + (i * 3 + 1), none⟩ = some (.string t) ∧ W.cell? ⟨b, o + (i * 3 + 2), none⟩ = some (.slice a c.len cap) ∧ Sl W.heap.size W a cap c ∧ t.size ≤ 140737488355327 ∧ c.len ≤ 140737488355327 ∧ Reach c) :
    ∀ r, r ≤ len → ∃ (f : Fo) (zs : List Value), f.len = r ∧ Reps W.heap.size W zs f ∧ Cells W b (o + 3 * (len - r)) zs ∧ Reach f := by
  intro r
  induction r with
  | zero => exact fun _ => ⟨.nil, [], rfl, rfl, fun j hj => by simp at hj, trivial⟩
  | succ r ih =>
    intro hr
    obtain ⟨f, zs, hl, hz, hc, hrf⟩ := ih (by omega)
    obtain ⟨k, t, a, cap, c, h0, h1, h2, hs, ht, hcl, hrc⟩ := h (len - (r + 1)) (by omega)
    refine ⟨.cons k t c f, .int .i64 k :: .string t :: .slice a c.len cap :: zs, by simp [hl], Reps.cons_mk hs hz, fun j hj => ?_, ht, hcl, hrc, hrf⟩
    match j, hj with
    | 0, _ => rw [show o + 3 * (len - (r + 1)) + 0 = o + (len - (r + 1)) * 3 by omega]; exact h0
    | 1, _ => rw [show o + 3 * (len - (r + 1)) + 1 = o + ((len - (r + 1)) * 3 + 1) by omega]; exact h1
    | 2, _ => rw [show o + 3 * (len - (r + 1)) + 2 = o + ((len - (r + 1)) * 3 + 2) by omega]; exact h2
    | j + 3, hj =>
      rw [show o + 3 * (len - (r + 1)) + (j + 3) = o + 3 * (len - r) + j by omega]
      exact hc j (by simpa using hj)

theorem mem_all {H : Type} {P : Program} {e : TypeId} : ∀ {l : List (DataW H)} {d : DataW H}, d ∈ l → ∀ n ∈ d.weights P e, n ∈ DataW.weightsAll P e l
  | x :: l, d, hd, n, hn => by
    simp only [DataW.weightsAll, List.mem_append]
    rcases List.mem_cons.1 hd with rfl | h
    · exact .inl hn
    · exact .inr (mem_all h n hn)

theorem bytes_term : 1 ≤ Try.prog.bytesOf 35 := by decide +kernel

set_option maxRecDepth 100000 in
theorem sl_open_reach {H : Type} {enc : TypeId × Value → H} {W : World} (N : Nat) : ∀ (n : Nat) (cs : List Value) (x : DataW H × List MemPlace), SizeOf.sizeOf x.1 ≤ N → DataW.trod enc Try.prog W 0 (fun _ => true) true n 22 cs = some x → (∀ m ∈ x.1.weights Try.prog 22, m ≤ reachBytes) →
    ∃ (a : Option Addr) (cap : Nat) (f : Fo), cs = [.slice a f.len cap] ∧ Sl W.heap.size W a cap f ∧ f.len ≤ 140737488355327 ∧ Reach f := by
  induction N with
  | zero =>
    intro n cs x hx
    exfalso
    cases hd : x.1 <;> rw [hd] at hx <;> simp at hx
  | succ N ih =>
    intro n cs x hx h hwt
    rcases slice_fields Try.underlying22 Try.underlying35 (by kernel_rfl) (by kernel_rfl) h with ⟨rfl, _⟩ | ⟨a, len, cap, m, D, R, rfl, hl, hm, hmm, hxx, hf⟩
    · exact ⟨none, 0, .nil, rfl, Sl.nil, by simp, trivial⟩
    · simp only [if_true] at hmm
      subst hmm
      rw [hxx, DataW.weights] at hwt
      simp only [Try.underlying22] at hwt
      have hlen : len ≤ 140737488355327 := by
        have h0 := hwt _ (List.mem_cons_self ..)
        simp only [List.length_map, List.length_range] at h0
        have h1 := bytes_term
        have h2 : reachBytes ≤ 140737488355327 := by decide
        have h3 := Nat.mul_le_mul_left (len + R.length) h1
        omega
      have hreach : reachBytes ≤ 140737488355327 := by decide
      by_cases hl0 : len = 0
      · subst hl0
        exact ⟨some a, m, .nil, rfl, ⟨hl, hm, by simp, .inl rfl⟩, by simp, trivial⟩
      · obtain ⟨b, o, spot⟩ := a
        have hspot : spot = none := by
          obtain ⟨ys, n', _, hj⟩ := hf 0 (by omega)
          obtain ⟨v, y, hc, _⟩ := hj 0 _ rfl
          simpa [Addr.add] using World.cell?_spot hc
        subst hspot
        have hb : b < W.heap.size := by
          obtain ⟨ys, n', _, hj⟩ := hf 0 (by omega)
          obtain ⟨v, y, hc, _⟩ := hj 0 _ rfl
          have := World.block_lt_of_cell? W _ hc
          rwa [show ((⟨b, o, none⟩ : Addr).add _).block = b from by unfold Addr.add; split <;> simp_all] at this
        have hadd : ∀ j, (⟨b, o, none⟩ : Addr).add j = ⟨b, o + j, none⟩ := fun j => by unfold Addr.add; split <;> simp_all
        have hrows : ∀ i, i < len → ∃ (k : Int) (t : ByteArray) (a : Option Addr) (cap : Nat) (c : Fo), W.cell? ⟨b, o + i * 3, none⟩ = some (.int .i64 k) ∧ W.cell? ⟨b, o + (i * 3 + 1), none⟩ = some (.string t) ∧ W.cell? ⟨b, o + (i * 3 + 2), none⟩ = some (.slice a c.len cap) ∧ Sl W.heap.size W a cap c ∧ t.size ≤ 140737488355327 ∧ c.len ≤ 140737488355327 ∧ Reach c := by
          intro i hi
          obtain ⟨ys, n', hD, hj⟩ := hf i (by omega)
          obtain ⟨v0, y0, hc0, _, ht0⟩ := hj 0 _ rfl
          obtain ⟨v1, y1, hc1, hy1, ht1⟩ := hj 1 _ rfl
          obtain ⟨v2, y2, hc2, hy2, ht2⟩ := hj 2 _ rfl
          obtain ⟨k, hk, _, _⟩ := DataW.trod_int Try.underlying3 ht0
          obtain ⟨t, hst, hyt, _⟩ := DataW.trod_string Try.underlying9 ht1
          have hmem : y2.1 ∈ ys.map (·.1) := List.mem_map.2 ⟨y2, List.mem_of_getElem? hy2, rfl⟩
          have hDm : D i ∈ (List.range len).map D := List.mem_map.2 ⟨i, List.mem_range.2 hi, rfl⟩
          have s1 := List.sizeOf_lt_of_mem hmem
          have s2 := List.sizeOf_lt_of_mem hDm
          have s3 : SizeOf.sizeOf (D i) = 1 + SizeOf.sizeOf (ys.map (·.1)) := by rw [hD]; simp
          have s4 : SizeOf.sizeOf x.1 = 1 + SizeOf.sizeOf ((List.range len).map D) + SizeOf.sizeOf R := by rw [hxx]; simp
          have hwD : ∀ q ∈ (D i).weights Try.prog 35, q ≤ reachBytes := fun q hq => hwt q (List.mem_cons_of_mem _ (List.mem_append_left _ (mem_all hDm q hq)))
          rw [hD, DataW.weights] at hwD
          simp only [Try.underlying35] at hwD
          have w1 : t.size ≤ reachBytes := by
            have h1 := hwD t.data.toList.length (DataW.weights_mem_each (j := 1) (d := .lit (.string t.data.toList)) rfl (by rw [List.getElem?_map, hy1, hyt]; rfl) _ (by simp [DataW.weights]))
            simpa using h1
          obtain ⟨a2, cap2, c, hv2, hs2, hcl, hrc⟩ := ih n' [v2] y2 (by omega) ht2 (fun q hq => hwD q (DataW.weights_mem_each (j := 2) (d := y2.1) rfl (by rw [List.getElem?_map, hy2]; rfl) q hq))
          simp only [List.cons.injEq, and_true] at hk hst hv2
          subst hk hst hv2
          rw [hadd] at hc0 hc1 hc2
          exact ⟨k, t, a2, cap2, c, hc0, hc1, hc2, hs2, by omega, hcl, hrc⟩
        obtain ⟨f, zs, hfl, hz, hc, hrf⟩ := rows_reach hrows len (Nat.le_refl _)
        subst hfl
        exact ⟨some ⟨b, o, none⟩, m, f, rfl, ⟨hl, hm, by simp, .inr ⟨b, o, zs, rfl, hb, by simpa using hc, hz⟩⟩, hlen, hrf⟩

theorem sl_of_reach {H : Type} {enc : TypeId × Value → H} {W : World} {v : Value} {d : DataW H} {ps : List MemPlace} (hv : ∃ a l c, v = .slice a l c) (h : DataW.Trod enc Try.prog W 0 (fun _ => true) true 22 v d ps) (hw : ∀ m ∈ d.weights Try.prog 22, m ≤ reachBytes) :
    ∃ (a : Option Addr) (cap : Nat) (f : Fo), v = .slice a f.len cap ∧ Sl W.heap.size W a cap f ∧ f.len ≤ 140737488355327 ∧ Reach f := by
  obtain ⟨a, l, c, rfl⟩ := hv
  obtain ⟨fuel, hf⟩ := h
  obtain ⟨a', cap', f, h1, h2, h3, h4⟩ := sl_open_reach _ fuel _ _ (Nat.le_refl _) hf hw
  simp [Value.cells] at h1
  obtain ⟨rfl, rfl, rfl⟩ := h1
  exact ⟨_, _, f, rfl, h2, h3, h4⟩
end Go.Proofs.Ytajdpchojimigaa
