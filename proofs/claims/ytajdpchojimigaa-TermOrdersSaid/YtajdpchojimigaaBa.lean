/- What append does to an expression of the call's own. -/
import Derived.Test.YtajdpchojimigaaBd
import Derived.Deep.AppendLies
namespace Go.Proofs.Ytajdpchojimigaa
open Go.RowKit TmM

theorem add_cell (b o j : Nat) : (⟨b, o, none⟩ : Addr).add j = ⟨b, o + j, none⟩ := by unfold Addr.add; split <;> simp_all

/-- the terms of H lie at an address. -/
def Put (S : Nat → Prop) (w : World) (a : Option Addr) (c : Nat) (H : Fo) : Prop :=
  ∃ news, RepsS S w news H ∧ (a = none → c = 0 ∧ H = .nil) ∧ (∀ ad, a = some ad → ∀ j u, news[j]? = some u → w.cell? (ad.add j) = some u)

theorem Put.of {S : Nat → Prop} {w : World} {a : Option Addr} {c : Nat} {H : Fo} (h : SlS S w a c H) : Put S w a c H := by
  obtain ⟨h1, h2, h3, h4⟩ := h
  rcases h4 with rfl | ⟨b, o, zs, rfl, _, hc, hz⟩
  · exact ⟨[], rfl, fun ha => ⟨h3 ha, rfl⟩, fun _ _ j u hj => by simp at hj⟩
  · refine ⟨zs, hz, fun ha => (by cases ha), fun ad had j u hj => ?_⟩
    cases had
    rw [add_cell, hc j (List.getElem?_eq_some_iff.1 hj).1, hj]
theorem Put.new {S S' : Nat → Prop} {w : World} {news : List Value} {H : Fo} {n c : Nat} {t : TypeId} (h : RepsS S w news H) (hn : n = w.heap.size) (hS : ∀ b, S b → b < w.heap.size) (hSS : ∀ b, S b → S' b) : Put S' (w.alloc (.cells news.toArray t)) (some ⟨n, 0, none⟩) c H := by
  subst hn
  exact ⟨news, h.mono hSS (fun b hb => heap_alloc_old w _ (hS b hb)), fun ha => (by cases ha), fun ad had => by cases had; exact news_of w news t⟩
theorem Put.mono {S S' : Nat → Prop} {w : World} {a : Option Addr} {c : Nat} {H : Fo} (h : Put S w a c H) (hSS : ∀ b, S b → S' b) : Put S' w a c H := by
  obtain ⟨news, h1, h2⟩ := h
  exact ⟨news, h1.mono hSS (fun _ _ => rfl), h2⟩

theorem Built.own_ge {base : Nat} {w : World} {v : Value} {G : Fo} (h : Built base w v G) {k : Nat} (hk : v.ownBlock = some k) : base ≤ k := by
  obtain ⟨xs, ho, _⟩ := h
  rcases ho.2 with ⟨rfl, _⟩ | ⟨g, cap, cur, rfl, hbg, _⟩
  · cases hk
  · cases hk; exact hbg
theorem Built.own_lt {base : Nat} {w : World} {v : Value} {G : Fo} (h : Built base w v G) {k : Nat} (hk : v.ownBlock = some k) : k < w.heap.size := by
  obtain ⟨xs, ho, _⟩ := h
  exact Go.Proofs.Ytajdpchojimigaa.own_lt ho hk
theorem Built.ge {base : Nat} {w : World} {v : Value} {G : Fo} (h : Built base w v G) : base ≤ w.heap.size := by
  obtain ⟨xs, _, _, hs⟩ := h
  exact hs

/-- a list that was written out. -/
theorem Built.lit {base n m : Nat} {S : Nat → Prop} {w : World} {xs : List Value} {G : Fo} (h : RepsS S w xs G) (hn : n = w.heap.size) (hm : m = G.len) (hS : ∀ b, S b → base ≤ b ∧ b < w.heap.size) (hl : G.len ≤ 8000000) (hb : base ≤ w.heap.size) :
    Built base (w.alloc (.cells xs.toArray 35)) (.slice (some ⟨n, 0, none⟩) m m) G := by
  subst hn hm
  have hlen := h.length
  refine ⟨xs, ?_, h.mono (fun b hb => ⟨(hS b hb).1, by have := (hS b hb).2; simp; omega, fun e => by have := (hS b hb).2; simp [Value.ownBlock] at e; omega⟩) (fun b hb => heap_alloc_old w _ (hS b hb).2), by simp; omega⟩
  have := World.ownsRow_lit (base := base) (e := 35) (size := 3) w xs.toArray G.len hb (by unfold maxLen; omega) (by simp [hlen]; omega)
  simpa using this

theorem Put.push {base n c : Nat} {w : World} {v : Value} {news : List Value} {H : Fo} {t : TypeId} (h : RepsS (fun b => base ≤ b ∧ b < w.heap.size ∧ v.ownBlock ≠ some b) w news H) (hn : n = w.heap.size) :
    Put (fun b => base ≤ b ∧ b < (w.alloc (.cells news.toArray t)).heap.size ∧ v.ownBlock ≠ some b) (w.alloc (.cells news.toArray t)) (some ⟨n, 0, none⟩) c H :=
  Put.new h hn (fun _ hb => hb.2.1) (fun b hb => ⟨hb.1, by have := hb.2.1; simp; omega, hb.2.2⟩)
theorem Built.push {base : Nat} {w : World} {v : Value} {G : Fo} (h : Built base w v G) (o : Obj) : Built base (w.alloc o) v G := h.later ((Below.refl _ _).alloc (Nat.le_refl _) _)
theorem below_push {w w2 w6 : World} {v : Value} {G : Fo} {o : Obj} (hbl : Below w.heap.size w w2) (hB : Built w.heap.size w2 v G) (hg : (w2.alloc o).grownBy w6 v.ownBlock) : Below w.heap.size w w6 :=
  (hbl.alloc hbl.size o).grown hg (by have := hbl.size; simp; omega) (fun _ hk => hB.own_ge hk)
theorem below_put {w w2 w6 : World} {v : Value} {G : Fo} (hbl : Below w.heap.size w w2) (hB : Built w.heap.size w2 v G) (hg : w2.grownBy w6 v.ownBlock) : Below w.heap.size w w6 :=
  hbl.grown hg hbl.size (fun _ hk => hB.own_ge hk)

section
variable {base : Nat} {w : World} {v : Value} {G H : Fo} {ad : Option Addr} {c m : Nat}

theorem run_append_built (hB : Built base w v G) (hp : Put (fun b => base ≤ b ∧ b < w.heap.size ∧ v.ownBlock ≠ some b) w ad c H) (hl : G.len + H.len ≤ 8000000) (hm : m = H.len) (ty : TypeId) :
    ∃ v' w', (Builtin.append_ #[22, 22] ty #[v, .slice ad m c]).run Try.prog w = .ok v' w' ∧ Built base w' v' (G.app H) ∧ w.grownBy w' v.ownBlock ∧ (v'.ownBlock = v.ownBlock ∨ v'.ownBlock = some w.heap.size) := by
  subst hm
  obtain ⟨i0, hi, hz0, hz1, hz2⟩ := info_parts Try.infoTerm
  obtain ⟨xs, ho, hr, hs⟩ := hB
  obtain ⟨news, hn, h0, hc⟩ := hp
  cases ad with
  | none =>
    obtain ⟨rfl, rfl⟩ := h0 rfl
    exact ⟨v, w, run_append_owned_none (P := Try.prog) w base 22 ty 35 i0 3 Try.underlying22 hi v G.len xs ho, by rw [Fo.app_nil]; exact ⟨xs, ho, hr, hs⟩, ⟨rfl, rfl, rfl, Nat.le_refl _, fun _ _ _ => rfl⟩, .inl rfl⟩
  | some p =>
    obtain ⟨v', w', hrun, ho', hg, _, hat⟩ := run_append_own_at (P := Try.prog) w base 22 ty 35 i0 (.agg #[.int .i64 0, .string ⟨#[]⟩, .slice none 0 0]) 3 48 Try.underlying22 hi hz0 hz1 hz2 rfl (by decide) v G.len xs ho p H.len c news (by have := hn.length; omega) (hc p rfl) (RepsS.ones hn) (by unfold maxLen; omega) (by omega) hs
    exact ⟨v', w', hrun, Built.appended hr hn hs rfl ho' hg hat, hg, hat⟩

theorem wp_append_built {o : Oper} {a : Act} {K : Act → World → Prop} {Q : Exit → Act → World → Prop} (s x : Operand) (ho : o.op = .call { callee := .builtin .append, args := #[s, x], argTypes := #[22, 22] })
    (hB : Built base w v G) (hs : a.eval s = v) (hx : a.eval x = .slice ad m c) (hm : m = H.len) (hp : Put (fun b => base ≤ b ∧ b < w.heap.size ∧ v.ownBlock ≠ some b) w ad c H) (hl : G.len + H.len ≤ 8000000)
    (h : ∀ v' w', Built base w' v' (G.app H) → w.grownBy w' v.ownBlock → (v'.ownBlock = v.ownBlock ∨ v'.ownBlock = some w.heap.size) → K (a.put o.dst v') w') : o.wp Try.prog a w K Q := by
  obtain ⟨v', w', hr, h2, h3, h4⟩ := run_append_built hB hp hl hm o.type
  unfold Oper.wp execOp
  simp only [ho, resolve, invoke, builtin, Sem.run_bind, Sem.run_pure, Result.andThen_ok, List.map_toArray, List.map_cons, List.map_nil, hs, hx, hr]
  exact h v' w' h2 h3 h4

theorem wpList_append_built {ops : Array Oper} {rest : List Oper} {o : Oper} {a : Act} {Q : Exit → Act → World → Prop} (hgd : o.guard = none) (s x : Operand) (ho : o.op = .call { callee := .builtin .append, args := #[s, x], argTypes := #[22, 22] })
    (hB : Built base w v G) (hs : a.eval s = v) (hx : a.eval x = .slice ad m c) (hm : m = H.len) (hp : Put (fun b => base ≤ b ∧ b < w.heap.size ∧ v.ownBlock ≠ some b) w ad c H) (hl : G.len + H.len ≤ 8000000)
    (h : ∀ v' w', Built base w' v' (G.app H) → w.grownBy w' v.ownBlock → (v'.ownBlock = v.ownBlock ∨ v'.ownBlock = some w.heap.size) → wpList Try.prog ops Q rest (a.put o.dst v') w') : wpList Try.prog ops Q (o :: rest) a w :=
  wpList_plain hgd fun _ hK => wp_append_built s x ho hB hs hx hm hp hl fun v' w' h1 h2 h3 => hK _ _ (h v' w' h1 h2 h3)

theorem step_append_built {ops : Array Oper} {o : Oper} {a : Act} {K : Act → World → Prop} {Q : Exit → Act → World → Prop} {E : Prop} (hgd : o.guard = none) (s x : Operand) (ho : o.op = .call { callee := .builtin .append, args := #[s, x], argTypes := #[22, 22] })
    (hB : Built base w v G) (hs : a.eval s = v) (hx : a.eval x = .slice ad m c) (hm : m = H.len) (hp : Put (fun b => base ≤ b ∧ b < w.heap.size ∧ v.ownBlock ≠ some b) w ad c H) (hl : G.len + H.len ≤ 8000000)
    (h : ∀ v' w', Built base w' v' (G.app H) → w.grownBy w' v.ownBlock → (v'.ownBlock = v.ownBlock ∨ v'.ownBlock = some w.heap.size) → K (a.put o.dst v') w') :
    if Region.wanted o (yielded ops a.tmps) = true then Oper.wp Try.prog o a w K Q else E := by
  have hw : Region.wanted o (yielded ops a.tmps) = true := by simp [Region.wanted, hgd]
  rw [if_pos hw]
  exact wp_append_built s x ho hB hs hx hm hp hl h
end

/-- the cells of a list that was just laid, one by one. -/
theorem news_cell {w : World} (xs : List Value) (t : TypeId) (j : Nat) {u : Value} (hu : xs[j]? = some u) : (w.alloc (.cells xs.toArray t)).cell? ⟨w.heap.size, j, none⟩ = some u := by
  rw [World.cell?_alloc_at _ _ _ _ (by simp)]
  simpa using hu
theorem news_at (w : World) (xs : List Value) (t : TypeId) (n : Nat) (hn : n = w.heap.size) : ∀ j u, xs[j]? = some u → (w.alloc (.cells xs.toArray t)).cell? ((⟨n, 0, none⟩ : Addr).add j) = some u := by
  subst hn; exact news_of w xs t
/-- a term in its box, as far as no own list lies there. -/
def Box (w : World) (g : Nat) (k : Int) (t : ByteArray) (a : Option Addr) (l cap : Nat) : Prop :=
  g < w.heap.size ∧ w.cell? ⟨g, 0, none⟩ = some (.int .i64 k) ∧ w.cell? ⟨g, 1, none⟩ = some (.string t) ∧ w.cell? ⟨g, 2, none⟩ = some (.slice a l cap)
theorem Box.new (w : World) (k : Int) (t : ByteArray) (a : Option Addr) (l cap : Nat) : Box (w.alloc (.cells #[.int .i64 k, .string t, .slice a l cap] 35)) w.heap.size k t a l cap :=
  ⟨by simp, news_cell [_, _, _] _ 0 rfl, news_cell [_, _, _] _ 1 rfl, news_cell [_, _, _] _ 2 rfl⟩
theorem Box.later {w w' : World} {g : Nat} {k : Int} {t : ByteArray} {a : Option Addr} {l cap : Nat} (h : Box w g k t a l cap) (hb : Below w.heap.size w w') : Box w' g k t a l cap :=
  ⟨Nat.lt_of_lt_of_le h.1 hb.size, (hb.cell (p := ⟨g, 0, none⟩) h.1).trans h.2.1, (hb.cell (p := ⟨g, 1, none⟩) h.1).trans h.2.2.1, (hb.cell (p := ⟨g, 2, none⟩) h.1).trans h.2.2.2⟩
theorem Box.grown {w w' : World} {g : Nat} {k : Int} {t : ByteArray} {a : Option Addr} {l cap : Nat} {row : Option Nat} (h : Box w g k t a l cap) (hg : w.grownBy w' row) (hne : row ≠ some g) : Box w' g k t a l cap :=
  ⟨Nat.lt_of_lt_of_le h.1 hg.size, hg.cell (a := ⟨g, 0, none⟩) h.2.1 (fun e => hne e.symm), hg.cell (a := ⟨g, 1, none⟩) h.2.2.1 (fun e => hne e.symm), hg.cell (a := ⟨g, 2, none⟩) h.2.2.2 (fun e => hne e.symm)⟩
end Go.Proofs.Ytajdpchojimigaa
