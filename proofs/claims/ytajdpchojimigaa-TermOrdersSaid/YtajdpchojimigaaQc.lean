/- The parser's small methods. -/
import Derived.Test.YtajdpchojimigaaQa
import Derived.Test.YtajdpchojimigaaQb
namespace Go.Proofs.Ytajdpchojimigaa
open Go.RowKit TmM

/-- what a method of the parser without a result leaves. -/
def OutP (n p : Nat) (T : ByteArray) (i : Int) (bad : Int) (E : List En) (w : World) (e : Ending) (w' : World) : Prop := e = .returned (.tuple #[]) ∧ ∃ vo, Hid (PSt n w' p T i vo bad E) ∧ Hid (Below n w w')

section
variable {n p : Nat} {T : ByteArray} {i bad : Int} {vo : Value} {E : List En}

set_option maxHeartbeats 800000 in
theorem pfail_any (w : World) (j : Int) (h : PSt n w p T i vo bad E) : Calls Try.prog 113 #[.pointer (some ⟨p, 0, none⟩), .int .i64 j] w (fun e w' => e = .returned (.tuple #[]) ∧ Hid (PSt n w' p T i vo j E) ∧ Hid (Below n w w')) := by
  have c3 := h.c3
  have f3 := h.fz 3
  have H := Lib.hid h
  clear h
  go_enter Try.func113, Try.ntmps113
  go_wp2
  go_end0
  exact ⟨rfl, Lib.hid (H.out.setBad j), Lib.hid ((Below.refl _ _).setCell (p := ⟨p, 3, none⟩) H.out.le _)⟩

set_option maxHeartbeats 800000 in
theorem pinner_any (w : World) (e : En) (h : PSt n w p T i vo bad (E ++ [e])) (hE : E.length ≤ 1000000) : Calls Try.prog 111 #[.pointer (some ⟨p, 0, none⟩)] w (OutV w (.int .i64 e.k)) := by
  have c2 := h.c2
  obtain ⟨g, cap, rfl, hcap, hcm, _, c4, _, _, _⟩ := h.top
  unfold maxLen at hcm
  clear h
  go_enter Try.func111, Try.ntmps111
  go_wp2
  go_quiet (fail)
  go_wp2
  go_ret
  exact ⟨rfl, below_drewN (Below.refl _ _) _⟩

theorem heap_drewN (w : World) (k : Nat) : (w.drewN k).heap = w.heap := by
  induction k with
  | zero => rfl
  | succ k ih => exact ih
theorem Put.drewN {S S' : Nat → Prop} {w : World} {a : Option Addr} {c : Nat} {H : Fo} (h : Put S w a c H) (hS : ∀ b, S b → S' b) (k : Nat) : Put S' (w.drewN k) a c H := by
  obtain ⟨news, h1, h2, h3⟩ := h
  exact ⟨news, h1.mono hS (fun b _ => by rw [heap_drewN]), h2, fun ad ha j u hj => (World.cell?_of_block (by rw [heap_drewN])).trans (h3 ad ha j u hj)⟩

/-- what append does to kids. -/
theorem run_append_kids {base m c : Nat} {S : Nat → Prop} {w : World} {v : Value} {G H : Fo} {xs : List Value} {ad : Option Addr} (ho : w.ownsRow base 35 3 v G.len xs) (hp : Put S w ad c H) (hl : G.len + H.len ≤ 8000000) (hm : m = H.len) (hs : base ≤ w.heap.size) (ty : TypeId) :
    ∃ v' w' news, (Builtin.append_ #[22, 22] ty #[v, .slice ad m c]).run Try.prog w = .ok v' w' ∧ RepsS S w news H ∧ w'.ownsRow base 35 3 v' (G.len + H.len) (xs ++ news) ∧ w.grownBy w' v.ownBlock ∧ (v'.ownBlock = v.ownBlock ∨ v'.ownBlock = some w.heap.size) := by
  subst hm
  obtain ⟨i0, hi, hz0, hz1, hz2⟩ := info_parts Try.infoTerm
  obtain ⟨news, hn, h0, hc⟩ := hp
  cases ad with
  | none =>
    obtain ⟨rfl, rfl⟩ := h0 rfl
    obtain rfl : news = [] := hn
    exact ⟨v, w, [], run_append_owned_none (P := Try.prog) w base 22 ty 35 i0 3 Try.underlying22 hi v G.len xs ho, rfl, by rw [List.append_nil]; exact ho, ⟨rfl, rfl, rfl, Nat.le_refl _, fun _ _ _ => rfl⟩, .inl rfl⟩
  | some q =>
    obtain ⟨v', w', hrun, ho', hg, _, hat⟩ := run_append_own_at (P := Try.prog) w base 22 ty 35 i0 (.agg #[.int .i64 0, .string ⟨#[]⟩, .slice none 0 0]) 3 48 Try.underlying22 hi hz0 hz1 hz2 rfl (by decide) v G.len xs ho q H.len c news (by have := hn.length; omega) (hc q rfl) (RepsS.ones hn) (by unfold maxLen; omega) (by omega) hs
    exact ⟨v', w', news, hrun, hn, ho', hg, hat⟩
theorem wpList_append_kids {base m c : Nat} {S : Nat → Prop} {w : World} {v : Value} {G H : Fo} {xs : List Value} {ad : Option Addr} {ops : Array Oper} {rest : List Oper} {o : Oper} {a : Act} {Q : Exit → Act → World → Prop} (hgd : o.guard = none) (s x : Operand) (hop : o.op = .call { callee := .builtin .append, args := #[s, x], argTypes := #[22, 22] })
    (hs : a.eval s = v) (hx : a.eval x = .slice ad m c) (ho : w.ownsRow base 35 3 v G.len xs) (hp : Put S w ad c H) (hl : G.len + H.len ≤ 8000000) (hm : m = H.len) (hb : base ≤ w.heap.size)
    (h : ∀ v' w' news, RepsS S w news H → w'.ownsRow base 35 3 v' (G.len + H.len) (xs ++ news) → w.grownBy w' v.ownBlock → (v'.ownBlock = v.ownBlock ∨ v'.ownBlock = some w.heap.size) → wpList Try.prog ops Q rest (a.put o.dst v') w') : wpList Try.prog ops Q (o :: rest) a w :=
  wpList_plain hgd fun _ hK => by
    obtain ⟨v', w', news, hr, h1, h2, h3, h4⟩ := run_append_kids ho hp hl hm hb o.type
    unfold Oper.wp execOp
    simp only [hop, resolve, invoke, builtin, Sem.run_bind, Sem.run_pure, Result.andThen_ok, List.map_toArray, List.map_cons, List.map_nil, hs, hx, hr]
    exact hK _ _ (h v' w' news h1 h2 h3 h4)
theorem row_slice {w : World} {B m : Nat} {v : Value} {xs : List Value} (h : w.ownsRow B 35 3 v m xs) : ∃ a l c, v = .slice a l c := by
  rcases h.2 with ⟨rfl, _⟩ | ⟨g, cap, cur, rfl, _⟩
  · exact ⟨_, _, _, rfl⟩
  · exact ⟨_, _, _, rfl⟩
theorem PSt.room {g cap : Nat} {w w1 : World} {e : En} (h : PSt n w p T i vo bad (E ++ [e])) (hv : vo = .slice (some ⟨g, 0, none⟩) (E.length + 1) cap) (hg : w.grownBy w1 e.kv.ownBlock) : w1.cell? ⟨g, E.length * 3 + 2, none⟩ = some e.kv ∧ w1.frozen? ⟨g, E.length * 3 + 2, none⟩ = false := by
  obtain ⟨g', cap', hv', _, _, _, _, _, h3, h4⟩ := h.top
  rw [hv] at hv'
  cases hv'
  have hb : w1.heap[g]? = w.heap[g]? := hg.block g (h.row.lt g (by rw [hv]; rfl)).2 (fun c => h.apart e (by simp) g c.symm (by rw [hv]; rfl))
  exact ⟨(World.cell?_of_block hb).trans h3, (World.frozen?_of_block hb).trans (h4 _)⟩

set_option maxHeartbeats 1600000 in
theorem padd_any (w : World) (e : En) (H : Fo) (ad : Option Addr) (m c : Nat) (h : PSt n w p T i vo bad (E ++ [e])) (hE : E.length ≤ 1000000) (hm : m = H.len) (hp : Put (Free n w p vo (E ++ [e])) w ad c H) (hl : e.g.len + H.len ≤ 8000000) :
    Calls Try.prog 132 #[.pointer (some ⟨p, 0, none⟩), .slice ad m c] w (fun r w' => r = .returned (.tuple #[]) ∧ ∃ kv', Hid (PSt n w' p T i vo bad (E ++ [⟨e.k, e.t, kv', e.g.app H⟩])) ∧ Hid (Below n w w')) := by
  have c2 := h.c2
  obtain ⟨g, cap, hv, hcap, hcm, hng, _, _, c5, _⟩ := h.top
  unfold maxLen at hcm
  have HV := Lib.hid hv
  have HN := Lib.hid hng
  have H0 := Lib.hid h
  have HP := Lib.hid hp
  have HM := Lib.hid hm
  have HL := Lib.hid hl
  rw [hv] at c2
  clear h hp hm hl hv hng
  go_enter Try.func132, Try.ntmps132
  go_wp2
  go_quiet (fail)
  have hh := heap_drewN w nq
  have HB := Lib.hid (below_drewN (Below.refl w.heap.size w) nq)
  have HP2 := Lib.hid (HP.out.drewN (S' := Free n (w.drewN nq) p vo (E ++ [e])) (fun b hb => hb.mono (by rw [hh]; exact Nat.le_refl _)) nq)
  have H2 := Lib.hid (H0.out.later HB.out)
  obtain ⟨W, hW⟩ : ∃ W, W = w.drewN nq := ⟨_, rfl⟩
  have c6 : W.cell? ⟨g, E.length * 3 + 2, none⟩ = some e.kv := by rw [hW]; exact (World.cell?_of_block (by rw [hh])).trans c5
  rw [← hW] at HB HP2 H2 ⊢
  clear hh hW c2 c5 HP
  obtain ⟨xs, hx, hr⟩ := H2.out.kids e (by simp)
  have HX := Lib.hid hx
  have HR := Lib.hid hr
  clear hx hr
  go_wp2_with (at_builtin; refine wpList_append_kids rfl (.tmp 20) (.tmp 21) rfl rfl rfl HX.out HP2.out HL.out HM.out H2.out.size ?_; intro v6 w6 news hn6 ho6 hg6 hat6; obtain ⟨c7, f7⟩ := H2.out.room HV.out hg6; obtain ⟨a6, l6, k6, rfl⟩ := row_slice ho6; have HA := Lib.hid (H2.out.add HV.out HX.out HR.out hn6 ho6 hg6 hat6); have HG := Lib.hid hg6; clear hn6 ho6 hg6 hat6)
  go_end0
  refine ⟨rfl, _, HA, Lib.hid ?_⟩
  exact ((HB.out.mono H0.out.size).grown HG.out (Nat.le_trans H0.out.size HB.out.size) (fun k hk => (HX.out.lt k hk).1)).setCell (p := ⟨g, E.length * 3 + 2, none⟩) HN.out _
end
end Go.Proofs.Ytajdpchojimigaa
