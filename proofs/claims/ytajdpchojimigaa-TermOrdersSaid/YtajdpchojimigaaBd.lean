/- Expressions in new memory: lists that grow. -/
import Derived.Test.YtajdpchojimigaaMem
import Derived.Deep.RegionHeld3
namespace Go.Proofs.Ytajdpchojimigaa
open Go.RowKit TmM

theorem Try.infoTerm : (Try.prog.info? 35).map (fun i => (i.zero, i.size, i.bytes)) = some (some (.agg #[.int .i64 0, .string ⟨#[]⟩, .slice none 0 0]), 3, 48) := by kernel_rfl

/-- the cells xs are an expression, whose kids lie in blocks of which S holds. -/
def RepsS (S : Nat → Prop) (w : World) : List Value → Fo → Prop
  | xs, .nil => xs = []
  | xs, .cons k t c r => ∃ a cap ys, xs = .int .i64 k :: .string t :: .slice a c.len cap :: ys ∧ (c.len ≤ cap ∧ cap ≤ maxLen ∧ (a = none → cap = 0) ∧
      (c = .nil ∨ ∃ b o zs, a = some ⟨b, o, none⟩ ∧ S b ∧ Cells w b o zs ∧ RepsS S w zs c)) ∧ RepsS S w ys r
def SlS (S : Nat → Prop) (w : World) (a : Option Addr) (cap : Nat) (f : Fo) : Prop :=
  f.len ≤ cap ∧ cap ≤ maxLen ∧ (a = none → cap = 0) ∧ (f = .nil ∨ ∃ b o zs, a = some ⟨b, o, none⟩ ∧ S b ∧ Cells w b o zs ∧ RepsS S w zs f)

theorem Cells.same {w w' : World} {b o : Nat} {xs : List Value} (h : Cells w b o xs) (hw : w'.heap[b]? = w.heap[b]?) : Cells w' b o xs :=
  fun j hj => (World.cell?_of_block hw).trans (h j hj)

theorem RepsS.mono {S S' : Nat → Prop} {w w' : World} (hS : ∀ b, S b → S' b) (hw : ∀ b, S b → w'.heap[b]? = w.heap[b]?) : ∀ {xs : List Value} {f : Fo}, RepsS S w xs f → RepsS S' w' xs f
  | _, .nil, h => h
  | _, .cons _ _ _ _, ⟨a, cap, ys, hx, ⟨h1, h2, h3, h4⟩, hr⟩ => ⟨a, cap, ys, hx, ⟨h1, h2, h3, h4.elim .inl (fun ⟨b, o, zs, ha, hlt, hc, hz⟩ => .inr ⟨b, o, zs, ha, hS b hlt, hc.same (hw b hlt), RepsS.mono hS hw hz⟩)⟩, RepsS.mono hS hw hr⟩
theorem SlS.mono {S S' : Nat → Prop} {w w' : World} {a : Option Addr} {cap : Nat} {f : Fo} (h : SlS S w a cap f) (hS : ∀ b, S b → S' b) (hw : ∀ b, S b → w'.heap[b]? = w.heap[b]?) : SlS S' w' a cap f :=
  ⟨h.1, h.2.1, h.2.2.1, h.2.2.2.elim .inl (fun ⟨b, o, zs, ha, hlt, hc, hz⟩ => .inr ⟨b, o, zs, ha, hS b hlt, hc.same (hw b hlt), hz.mono hS hw⟩)⟩

theorem RepsS.reps {n : Nat} {S : Nat → Prop} {w : World} (hS : ∀ b, S b → b < n) : ∀ {xs : List Value} {f : Fo}, RepsS S w xs f → Reps n w xs f
  | _, .nil, h => h
  | _, .cons _ _ _ _, ⟨a, cap, ys, hx, ⟨h1, h2, h3, h4⟩, hr⟩ => ⟨a, cap, ys, hx, ⟨h1, h2, h3, h4.elim .inl (fun ⟨b, o, zs, ha, hlt, hc, hz⟩ => .inr ⟨b, o, zs, ha, hS b hlt, hc, RepsS.reps hS hz⟩)⟩, RepsS.reps hS hr⟩
theorem SlS.sl {n : Nat} {S : Nat → Prop} {w : World} {a : Option Addr} {cap : Nat} {f : Fo} (h : SlS S w a cap f) (hS : ∀ b, S b → b < n) : Sl n w a cap f :=
  ⟨h.1, h.2.1, h.2.2.1, h.2.2.2.elim .inl (fun ⟨b, o, zs, ha, hlt, hc, hz⟩ => .inr ⟨b, o, zs, ha, hS b hlt, hc, hz.reps hS⟩)⟩
theorem Reps.repsS {n : Nat} {S : Nat → Prop} {w : World} (hS : ∀ b, b < n → S b) : ∀ {xs : List Value} {f : Fo}, Reps n w xs f → RepsS S w xs f
  | _, .nil, h => h
  | _, .cons _ _ _ _, ⟨a, cap, ys, hx, ⟨h1, h2, h3, h4⟩, hr⟩ => ⟨a, cap, ys, hx, ⟨h1, h2, h3, h4.elim .inl (fun ⟨b, o, zs, ha, hlt, hc, hz⟩ => .inr ⟨b, o, zs, ha, hS b hlt, hc, Reps.repsS hS hz⟩)⟩, Reps.repsS hS hr⟩

theorem RepsS.length {S : Nat → Prop} {w : World} : ∀ {xs : List Value} {f : Fo}, RepsS S w xs f → xs.length = 3 * f.len
  | _, .nil, h => by rw [show _ = [] from h]; rfl
  | _, .cons _ _ _ r, ⟨a, cap, ys, hx, _, hr⟩ => by have := RepsS.length hr; subst hx; simp [this]; omega
theorem RepsS.app {S : Nat → Prop} {w : World} {g : Fo} {ys : List Value} (hg : RepsS S w ys g) : ∀ {xs : List Value} {f : Fo}, RepsS S w xs f → RepsS S w (xs ++ ys) (f.app g)
  | _, .nil, h => by rw [show _ = [] from h]; exact hg
  | _, .cons _ _ _ _, ⟨a, cap, zs, hx, hk, hr⟩ => ⟨a, cap, zs ++ ys, by subst hx; rfl, hk, RepsS.app hg hr⟩
theorem RepsS.one {S : Nat → Prop} {w : World} {k : Int} {t : ByteArray} {c : Fo} {a : Option Addr} {cap : Nat} (hs : SlS S w a cap c) : RepsS S w [.int .i64 k, .string t, .slice a c.len cap] (.cons k t c .nil) := ⟨a, cap, [], rfl, hs, rfl⟩
theorem RepsS.cons_mk {S : Nat → Prop} {w : World} {k : Int} {t : ByteArray} {c r : Fo} {a : Option Addr} {cap : Nat} {ys : List Value} (hs : SlS S w a cap c) (hr : RepsS S w ys r) : RepsS S w (.int .i64 k :: .string t :: .slice a c.len cap :: ys) (.cons k t c r) := ⟨a, cap, ys, rfl, hs, hr⟩
theorem SlS.nil {S : Nat → Prop} {w : World} : SlS S w none 0 .nil := ⟨Nat.le_refl _, Nat.zero_le _, fun _ => rfl, .inl rfl⟩
theorem RepsS.ones {S : Nat → Prop} {w : World} : ∀ {xs : List Value} {f : Fo}, RepsS S w xs f → ∀ u ∈ xs, u.oneCell' = true
  | _, .nil, h, u, hu => by rw [show _ = [] from h] at hu; cases hu
  | _, .cons _ _ _ _, ⟨a, cap, ys, hx, _, hr⟩, u, hu => by
    subst hx
    simp only [List.mem_cons] at hu
    rcases hu with rfl | rfl | rfl | hu
    · rfl
    · rfl
    · rfl
    · exact RepsS.ones hr u hu

/-- v is a list of the call's own that holds the expression G, all in blocks from base on. -/
def Built (base : Nat) (w : World) (v : Value) (G : Fo) : Prop :=
  ∃ xs, w.ownsRow base 35 3 v G.len xs ∧ RepsS (fun b => base ≤ b ∧ b < w.heap.size ∧ v.ownBlock ≠ some b) w xs G ∧ base ≤ w.heap.size

theorem own_lt {w : World} {B e size n : Nat} {v : Value} {xs : List Value} (h : w.ownsRow B e size v n xs) {k : Nat} (hk : v.ownBlock = some k) : k < w.heap.size := by
  rcases h.2 with ⟨rfl, _⟩ | ⟨g, cap, cur, rfl, _, hg, _⟩
  · cases hk
  · cases hk; exact (Array.getElem?_eq_some_iff.1 hg).1
theorem own_below {w w' : World} {B e size n m : Nat} {v : Value} {xs : List Value} (h : w.ownsRow B e size v n xs) (hb : Below m w w') (hv : ∀ k, v.ownBlock = some k → k < m) : w'.ownsRow B e size v n xs := by
  refine ⟨h.1, ?_⟩
  rcases h.2 with h0 | ⟨g, cap, cur, rfl, h1, hg, h3⟩
  · exact .inl h0
  · exact .inr ⟨g, cap, cur, rfl, h1, (hb.block g (hv g rfl)).trans hg, h3⟩

theorem Built.nil {base : Nat} {w : World} (h : base ≤ w.heap.size) : Built base w (.slice none 0 0) .nil := ⟨[], ⟨rfl, .inl ⟨rfl, rfl⟩⟩, rfl, h⟩
theorem Built.later {base : Nat} {w w' : World} {v : Value} {G : Fo} (h : Built base w v G) (hb : Below w.heap.size w w') : Built base w' v G := by
  obtain ⟨xs, ho, hr, hs⟩ := h
  exact ⟨xs, own_below ho hb (fun k hk => own_lt ho hk), hr.mono (fun b hb' => ⟨hb'.1, Nat.lt_of_lt_of_le hb'.2.1 hb.size, hb'.2.2⟩) (fun b hb' => hb.block b hb'.2.1), Nat.le_trans hs hb.size⟩

/-- what the law on append leaves. -/
theorem Built.appended {base n : Nat} {w w1 : World} {v v' : Value} {G H : Fo} {xs ys : List Value} (hr : RepsS (fun b => base ≤ b ∧ b < w.heap.size ∧ v.ownBlock ≠ some b) w xs G) (hy : RepsS (fun b => base ≤ b ∧ b < w.heap.size ∧ v.ownBlock ≠ some b) w ys H)
    (hs : base ≤ w.heap.size) (hn : n = G.len + H.len) (ho : w1.ownsRow base 35 3 v' n (xs ++ ys)) (hg : w.grownBy w1 v.ownBlock) (hat : v'.ownBlock = v.ownBlock ∨ v'.ownBlock = some w.heap.size) : Built base w1 v' (G.app H) := by
  subst hn
  refine ⟨xs ++ ys, by rw [Fo.len_app]; exact ho, (RepsS.app hy hr).mono (fun b hb => ⟨hb.1, Nat.lt_of_lt_of_le hb.2.1 hg.size, ?_⟩) (fun b hb => hg.block b hb.2.1 (fun e => hb.2.2 e.symm)), Nat.le_trans hs hg.size⟩
  rcases hat with h | h
  · rw [h]; exact hb.2.2
  · rw [h]; intro e; cases e; exact Nat.lt_irrefl _ hb.2.1

/-- a new expression, beside which nothing old has changed. -/
def OutF (w : World) (G : Fo) (e : Ending) (w' : World) : Prop :=
  ∃ a cap, e = .returned (.slice a G.len cap) ∧ Hid (SlS (fun b => w.heap.size ≤ b ∧ b < w'.heap.size) w' a cap G) ∧ Below w.heap.size w w'

theorem Built.sls {base : Nat} {w : World} {v : Value} {G : Fo} (h : Built base w v G) : ∃ a cap, v = .slice a G.len cap ∧ SlS (fun b => base ≤ b ∧ b < w.heap.size) w a cap G := by
  obtain ⟨xs, ho, hr, hs⟩ := h
  rcases ho.2 with ⟨rfl, h0⟩ | ⟨g, cap, cur, rfl, hbg, hg, hnc, hcm, _⟩
  · have hG : G = .nil := by cases G with
      | nil => rfl
      | cons _ _ _ _ => simp at h0
    subst hG
    exact ⟨none, 0, rfl, SlS.nil⟩
  · refine ⟨some ⟨g, 0, none⟩, cap, rfl, hnc, hcm, by simp, .inr ⟨g, 0, xs, rfl, ⟨hbg, (Array.getElem?_eq_some_iff.1 hg).1⟩, fun j hj => ?_, hr.mono (fun b hb => ⟨hb.1, hb.2.1⟩) (fun _ _ => rfl)⟩⟩
    have hl := ho.1
    have hc := ho.cellAt
    rw [Nat.zero_add, hc j (by omega)]

theorem outF_of {w w' : World} {v : Value} {G : Fo} (h : Built w.heap.size w' v G) (hb : Below w.heap.size w w') : OutF w G (.returned v) w' := by
  obtain ⟨a, cap, rfl, hs⟩ := h.sls
  exact ⟨a, cap, rfl, Lib.hid hs, hb⟩

/-- the cells of an array that was just laid. -/
theorem news_of (w : World) (xs : List Value) (t : TypeId) : ∀ j u, xs[j]? = some u → (w.alloc (.cells xs.toArray t)).cell? ((⟨w.heap.size, 0, none⟩ : Addr).add j) = some u := by
  intro j u hu
  have hadd : (⟨w.heap.size, 0, none⟩ : Addr).add j = ⟨w.heap.size, j, none⟩ := by unfold Addr.add; split <;> simp_all
  rw [hadd, World.cell?_alloc_at _ _ _ _ (by simp)]
  simpa using hu
end Go.Proofs.Ytajdpchojimigaa
