/- Reading and writing numbers. -/
import Derived.Test.YtebejllehbpahaaGreatDoorPe
import Derived.Test.YtebejllehbpahaaGreatDoorPd
import Derived.Lib.Builder
import Derived.Lib.AppendStr
import Derived.Lib.UnsafeStr
import Derived.Laws.Externs
import Derived.Laws.IdiomCopy
import Derived.WalkSmall
import Derived.Test.YtebejllehbpahaaGreatDoorPa
import Derived.Test.YtebejllehbpahaaGreatDoorPm
/- Integers out of texts. -/
namespace Go.Proofs.YtebejllehbpahaaGreatDoor
open Go.RowKit Go.Proofs.ArM

theorem hp45 (l : List UInt8) : Lib.hasPrefix l [45] = decide ((l.headD 0).toNat = 45) := by
  cases l with
  | nil => rfl
  | cons a l =>
    simp only [Lib.hasPrefix, List.isPrefixOf, List.headD_cons, Bool.and_true]
    rw [Bool.eq_iff_iff]
    constructor
    · intro h
      have e : 45 = a := by simpa using h
      subst e; rfl
    · intro h
      have e : a = 45 := UInt8.toNat_inj.1 (of_decide_eq_true h)
      subst e; rfl

/-- the sign and the digits of a right text -/
theorem cut_parts {l : List UInt8} (h : validB l = true) : (∀ b ∈ Lib.trimPrefix l [45], digB b = true) ∧ (Lib.trimPrefix l [45]).length ≤ 500 ∧
    numOf l = (if Lib.hasPrefix l [45] then -(((val (digsOf (Lib.trimPrefix l [45]))).toNat : Nat) : Int) else (((val (digsOf (Lib.trimPrefix l [45]))).toNat : Nat) : Int)) := by
  by_cases h45 : (l.headD 0).toNat = 45
  · have hp : Lib.hasPrefix l [45] = true := by rw [hp45]; exact decide_eq_true h45
    have ht : Lib.trimPrefix l [45] = l.tail := by
      rw [Lib.trimPrefix, if_pos hp]
      cases l <;> rfl
    rw [validB, if_pos h45, Bool.and_eq_true] at h
    have hc := coreB_parts h.2
    rw [ht, hp]
    refine ⟨hc.2.2.2, hc.2.1, ?_⟩
    have hn := val_nonneg (dig_digsOf hc.2.2.2)
    rw [numOf, if_pos h45, if_pos rfl, Int.toNat_of_nonneg hn]
  · have hp : Lib.hasPrefix l [45] = false := by rw [hp45]; exact decide_eq_false h45
    have ht : Lib.trimPrefix l [45] = l := by
      rw [Lib.trimPrefix, if_neg (by rw [hp]; simp)]
    rw [validB, if_neg h45] at h
    have hc := coreB_parts h
    rw [ht, hp]
    refine ⟨hc.2.2.2, hc.2.1, ?_⟩
    have hn := val_nonneg (dig_digsOf hc.2.2.2)
    rw [numOf, if_neg h45, if_neg (by simp), Int.toNat_of_nonneg hn]

theorem Tryz.infoZ : (Tryz.prog.info? 50).map (fun i => (i.zero, i.size, i.bytes)) = some (some (.agg #[.bool false, .slice none 0 0]), 2, 32) := by kernel_rfl

/-- the texts ss lie from an address on -/
def Txs (w : World) (b o : Nat) (ss : List ByteArray) : Prop :=
  b < w.heap.size ∧ ∀ j, j < ss.length → w.cell? ⟨b, o + j, none⟩ = some (.string (ss.getD j ⟨#[]⟩))

theorem Txs.later {w w' : World} {b o : Nat} {ss : List ByteArray} (h : Txs w b o ss) (hb : Below w.heap.size w w') : Txs w' b o ss :=
  ⟨Nat.lt_of_lt_of_le h.1 hb.size, fun j hj => (hb.cell (p := ⟨b, o + j, none⟩) h.1).trans (h.2 j hj)⟩

/-- an integer in memory: its value, and where its limbs lie -/
structure Zed where
  n : Int
  a : Option Addr
  c : Nat

def Zed.cells (z : Zed) : List Value := [.bool (decide (z.n < 0)), .slice z.a (Ldigs z.n.natAbs).length z.c]
def zcells (zs : List Zed) : List Value := zs.flatMap Zed.cells
theorem zcells_length (zs : List Zed) : (zcells zs).length = zs.length * 2 := by
  induction zs with
  | nil => rfl
  | cons z zs ih => simp only [zcells, List.flatMap_cons, List.length_append, List.length_cons] at ih ⊢; rw [ih]; simp [Zed.cells]; omega
theorem zcells_snoc (zs : List Zed) (z : Zed) : zcells (zs ++ [z]) = zcells zs ++ z.cells := by simp [zcells]

/-- all of them have their limbs -/
def ZedOk (w : World) (zs : List Zed) : Prop := ∀ z ∈ zs, Sl w.heap.size w z.a z.c (Ldigs z.n.natAbs)
theorem ZedOk.later {w w' : World} {zs : List Zed} (h : ZedOk w zs) (hb : Below w.heap.size w w') : ZedOk w' zs := fun z hz => (h z hz).later hb

/-- what reading some texts hands back -/
def OutRd (w : World) (ss : List ByteArray) (e : Ending) (w' : World) : Prop :=
  (∃ v zs, e = .returned (.tuple #[v, .int .i64 0]) ∧ w'.ownsRow w.heap.size 50 2 v zs.length (zcells zs) ∧ ZedOk w' zs ∧ Hid (zs.map Zed.n = ss.map (fun s => numOf s.data.toList)) ∧ Hid (∀ s ∈ ss, validB s.data.toList = true) ∧ Below w.heap.size w w') ∨
  (e = .returned (.tuple #[.slice none 0 0, .int .i64 2]) ∧ Hid (∃ s ∈ ss, validB s.data.toList = false) ∧ Below w.heap.size w w')

theorem sl_grown {w w' : World} {a : Option Addr} {c : Nat} {xs : List Int} {row : Option Nat} (h : Sl w.heap.size w a c xs) (hg : w.grownBy w' row) (hne : ∀ p, a = some p → row ≠ some p.block) : Sl w'.heap.size w' a c xs := by
  rcases h with h | ⟨b, o, rfl, hI⟩
  · exact .inl h
  · refine .mk ⟨b, o, c, rfl, hI.cell.2.2.1, hI.cell.2.2.2.1, Nat.lt_of_lt_of_le hI.cell.1 hg.size, fun j hj => ?_⟩
    exact hg.cell (a := ⟨b, o + j, none⟩) (hI.cell.2.2.2.2 j hj) (fun h => hne _ rfl h.symm)

theorem two_news (w : World) (p q : Value) (t : TypeId) : ∀ j u, [p, q][j]? = some u → (w.alloc (.cells #[p, q] t)).cell? ((⟨w.heap.size, 0, none⟩ : Addr).add j) = some u := by
  intro j u hu
  have hadd : (⟨w.heap.size, 0, none⟩ : Addr).add j = ⟨w.heap.size, j, none⟩ := by unfold Addr.add; split <;> simp_all
  have h := cells2 (W := w.alloc (.cells #[p, q] t)) (heap_alloc_new w _)
  rw [hadd]
  match j, hu with
  | 0, hu => rw [h.1]; exact hu
  | 1, hu => rw [h.2.1]; exact hu

theorem cut_any (s : ByteArray) (r : List UInt8) (m : Bool) (hr : r = Lib.trimPrefix s.data.toList [45]) (hm : m = Lib.hasPrefix s.data.toList [45]) (w : World) :
    Calls Tryz.prog 61 #[.string s, .string ⟨#[45]⟩] w fun e w' => e = .returned (.tuple #[.string ⟨r.toArray⟩, .bool m]) ∧ w = w' := by
  subst hr; subst hm
  exact (Tryz.strings_CutPrefix s ⟨#[45]⟩ w).mono fun _ _ h => ⟨h.1, h.2.symm⟩

set_option maxHeartbeats 6400000 in
set_option maxRecDepth 100000 in
theorem pread_any (b o c : Nat) (ss : List ByteArray) (w : World) (hS : Txs w b o ss) (hl : ss.length ≤ 1000) (_ : ss.length ≤ c) (hz : ∀ s ∈ ss, s.size ≤ 1000000) :
    Calls Tryz.prog 30 #[.slice (some ⟨b, o, none⟩) ss.length c] w (OutRd w ss) := by
  obtain ⟨i0, hi, hz0, hz1, hz2⟩ := info_parts Tryz.infoZ
  have HS := Lib.hid hS
  have HZ := Lib.hid hz
  clear hS hz
  go_enter Tryz.func30, Tryz.ntmps30
  go_wp2_with fail
  go_loopw [4, 11] (fun u i wr => ∃ (v : Value) (k : Nat) (zs : List Zed), u = v ∧ i = .int .i64 k ∧ k ≤ ss.length ∧ Hid (zs.length = k) ∧ wr.ownsRow w.heap.size 50 2 v zs.length (zcells zs) ∧ ZedOk wr zs ∧ Hid (∀ z ∈ zs, ∀ p, z.a = some p → v.ownBlock ≠ some p.block) ∧ Hid (zs.map Zed.n = (ss.take k).map (fun s => numOf s.data.toList)) ∧ Hid (∀ s ∈ ss.take k, validB s.data.toList = true) ∧ Below w.heap.size w wr)
    (fun _ i _ => ss.length - (intOf i).toNat)
  case atStart => exact ⟨_, 0, [], rfl, rfl, Nat.zero_le _, Lib.hid rfl, ⟨rfl, .inl ⟨rfl, rfl⟩⟩, fun z hz => (by cases hz), Lib.hid (fun z hz => (by cases hz)), Lib.hid rfl, Lib.hid (by simp), Below.refl _ _⟩
  case round =>
    obtain ⟨v, k, zs, hu, rfl, hk, hzl, hown, hok, hfar, hnum, hval, hbl⟩ := hrel
    have hu' := hu.symm
    clear hu
    subst hu'
    by_cases hkL : k < ss.length
    · obtain ⟨s, hs⟩ : ∃ s, s = ss.getD k ⟨#[]⟩ := ⟨_, rfl⟩
      have hsk : ss[k]? = some s := by rw [hs, List.getD_eq_getElem?_getD, List.getElem?_eq_getElem hkL]; rfl
      have hmem : s ∈ ss := List.mem_of_getElem? hsk
      have cs : wr.cell? ⟨b, o + k, none⟩ = some (.string s) := by rw [hs]; exact (HS.out.later hbl).2 k hkL
      have htk : ss.take (k + 1) = ss.take k ++ [s] := by rw [List.take_add_one, hsk]; rfl
      have HTK := Lib.hid htk
      have HM := Lib.hid hmem
      clear hs hsk htk
      have V0 := pvalid_any s wr (HZ.out s hmem)
      clear hmem
      cases hv : validB s.data.toList
      · rw [hv] at V0
        have V := Lib.hid V0
        have HF := Lib.hid (show ∃ s ∈ ss, validB s.data.toList = false from ⟨s, HM.out, hv⟩)
        clear V0 hv
        go_wp2_with fail
        refine V.out.mono ?_
        rintro e w2 ⟨rfl, hb2⟩
        go_wp2
        go_ret2
        exact .inr ⟨rfl, HF, hbl.trans (hb2.mono hbl.size)⟩
      · rw [hv] at V0
        have V := Lib.hid V0
        obtain ⟨r, hr⟩ : ∃ r, r = Lib.trimPrefix s.data.toList [45] := ⟨_, rfl⟩
        obtain ⟨m, hm⟩ : ∃ m, m = Lib.hasPrefix s.data.toList [45] := ⟨_, rfl⟩
        have hp := cut_parts hv
        rw [← hr, ← hm] at hp
        have C := Lib.hid (fun wx => cut_any s r m hr hm wx)
        have HV := Lib.hid hv
        obtain ⟨s2, hs2⟩ : ∃ s2 : Bool, s2 = decide (numOf s.data.toList < 0) := ⟨_, rfl⟩
        have HS2 := Lib.hid hs2
        obtain ⟨K, hK⟩ : ∃ K, K = (val (digsOf r)).toNat := ⟨_, rfl⟩
        rw [← hK] at hp
        have HKN := Lib.hid (show (numOf s.data.toList).natAbs = K from by
          have := hp.2.2
          cases m
          · simp only [Bool.false_eq_true, if_false] at this; omega
          · simp only [if_true] at this; omega)
        have O := Lib.hid (fun wx => pof_any ⟨r.toArray⟩ wx (by have := hp.2.1; simp [ByteArray.size]; omega) (by simpa using hp.1))
        have hK' : (val (digsOf (⟨r.toArray⟩ : ByteArray).data.toList)).toNat = K := by simpa using hK.symm
        rw [hK'] at O
        have HSG := Lib.hid (show s2 = decide ((if m then -(K : Int) else K) < 0) from by rw [hs2, hp.2.2])
        clear V0 hv hr hm hp hs2 hK hK'
        go_wp2_with fail
        refine V.out.mono ?_
        rintro e w2 ⟨rfl, hb2⟩
        have hbl2 := hbl.trans (hb2.mono hbl.size)
        have hok2 := hok.later hb2
        have hown2 := own_below hown hb2 (fun j hj => (hown.lt j hj).2)
        have HLT4 := Lib.hid (fun j (hj : v.ownBlock = some j) => (hown2.lt j hj).2)
        clear hown hbl hok cs
        go_wp2_with fail
        refine (C.out _).mono ?_
        rintro e w3 ⟨rfl, rfl⟩
        go_wp2_with fail
        refine (O.out _).mono ?_
        rintro e w4 ⟨a4, c4, ds, rfl, hS4, hds, hb4, hn4⟩
        have hbl4 := hbl2.trans (hb4.mono hbl2.size)
        have hok4 := hok2.later hb4
        have hown4 := own_below hown2 hb4 (fun j hj => (hown2.lt j hj).2)
        have G := Lib.hid (psign_b m s2 a4 c4 ds K w4 hds.out HSG.out)
        clear hown2 hbl2 hok2 hb2 hb4
        go_wp2_with fail
        refine G.out.mono ?_
        rintro e w5 ⟨rfl, hb5⟩
        have hbl5 := hbl4.trans (hb5.mono hbl4.size)
        have hok5 := hok4.later hb5
        have hown5 := own_below hown4 hb5 (fun j hj => (hown4.lt j hj).2)
        have hS5 := hS4.later hb5
        clear hown4 hbl4 hok4 hb5 hS4
        obtain ⟨N, hN⟩ : ∃ N, N = numOf s.data.toList := ⟨_, rfl⟩
        have hcell : [Value.bool s2, Value.slice a4 ds.length c4] = Zed.cells ⟨N, a4, c4⟩ := by
          have h1 := HS2.out
          have h2 := HKN.out
          have h3 := hds.out
          rw [← hN] at h1 h2
          rw [h3, h1, Zed.cells, h2]
        have HCELL := Lib.hid hcell
        have HNN := Lib.hid hN
        have HS5 := Lib.hid hS5
        clear hcell hN hS5
        go_wp2_with (at_builtin; refine wpList_append_own_at _ rfl (.tmp 23) (.tmp 28) 45 rfl w.heap.size 50 i0 (.agg #[.bool false, .slice none 0 0]) 2 32 Tryz.underlying45 hi hz0 hz1 hz2 rfl (by decide) _ _ _ rfl (hown5.alloc _) ⟨w5.heap.size, 0, none⟩ 1 1 [.bool s2, .slice a4 ds.length c4] rfl rfl (two_news _ _ _ _) (by intro u hu; simp at hu; rcases hu with rfl | rfl <;> rfl) (by have := hzl.out; unfold maxLen; omega) (by have := hzl.out; omega) (by have := hbl5.size; simp; omega) ?_; intro v' w6 hown' hgrow hnil hblk; clear hnil)
        have hbl6 := (hbl5.alloc (Nat.le_trans hbl5.size (Nat.le_refl _)) (.cells #[.bool s2, .slice a4 ds.length c4] 50)).grown hgrow (by have := hbl5.size; simp; omega) (fun j hj => (hown5.lt j hj).1)
        have hkeep : ∀ (a : Option Addr) (c : Nat) (xs : List Int), Sl w5.heap.size w5 a c xs → (∀ p, a = some p → v.ownBlock ≠ some p.block) → Sl w6.heap.size w6 a c xs := fun a c xs h hne => by
          refine sl_grown (h.later ((Below.refl w5.heap.size w5).alloc (Nat.le_refl _) (.cells #[.bool s2, .slice a4 ds.length c4] 50))) hgrow hne
        have hnew4 : ∀ p, a4 = some p → v.ownBlock ≠ some p.block := fun p hp hv => by
          have h1 := HLT4.out _ hv
          have h2 := hn4.out p hp
          omega
        have hl5 : ∀ j, v.ownBlock = some j → j < w5.heap.size := fun j hj => (hown5.lt j hj).2
        go_roundw
        case rel =>
          refine ⟨_, k + 1, zs ++ [⟨N, a4, c4⟩], rfl, by go_num, by omega, Lib.hid (by simp [hzl.out]), ?_, ?_, ?_, ?_, ?_, hbl6⟩
          · have h := hown'
            rw [HCELL.out, ← zcells_snoc] at h
            simpa using h
          · intro z hz
            rcases List.mem_append.1 hz with h | h
            · exact hkeep _ _ _ (hok5 z h) (hfar.out z h)
            · obtain rfl := List.mem_singleton.1 h
              have h4 := hkeep _ _ _ HS5.out hnew4
              rw [hds.out] at h4
              have h5 := HKN.out
              rw [← HNN.out] at h5
              rw [h5]; exact h4
          · exact Lib.hid (fun z hz p hp hv => by
              rcases hblk with hb | hb
              · rw [hb] at hv
                rcases List.mem_append.1 hz with h | h
                · exact hfar.out z h p hp hv
                · obtain rfl := List.mem_singleton.1 h
                  exact hnew4 p hp hv
              · rw [hb] at hv
                simp at hv
                have h5 : p.block < w5.heap.size := by
                  rcases List.mem_append.1 hz with h | h
                  · exact (hok5 z h).lt p hp
                  · obtain rfl := List.mem_singleton.1 h
                    exact HS5.out.lt p hp
                omega)
          · exact Lib.hid (by rw [HTK.out, List.map_append, List.map_append, hnum.out, List.map_singleton, List.map_singleton, HNN.out])
          · exact Lib.hid (by
              intro s' hs'
              rw [HTK.out] at hs'
              rcases List.mem_append.1 hs' with h | h
              · exact hval.out s' h
              · obtain rfl := List.mem_singleton.1 h
                exact HV.out)
        case measure => simp [intOf]; omega
    · obtain rfl : k = ss.length := by omega
      have HA := Lib.hid hnum.out
      rw [List.take_of_length_le (Nat.le_refl _)] at HA
      have HB := Lib.hid hval.out
      rw [List.take_of_length_le (Nat.le_refl _)] at HB
      go_wp2
      go_ret2
      exact .inl ⟨v, zs, rfl, hown, hok, HA, HB, hbl⟩
end Go.Proofs.YtebejllehbpahaaGreatDoor

/- A builder of texts: its writers. -/
namespace Go.Proofs.YtebejllehbpahaaGreatDoor
open Go.RowKit Go.Proofs.ArM

/-- builder b, one of the call's own from B on, holds the bytes l -/
def Bld (B b : Nat) (l : List UInt8) (w : World) : Prop := Lib.IsBuilder 97 5 B b (Lib.byteCells l) w

theorem bld_new (w : World) : Bld w.heap.size w.heap.size [] (w.alloc (.cells #[.pointer none, .slice none 0 0] 97)) :=
  .inl ⟨Nat.le_refl _, .slice none 0 0, heap_alloc_new w _, ⟨rfl, .inl ⟨rfl, rfl⟩⟩, by simp [Value.ownBlock]⟩

/-- all that is neither builder b nor a row of bytes stands as it stood -/
def Kept (b : Nat) (w w' : World) : Prop := ∀ k o, w.heap[k]? = some o → k ≠ b → (∀ c fz, o ≠ .cells c 5 fz) → w'.heap[k]? = some o

theorem kept_of {B b : Nat} {w w1 wa w2 : World} {v u : Value} {n : Nat} {bs : List Value} {j : Nat} (h1 : ∀ k, k ≠ b → w1.heap[k]? = w.heap[k]?) (ha : ∀ k, k < w1.heap.size → wa.heap[k]? = w1.heap[k]?) (hsz : w1.heap.size ≤ wa.heap.size)
    (hown : w1.ownsRow B 5 1 v n bs) (hg : wa.grownBy w2 v.ownBlock) : Kept b w (w2.setCell ⟨b, j, none⟩ u) := by
  intro k o hk hkb ho
  have e1 := (h1 k hkb).trans hk
  have hlt : k < w1.heap.size := (Array.getElem?_eq_some_iff.1 e1).1
  have hne : some k ≠ v.ownBlock := by
    intro e
    rcases hown.2 with ⟨rfl, _⟩ | ⟨g, cap, cur, rfl, _, hh, _⟩
    · simp [Value.ownBlock] at e
    · simp only [Value.ownBlock, Option.some.injEq] at e
      subst e
      rw [hh] at e1
      simp only [Option.some.injEq] at e1
      exact ho _ _ e1.symm
  have e2 := hg.block k (by omega) hne
  rw [Below.heap_setCell _ _ _ _ (by simpa using hkb), e2, ha k hlt, e1]

theorem bld_byte : (Tryz.prog.info? 5).map (fun i => (i.zero, i.size, i.bytes)) = some (some (.int .u8 0), 1, 1) := by kernel_rfl
theorem bld_size : (Tryz.prog.info? 97).map (·.size) = some 2 := by kernel_rfl
theorem bld_lies : liesAt Tryz.prog Tryz.prog.depth 97 (2 / Tryz.prog.cellsOf 97) 0 97 1 = true := by kernel_rfl
theorem bld_ne : (97 : TypeId) ≠ 5 := by decide

set_option maxHeartbeats 3200000 in
set_option maxRecDepth 100000 in
theorem pcheck_any (B b : Nat) (bs : List Value) (w : World) (h : Lib.IsBuilder 97 5 B b bs w) :
    Calls Tryz.prog 91 #[.pointer (some ⟨b, 0, none⟩)] w fun e w' => e = .returned (.tuple #[]) ∧ (Lib.BuilderAt 97 5 B b (.pointer (some ⟨b, 0, none⟩)) bs w' ∧ Below B w w' ∧ Hid (∀ k, k ≠ b → w'.heap[k]? = w.heap[k]?)) := by
  obtain ⟨j, hj, hjs⟩ := Option.map_eq_some_iff.1 bld_size
  rcases h with h | h
  · have h0 := h.cell0
    have hsh := h.shape
    have hfz := h.frozen0
    have H := Lib.hid h
    clear h
    go_enter Tryz.func91, Tryz.ntmps91
    go_wp2
    rw [Lib.run_to_unsafe w ⟨b, 0, none⟩ Tryz.underlying95 Tryz.underlying133 hj (by rw [hjs]; decide) hsh (Nat.zero_lt_succ 1)]
    simp only [Result.andThen]
    rw [Oper.upon_value]
    go_wp2
    rw [run_callFunc_extern Tryz.func107 (by kernel_rfl) (by kernel_rfl) (by kernel_rfl) (e := Extern.AbiNoEscape.same) (by kernel_rfl)]
    rw [Lib.run_noEscape]
    simp only [Result.andThen]
    rw [Oper.upon_value]
    go_wp2
    rw [Lib.run_from_unsafe w ⟨b, 0, none⟩ Tryz.underlying133 Tryz.underlying95 hj hsh bld_lies]
    simp only [Result.andThen]
    rw [Oper.upon_value]
    go_wp2
    go_end0
    exact ⟨rfl, H.out.used _, (Below.refl B w).setCell (p := ⟨b, 0, none⟩) H.out.1 _, Lib.hid (fun k hk => Below.heap_setCell _ _ _ _ (by simpa using hk))⟩
  · have h0 := h.cell0
    have H := Lib.hid h
    clear h
    go_enter Tryz.func91, Tryz.ntmps91
    go_wp2
    rw [Lib.run_neq_ptr_same w _ Tryz.underlying95 hj]
    go_wp2
    go_end0
    exact ⟨rfl, H.out, Below.refl B _, Lib.hid (fun _ _ => rfl)⟩

/-- what a writer leaves -/
def OutBd (B b : Nat) (l : List UInt8) (w : World) (v : Value) (e : Ending) (w' : World) : Prop := e = .returned v ∧ Bld B b l w' ∧ Below B w w' ∧ Kept b w w'

set_option maxHeartbeats 3200000 in
set_option maxRecDepth 100000 in
theorem pbyte_any (B b : Nat) (l : List UInt8) (x : UInt8) (w : World) (h : Bld B b l w) (hlen : l.length ≤ 1000000) (hBw : B ≤ w.heap.size) :
    Calls Tryz.prog 76 #[.pointer (some ⟨b, 0, none⟩), .int .u8 (x.toNat : Int)] w (OutBd B b (l ++ [x]) w .nilIface) := by
  obtain ⟨i0, hi, hz0, hz1, hz2⟩ := info_parts bld_byte
  have C := Lib.hid (pcheck_any B b _ w h)
  clear h
  go_enter Tryz.func76, Tryz.ntmps76
  go_wp2_with fail
  refine C.out.mono ?_
  rintro e w1 ⟨rfl, h1, hb1, hk1⟩
  obtain ⟨hB, v, hbk, hown, hne⟩ := h1
  have c0 : w1.cell? ⟨b, 0, none⟩ = some (.pointer (some ⟨b, 0, none⟩)) := by rw [Lib.cell_of_heap hbk]; rfl
  have c1 : w1.cell? ⟨b, 1, none⟩ = some v := by rw [Lib.cell_of_heap hbk]; rfl
  have hlb : (Lib.byteCells l).length ≤ 1000000 := by unfold Lib.byteCells; rw [List.length_map]; exact hlen
  have HBK := Lib.hid hbk
  have HNE := Lib.hid hne
  clear hbk hne
  go_wp2_with (at_builtin; refine wpList_append_own _ rfl (.tmp 11) (.tmp 13) 79 rfl B 5 i0 (.int .u8 0) 1 1 Tryz.underlying79 hi hz0 hz1 hz2 rfl (by decide) _ _ _ rfl (hown.alloc _) ⟨w1.heap.size, 0, none⟩ 1 1 [.int .u8 (x.toNat : Int)] rfl rfl (cell_one_new _ _ _) (by intro u hu; simp at hu; subst hu; rfl) (by unfold maxLen; omega) (by omega) (by have := hb1.size; simp; omega) ?_)
  intro v' w2 hown' hgrow _
  have hlt : b < w1.heap.size := (Array.getElem?_eq_some_iff.1 HBK.out).1
  have hb2 : w2.heap[b]? = some (.cells #[.pointer (some ⟨b, 0, none⟩), v] 97 (0, 0)) := by
    rw [hgrow.block b (by simp; omega) (fun e => HNE.out e.symm), heap_alloc_old w1 _ hlt]
    exact HBK.out
  have d0 : w2.cell? ⟨b, 0, none⟩ = some (.pointer (some ⟨b, 0, none⟩)) := by rw [Lib.cell_of_heap hb2]; rfl
  have d1 : w2.cell? ⟨b, 1, none⟩ = some v := by rw [Lib.cell_of_heap hb2]; rfl
  have f1 : w2.frozen? ⟨b, 1, none⟩ = false := Lib.frozen_of_heap hb2 1
  obtain ⟨ao, n', cap, rfl⟩ : ∃ ao n' cap, v' = .slice ao n' cap := by
    rcases hown'.2 with ⟨hv, _⟩ | ⟨g, cap, cur, hv, _⟩
    · exact ⟨_, _, _, hv⟩
    · exact ⟨_, _, _, hv⟩
  have HB2 := Lib.hid hb2
  have HO := Lib.hid hown'
  have HKP := Lib.hid (fun u => kept_of (j := 1) (u := u) hk1.out (fun k hk => heap_alloc_old w1 (.cells #[.int .u8 (x.toNat : Int)] 5) hk) (by simp) hown hgrow)
  have hbz := (hb1.alloc (by have := hb1.size; omega) (.cells #[.int .u8 (x.toNat : Int)] 5)).grown hgrow (by have := hb1.size; simp; omega) (fun k hk => (hown.lt k hk).1)
  clear hb2 hown'
  go_wp2
  go_ret
  refine ⟨rfl, .inr ?_, hbz.setCell (p := ⟨b, 1, none⟩) hB _, HKP.out _⟩
  have e1 : Lib.byteCells (l ++ [x]) = Lib.byteCells l ++ [.int .u8 (x.toNat : Int)] := by simp [Lib.byteCells]
  rw [e1]
  exact Lib.BuilderAt.put hB HB2.out (by simpa using HO.out) bld_ne

set_option maxHeartbeats 3200000 in
set_option maxRecDepth 100000 in
theorem pwrite_any (B b : Nat) (l : List UInt8) (s : ByteArray) (w : World) (h : Bld B b l w) (hlen : l.length ≤ 1000000) (hls : s.size ≤ 1000000) (hBw : B ≤ w.heap.size) :
    Calls Tryz.prog 77 #[.pointer (some ⟨b, 0, none⟩), .string s] w (OutBd B b (l ++ s.data.toList) w (.tuple #[.int .i64 s.size, .nilIface])) := by
  obtain ⟨i0, hi, hz0, hz1, hz2⟩ := info_parts bld_byte
  have C := Lib.hid (pcheck_any B b _ w h)
  clear h
  go_enter Tryz.func77, Tryz.ntmps77
  go_wp2_with fail
  refine C.out.mono ?_
  rintro e w1 ⟨rfl, h1, hb1, hk1⟩
  obtain ⟨hB, v, hbk, hown, hne⟩ := h1
  have c0 : w1.cell? ⟨b, 0, none⟩ = some (.pointer (some ⟨b, 0, none⟩)) := by rw [Lib.cell_of_heap hbk]; rfl
  have c1 : w1.cell? ⟨b, 1, none⟩ = some v := by rw [Lib.cell_of_heap hbk]; rfl
  have hlb : (Lib.byteCells l).length ≤ 1000000 := by unfold Lib.byteCells; rw [List.length_map]; exact hlen
  have HBK := Lib.hid hbk
  have HNE := Lib.hid hne
  clear hbk hne
  go_wp2_with (at_builtin; refine Lib.wpList_append_own_string _ rfl _ _ 79 9 rfl B 5 i0 Tryz.underlying79 Tryz.underlying9 hi hz0 hz1 hz2 _ _ _ rfl hown s rfl (by unfold maxLen; omega) (by omega) (by have := hb1.size; omega) ?_)
  intro v' w2 hown' hgrow _
  have hlt : b < w1.heap.size := (Array.getElem?_eq_some_iff.1 HBK.out).1
  have hb2 : w2.heap[b]? = some (.cells #[.pointer (some ⟨b, 0, none⟩), v] 97 (0, 0)) := by
    rw [hgrow.block b hlt (fun e => HNE.out e.symm)]
    exact HBK.out
  have d0 : w2.cell? ⟨b, 0, none⟩ = some (.pointer (some ⟨b, 0, none⟩)) := by rw [Lib.cell_of_heap hb2]; rfl
  have d1 : w2.cell? ⟨b, 1, none⟩ = some v := by rw [Lib.cell_of_heap hb2]; rfl
  have f1 : w2.frozen? ⟨b, 1, none⟩ = false := Lib.frozen_of_heap hb2 1
  obtain ⟨ao, n', cap, rfl⟩ : ∃ ao n' cap, v' = .slice ao n' cap := by
    rcases hown'.2 with ⟨hv, _⟩ | ⟨g, cap, cur, hv, _⟩
    · exact ⟨_, _, _, hv⟩
    · exact ⟨_, _, _, hv⟩
  have HB2 := Lib.hid hb2
  have HO := Lib.hid hown'
  have HKP := Lib.hid (fun u => kept_of (j := 1) (u := u) hk1.out (fun k _ => rfl) (Nat.le_refl _) hown hgrow)
  have hbz := hb1.grown hgrow (by have := hb1.size; omega) (fun k hk => (hown.lt k hk).1)
  clear hb2 hown'
  go_wp2
  go_ret2
  refine ⟨rfl, .inr ?_, hbz.setCell (p := ⟨b, 1, none⟩) hB _, HKP.out _⟩
  have e1 : Lib.byteCells (l ++ s.data.toList) = Lib.byteCells l ++ Lib.strCells s := by simp [Lib.byteCells, Lib.strCells]
  rw [e1]
  exact Lib.BuilderAt.put hB HB2.out (by simpa [Lib.strCells_length] using HO.out) bld_ne

theorem pstring_any (B b : Nat) (l : List UInt8) (w : World) (h : Bld B b l w) (hBw : B ≤ w.heap.size) :
    Calls Tryz.prog 79 #[.pointer (some ⟨b, 0, none⟩)] w fun e w' => e = .returned (.string ⟨l.toArray⟩) ∧ Below B w w' :=
  Tryz.Builder_String_any B b l w h hBw

end Go.Proofs.YtebejllehbpahaaGreatDoor

/- A list turned round. -/
namespace Go.Proofs.YtebejllehbpahaaGreatDoor
open Go.RowKit Go.Proofs.ArM

theorem below_cells {B b : Nat} {a : World} (hb : B ≤ b) : ∀ (vs : List Value) (o : Nat) (w : World), Below B a w → Below B a (w.setCells b o vs)
  | [], _, _, h => h
  | v :: r, o, _, h => below_cells hb r (o + 1) _ (h.setCell (p := ⟨b, o, none⟩) hb v)

theorem size_cells (b : Nat) : ∀ (vs : List Value) (o : Nat) (w : World), (w.setCells b o vs).heap.size = w.heap.size
  | [], _, _ => rfl
  | v :: r, o, w => by
    show ((w.setCell ⟨b, o, none⟩ v).setCells b (o + 1) r).heap.size = _
    rw [size_cells b r (o + 1)]; simp [World.setCell]

/-- the block of a list of ints holds ints -/
def Typed (w : World) (a : Option Addr) : Prop := ∀ p, a = some p → ∃ cs fz, w.heap[p.block]? = some (.cells cs 3 fz)

theorem typed_cells (g : Nat) : ∀ (vs : List Value) (o : Nat) (w : World), (∃ cs fz, w.heap[g]? = some (.cells cs 3 fz)) → ∃ cs fz, (w.setCells g o vs).heap[g]? = some (.cells cs 3 fz)
  | [], _, _, h => h
  | v :: r, o, w, ⟨cs, fz, h⟩ => typed_cells g r (o + 1) _ ⟨cs.setIfInBounds o v, fz, by simp [World.setCell, Array.getElem?_modify, h]⟩

theorem Typed.kept {w w' : World} {a : Option Addr} {b : Nat} (h : Typed w a) (hk : Kept b w w') (hb : ∀ p, a = some p → p.block ≠ b) : Typed w' a := fun p hp => by
  obtain ⟨cs, fz, e⟩ := h p hp
  exact ⟨cs, fz, hk _ _ e (hb p hp) (by intro c f e2; cases e2)⟩

theorem Sl.kept {w w' : World} {a : Option Addr} {b c : Nat} {xs : List Int} (h : Sl w.heap.size w a c xs) (ht : Typed w a) (hk : Kept b w w') (hb : ∀ p, a = Option.some p → p.block ≠ b) (hs : w.heap.size ≤ w'.heap.size) : Sl w'.heap.size w' a c xs := by
  rcases h with h | ⟨g, o, rfl, hI⟩
  · exact .inl h
  · obtain ⟨cs, fz, e⟩ := ht _ rfl
    have e2 := hk _ _ e (hb _ rfl) (by intro c f e2; cases e2)
    refine .mk ⟨g, o, c, rfl, hI.cell.2.2.1, hI.cell.2.2.2.1, Nat.lt_of_lt_of_le hI.cell.1 hs, fun j hj => ?_⟩
    have h1 := hI.cell.2.2.2.2 j hj
    exact (World.cell?_of_block (a := ⟨g, o + j, none⟩) (e2.trans e.symm)).trans h1

theorem typed_own {w : World} {base n l c : Nat} {a : Option Addr} {xs : List Value} (h : w.ownsRow base 3 1 (.slice a l c) n xs) : Typed w a := fun p hp => by
  rcases h.2 with ⟨hv, _⟩ | ⟨g, cap, cur, hv, _, hh, _⟩
  · cases hv; cases hp
  · cases hv; cases hp; exact ⟨_, _, hh⟩

/-- a list turned round, in new memory -/
def OutRv (w : World) (xs : List Int) (e : Ending) (w' : World) : Prop :=
  ∃ a c, e = .returned (.slice a xs.length c) ∧ Sl w'.heap.size w' a c xs ∧ Below w.heap.size w w' ∧ Hid (∀ p, a = some p → w.heap.size ≤ p.block) ∧ Hid (Typed w' a)

theorem rev_sl {w : World} {g c q : Nat} {xs : List Int} (h : Ints w.heap.size w (.slice (some ⟨g, 0, none⟩) xs.length c) xs) :
    Sl ((w.drewN q).setCells g 0 (xs.reverse.map (Value.int .i64))).heap.size ((w.drewN q).setCells g 0 (xs.reverse.map (Value.int .i64))) (some ⟨g, 0, none⟩) c xs.reverse := by
  refine .mk ⟨g, 0, c, rfl, by rw [List.length_reverse]; exact h.cell.2.2.1, h.cell.2.2.2.1, by rw [size_cells]; exact h.cell.1, fun j hj => ?_⟩
  rw [List.length_reverse] at hj
  have hc := World.cell?_setCells_in g (xs.reverse.map (Value.int .i64)) 0 (w.drewN q) (fun i hi => by
    rw [List.length_map, List.length_reverse] at hi
    have := h.cell.2.2.2.2 i hi
    rw [Nat.zero_add] at this ⊢
    show (w.cell? ⟨g, i, none⟩).isSome = true
    rw [this]; rfl) j (by rw [List.length_map, List.length_reverse]; exact hj)
  rw [hc]
  simp [List.getD, hj]

set_option maxHeartbeats 3200000 in
set_option maxRecDepth 100000 in
theorem prev_any (a : Option Addr) (c : Nat) (xs : List Int) (w : World) (h : Sl w.heap.size w a c xs) (hl : xs.length ≤ 100000) :
    Calls Tryz.prog 45 #[.slice a xs.length c] w (OutRv w xs.reverse) := by
  rcases h with ⟨rfl, rfl, rfl⟩ | ⟨b, o, rfl, hI⟩
  · have C := Lib.hid (Tryz.slices_Clone_int_nil 0 0 w)
    have R := Lib.hid (Tryz.slices_Reverse_int_empty none 0)
    go_enter Tryz.func45, Tryz.ntmps45
    go_wp2_with fail
    refine C.out.mono ?_
    rintro e w2 ⟨rfl, hw2⟩
    obtain rfl : w = w2 := hw2.symm
    go_wp2_with fail
    refine (R.out _).mono ?_
    rintro e w3 ⟨rfl, hw3⟩
    obtain rfl : w = w3 := hw3.symm
    go_wp2
    go_ret
    exact ⟨none, 0, rfl, .nil, Below.refl _ _, Lib.hid new_none, Lib.hid (fun p hp => by cases hp)⟩
  · rcases Nat.eq_zero_or_pos xs.length with h0 | h0
    · obtain rfl : xs = [] := List.eq_nil_of_length_eq_zero h0
      have C := Lib.hid (Tryz.slices_Clone_int_zero ⟨b, o, none⟩ c w)
      clear h0 hI
      go_enter Tryz.func45, Tryz.ntmps45
      go_wp2_with fail
      refine C.out.mono ?_
      rintro e w2 ⟨v', rfl, hown, _, hb2⟩
      obtain ⟨a2, c2, rfl, hS2, hn2⟩ := own_sl (xs := []) hown
      have HTY := Lib.hid (typed_own hown)
      have R := Lib.hid (Tryz.slices_Reverse_int_empty a2 c2 w2)
      have HN := Lib.hid hn2
      clear hown hn2
      go_wp2_with fail
      refine R.out.mono ?_
      rintro e w3 ⟨rfl, hw3⟩
      obtain rfl : w2 = w3 := hw3.symm
      go_wp2
      go_ret
      exact ⟨a2, c2, rfl, hS2, hb2, HN, HTY⟩
    · have C := Lib.hid (Tryz.slices_Clone_int b o xs.length c xs w (Nat.le_refl _) (by omega) hI.cell.2.2.2.2)
      clear hI
      go_enter Tryz.func45, Tryz.ntmps45
      go_wp2_with fail
      refine C.out.mono ?_
      rintro e w2 ⟨v', rfl, hown, _, hb2⟩
      rw [List.take_of_length_le (Nat.le_refl _)] at hown
      obtain ⟨g2, cap2, rfl, hg2⟩ := own_shape hown h0
      have hI2 := ints_of_row hown
      have R := Lib.hid (Tryz.slices_Reverse_int_cells g2 0 xs.length cap2 xs w2 (Nat.le_refl _) (by omega) (by simpa using hI2.cell.2.2.2.2) (fun j _ => by rw [Nat.zero_add]; exact hown.frozenAt j))
      have HI2 := Lib.hid hI2
      have HTY := Lib.hid (typed_own hown)
      clear hown hI2
      go_wp2_with fail
      refine R.out.mono ?_
      rintro e w3 ⟨rfl, q, hw3⟩
      rw [List.take_of_length_le (Nat.le_refl _)] at hw3
      have hS3 := rev_sl (q := q) HI2.out
      have hb3 : Below w.heap.size w ((w2.drewN q).setCells g2 0 (xs.reverse.map (Value.int .i64))) := below_cells hg2 _ _ _ (below_drewN hb2 q)
      have hty : Typed ((w2.drewN q).setCells g2 0 (xs.reverse.map (Value.int .i64))) (some ⟨g2, 0, none⟩) := fun p hp => by
        cases hp
        exact typed_cells g2 _ 0 (w2.drewN q) (HTY.out _ rfl)
      rw [← hw3] at hS3 hb3 hty
      have HTZ := Lib.hid hty
      clear hty
      have HL := Lib.hid (show xs.reverse.length = xs.length from List.length_reverse)
      clear hw3
      go_wp2
      go_ret
      exact ⟨some ⟨g2, 0, none⟩, cap2, by rw [HL.out]; rfl, hS3, hb3, Lib.hid (new_at hg2), HTZ⟩
end Go.Proofs.YtebejllehbpahaaGreatDoor

/- The text of an integer. -/
namespace Go.Proofs.YtebejllehbpahaaGreatDoor
open Go.RowKit Go.Proofs.ArM

/-- the library's table of powers of ten is as it was laid -/
def Tabs (w : World) : Prop := Lib.TabIs Tryz.prog w "internal/strconv.uint64pow10" .u64 Lib.pow10Tab

theorem Tabs.later {w w' : World} (h : Tabs w) (hb : Below w.heap.size w w') : Tabs w' := by
  unfold Tabs Lib.TabIs at h ⊢
  cases hg : Tryz.prog.globalNamed "internal/strconv.uint64pow10" with
  | none => simp [World.var?, hg] at h
  | some g =>
    have hlt : g < w.heap.size := by
      apply Nat.lt_of_not_le
      intro hle
      simp [World.var?, hg, Array.getElem?_eq_none hle] at h
    exact var?_below hb hg hlt h

theorem itoa_b (n : Int) (w : World) (h0 : -9223372036854775808 ≤ n) (h1 : n ≤ 9223372036854775807) (ht : Tabs w) :
    Calls Tryz.prog 56 #[.int .i64 n] w (fun e w' => e = .returned (.string ⟨(Lib.itoa n).toArray⟩) ∧ Below w.heap.size w w') :=
  (Tryz.strconv_Itoa n h0 h1 w ht).mono fun _ _ ⟨h1, k, os, h2⟩ => ⟨h1, by rw [h2]; exact Lib.below_grow _ w (Nat.le_refl _) k os⟩

theorem rep_b (c : Nat) (w : World) (hc : c ≤ 1000) :
    Calls Tryz.prog 78 #[.string ⟨#[48]⟩, .int .i64 (c : Int)] w (fun e w' => e = .returned (.string ⟨(Lib.repeatL [48] c).toArray⟩) ∧ Below w.heap.size w w') :=
  Tryz.strings_Repeat ⟨#[48]⟩ c w (by omega) (by show 1 * c ≤ _; omega)

/-- the decimal digits of the k highest limbs -/
def topT (xs : List Int) (k : Nat) : List UInt8 := if k = 0 then [] else (digs (Lval (xs.drop (xs.length - k))).toNat).reverse.map dch

theorem topT_len {xs : List Int} (hd : LDig xs) (k : Nat) (hk : k ≤ xs.length) : (topT xs k).length ≤ 4 * k := by
  unfold topT
  split
  · simp
  · rw [List.length_map, List.length_reverse]
    apply digs_len
    have h1 := Lval_lt (hd.drop (xs.length - k))
    have h2 := Lval_nonneg (hd.drop (xs.length - k))
    rw [List.length_drop, show xs.length - (xs.length - k) = k from by omega, Lp10_four] at h1
    omega

theorem top_pos {xs : List Int} (hc : LCanon xs) {k : Nat} (h0 : 0 < k) (hk : k ≤ xs.length) : 0 < Lval (xs.drop (xs.length - k)) := by
  refine Lcanon_pos (Lcanon_drop hc _) ?_
  intro e
  have := congrArg List.length e
  rw [List.length_drop, List.length_nil] at this
  omega

theorem topT_one {xs : List Int} (hc : LCanon xs) (hl : 0 < xs.length) {d : Nat} (hd : (d : Int) = xs.getD (xs.length - 1) 0) : topT xs 1 = Lib.decDigits d := by
  have h1 := top_pos hc (k := 1) (by omega) hl
  have h2 := Lval_drop xs (xs.length - 1) (by omega)
  rw [show xs.length - 1 + 1 = xs.length from by omega, List.drop_length, ← hd] at h2
  have h3 : Lval (xs.drop (xs.length - 1)) = (d : Int) := by rw [h2]; simp [Lval]
  rw [topT, if_neg (by omega), h3, Int.toNat_natCast, decDigits_digs (by omega)]

theorem topT_succ {xs : List Int} (hc : LCanon xs) {k : Nat} (h0 : 0 < k) (hk : k < xs.length) {d : Nat} (hd : (d : Int) = xs.getD (xs.length - 1 - k) 0) (hd9 : d < 10000) :
    topT xs (k + 1) = topT xs k ++ (Lib.repeatL [48] (4 - (Lib.decDigits d).length) ++ Lib.decDigits d) := by
  have h1 := top_pos hc h0 (by omega)
  have h2 := Lval_drop xs (xs.length - 1 - k) (by omega)
  rw [show xs.length - 1 - k + 1 = xs.length - k from by omega, ← hd] at h2
  rw [topT, if_neg (by omega), topT, if_neg (by omega), show xs.length - (k + 1) = xs.length - 1 - k from by omega, h2, (four_dec hd9).2.2]
  rw [show ((d : Int) + 10000 * Lval (xs.drop (xs.length - k))).toNat = (Lval (xs.drop (xs.length - k))).toNat * 10000 + d from by omega]
  exact four_step (by omega) hd9

theorem topT_all {xs : List Int} {K : Nat} (hx : xs = Ldigs K) (hK : K ≠ 0) : topT xs xs.length = (digs K).reverse.map dch := by
  have hl : xs.length ≠ 0 := by rw [hx]; have := Ldigs_ne (n := K) (by omega); omega
  rw [topT, if_neg hl, Nat.sub_self, List.drop_zero, hx, Lval_digs, Int.toNat_natCast]

theorem itoa_nat (d : Nat) : Lib.itoa (d : Int) = Lib.decDigits d := by
  rw [Lib.itoa, if_neg (by omega), Int.toNat_natCast]

def sgT (s : Bool) : List UInt8 := if s then [45] else []
theorem numT_sg {n : Int} {s : Bool} (h0 : n ≠ 0) (hs : s = decide (n < 0)) : numT n = sgT s ++ (digs n.natAbs).reverse.map dch := by
  have : digs n.natAbs ≠ [] := by rw [digs_pos (by omega)]; simp
  rw [numT, textOf, if_neg this, ← hs]
  rfl

theorem rev_getD {l : List Int} {k : Nat} (h : k < l.length) : l.reverse.getD k 0 = l.getD (l.length - 1 - k) 0 := by
  rw [List.getD_eq_getElem?_getD, List.getD_eq_getElem?_getD, List.getElem?_reverse h]

theorem Typed.later {w w' : World} {a : Option Addr} (h : Typed w a) (hb : Below w.heap.size w w') : Typed w' a := fun p hp => by
  obtain ⟨cs, fz, e⟩ := h p hp
  exact ⟨cs, fz, (hb.block p.block (Array.getElem?_eq_some_iff.1 e).1).trans e⟩

theorem len_add {l : List UInt8} {z : ByteArray} (h : l.length ≤ 10000) (hz : z.size ≤ 4) : (l ++ z.data.toList).length ≤ 1000000 := by
  have h2 : z.data.toList.length = z.size := by simp
  rw [List.length_append]
  omega

theorem bld_lt {B b : Nat} {l : List UInt8} {w : World} (h : Bld B b l w) : b < w.heap.size := by
  rcases h with h | h <;> exact h.lt

theorem bld_later {B b : Nat} {l : List UInt8} {w w' : World} (h : Bld B b l w) (hb : Below w.heap.size w w') : Bld B b l w' := by
  have key : ∀ p, Lib.BuilderAt 97 5 B b p (Lib.byteCells l) w → Lib.BuilderAt 97 5 B b p (Lib.byteCells l) w' := by
    rintro p ⟨h1, v, h2, h3, h4⟩
    have hlt : b < w.heap.size := (Array.getElem?_eq_some_iff.1 h2).1
    exact ⟨h1, v, (hb.block b hlt).trans h2, own_below h3 hb (fun k hk => (h3.lt k hk).2), h4⟩
  exact h.imp (key _) (key _)

set_option maxHeartbeats 12800000 in
set_option maxRecDepth 100000 in
/-- the loop over the limbs, the highest one first -/
theorem pdigits_any (a : Option Addr) (c : Nat) (xs : List Int) (n : Int) (w : World) (h : Sl w.heap.size w a c xs) (hx : xs = Ldigs n.natAbs) (ht : Tabs w) (hl : xs.length ≤ 1000) :
    Calls Tryz.prog 59 #[.agg #[.bool (decide (n < 0)), .slice a xs.length c]] w (OutV w (.string ⟨(numT n).toArray⟩)) := by
  obtain ⟨s, hs⟩ : ∃ s, s = decide (n < 0) := ⟨_, rfl⟩
  rw [← hs]
  have hba : Below w.heap.size w (w.alloc (.cells #[.bool s, .slice a xs.length c] 50)) := (Below.refl _ _).alloc (Nat.le_refl _) _
  by_cases h0 : n = 0
  · have hx0 : xs = [] := by rw [hx, h0]; simp [Ldigs_zero]
    have HT := Lib.hid (show numT n = [48] from by rw [h0]; simp [numT, textOf, digs_zero])
    have Z := Lib.hid (isz_val a xs.length c true (by rw [hx0]; rfl))
    clear hs h0 hx hx0 h ht
    go_enter Tryz.func59, Tryz.ntmps59
    go_wp2_with fail
    refine (Z.out _).mono ?_
    rintro e w2 ⟨rfl, rfl⟩
    go_wp2
    go_ret
    exact ⟨by rw [HT.out]; rfl, hba⟩
  · have hx0 : 0 < xs.length := by rw [hx]; exact Ldigs_ne (by omega)
    have Z := Lib.hid (isz_val a xs.length c false (decide_eq_false (by omega)))
    have HN := Lib.hid (numT_sg h0 hs)
    have HALL := Lib.hid (topT_all hx (by omega))
    have HC := Lib.hid (show LCanon xs from by rw [hx]; exact Lcanon_digs _)
    have HS := Lib.hid h
    have HT := Lib.hid ht
    obtain ⟨N, hNN⟩ : ∃ N, N = w.heap.size := ⟨_, rfl⟩
    obtain ⟨W, hW⟩ : ∃ W, W = (w.alloc (.cells #[.bool s, .slice a xs.length c] 50)).alloc (.cells #[.pointer none, .slice none 0 0] 97) := ⟨_, rfl⟩
    have hBld : Bld (w.heap.size + 1) (w.heap.size + 1) [] W := by
      have := bld_new (w.alloc (.cells #[.bool s, .slice a xs.length c] 50))
      rw [← hW] at this
      simpa using this
    have hbW : Below w.heap.size w W := by rw [hW]; exact hba.alloc (by simp) _
    have hWs : W.heap.size = w.heap.size + 2 := by rw [hW]; simp
    have hbox := cells2 (W := w.alloc (.cells #[.bool s, .slice a xs.length c] 50)) (heap_alloc_new w _)
    have hbox0 : W.cell? ⟨w.heap.size, 0, none⟩ = some (.bool s) := by rw [hW, World.cell?_alloc_past _ _ _ (by simp)]; exact hbox.1
    have hbox1 : W.cell? ⟨w.heap.size, 1, none⟩ = some (.slice a xs.length c) := by rw [hW, World.cell?_alloc_past _ _ _ (by simp)]; exact hbox.2.1
    have HW := Lib.hid hW
    have HWS := Lib.hid hWs
    have HB0 := Lib.hid hBld
    have HX0 := Lib.hid hbox0
    have HX1 := Lib.hid hbox1
    clear hx h ht h0 hs hba hBld hWs hbox hbox0 hbox1 hW hNN
    go_enter Tryz.func59, Tryz.ntmps59
    go_wp2_with fail
    refine (Z.out _).mono ?_
    rintro e w2 ⟨rfl, rfl⟩
    cases s
    · have hb0 := HX0.out
      have hb1 := HX1.out
      have hbld := HB0.out
      have hb2 := hbW
      have hsz2 : w.heap.size + 1 < W.heap.size := by have := HWS.out; omega
      go_wp2_with fail
      rw [← HW.out]
      clear hb0 hb1
      have hs2 : Sl W.heap.size W a c xs := HS.out.later hb2
      have P := Lib.hid (prev_any a c xs W hs2 (by omega))
      have HBD := Lib.hid hbld
      have HSZ := Lib.hid hsz2
      clear hs2 hbld hsz2
      refine P.out.mono ?_
      rintro e w4 ⟨a4, c4, rfl, hS4, hb4, hn4, hty4⟩
      have hbl4 := hb2.trans (hb4.mono hb2.size)
      have HB4 := Lib.hid (show Bld (w.heap.size + 1) (w.heap.size + 1) (sgT false) w4 from bld_later HBD.out hb4)
      have HNE := Lib.hid (fun p (hp : a4 = some p) => show p.block ≠ w.heap.size + 1 by have h1 := hn4.out p hp; have h2 := HSZ.out; omega)
      have HS4 := Lib.hid hS4
      have HRL := Lib.hid (show xs.reverse.length = xs.length from List.length_reverse)
      clear hb2 hb4 hS4 hn4
      go_wp2_with fail
      go_loopw [17] (fun i wr => ∃ k : Nat, i = .int .i64 k ∧ k ≤ xs.length ∧ Hid (Bld (w.heap.size + 1) (w.heap.size + 1) (sgT false ++ topT xs k) wr) ∧ Hid (Sl wr.heap.size wr a4 c4 xs.reverse) ∧ Hid (Typed wr a4) ∧ Below w.heap.size w wr)
        (fun i _ => xs.length - (intOf i).toNat)
      case atStart => exact ⟨0, rfl, Nat.zero_le _, Lib.hid (by rw [show topT xs 0 = [] from rfl, List.append_nil]; exact HB4.out), HS4, hty4, hbl4⟩
      case round =>
        obtain ⟨k, rfl, hk, hbk, hsk, htk, hbl⟩ := hrel
        clear hbl4
        by_cases hkL : k < xs.length
        · obtain ⟨b4, o4, ha4, hI4⟩ := hsk.out.some (by rw [HRL.out]; omega)
          subst ha4
          obtain ⟨d, hd⟩ : ∃ d : Nat, (d : Int) = xs.getD (xs.length - 1 - k) 0 := ⟨(xs.getD (xs.length - 1 - k) 0).toNat, by have := HC.out.1.getD (xs.length - 1 - k); omega⟩
          have hd9 : d < 10000 := by have := HC.out.1.getD (xs.length - 1 - k); omega
          have cd : wr.cell? ⟨b4, o4 + k, none⟩ = some (.int .i64 (d : Int)) := by
            rw [hI4.cell.2.2.2.2 k (by rw [HRL.out]; exact hkL), hd, rev_getD hkL]
          have hcc := hI4.cell.2.2.1
          have hcm := hI4.cell.2.2.2.1
          unfold maxLen at hcm
          have hwN : w.heap.size + 1 ≤ wr.heap.size := by have := bld_lt hbk.out; omega
          have hwr1 : w.heap.size + 1 < wr.heap.size := by
            have := bld_lt hbk.out
            omega
          have IT0 := itoa_b (d : Int) wr (by omega) (by omega) (HT.out.later hbl)
          rw [itoa_nat] at IT0
          have IT := Lib.hid IT0
          have F4 := Lib.hid (four_dec hd9)
          obtain ⟨st, hst⟩ : ∃ st : ByteArray, st = ⟨(Lib.decDigits d).toArray⟩ := ⟨_, rfl⟩
          rw [← hst] at IT
          have hst1 : st.data.toList = Lib.decDigits d := by rw [hst]
          have hst4 : st.size ≤ 4 := by have := F4.out.1; rw [← hst1] at this; simpa using this
          have HST := Lib.hid hst1
          have HLE := Lib.hid (show (sgT false ++ topT xs k).length ≤ 10000 from by
            have h1 := topT_len HC.out.1 k (by omega)
            rw [List.length_append]
            have h2 : (sgT false).length ≤ 1 := by decide
            omega)
          have HDD := Lib.hid hd
          clear hd hst hst1 IT0 hI4
          go_wp2_with fail
          refine IT.out.mono ?_
          rintro e w5 ⟨rfl, hb5⟩
          have hbl5 := hbl.trans (hb5.mono hbl.size)
          have HB5 := Lib.hid (bld_later hbk.out hb5)
          have HS5 := Lib.hid (hsk.out.later hb5)
          have HT5 := Lib.hid (htk.out.later hb5)
          have hw5 : w.heap.size + 1 ≤ w5.heap.size := by have := hb5.size; omega
          clear hbl hb5 cd
          rcases Nat.eq_zero_or_pos k with rfl | hk0
          · have PW := Lib.hid (pwrite_any (w.heap.size + 1) (w.heap.size + 1) _ st w5 HB5.out (by have := HLE.out; omega) (by omega) hw5)
            go_wp2_with fail
            refine PW.out.mono ?_
            rintro e w6 ⟨rfl, hbd6, hb6, hk6⟩
            have HBD6 := Lib.hid hbd6
            have HS6 := Lib.hid (HS5.out.kept HT5.out hk6 HNE.out hb6.size)
            have HT6 := Lib.hid (HT5.out.kept hk6 HNE.out)
            have hbl6 := hbl5.trans (hb6.mono (by omega))
            clear hbd6 hk6
            go_wp2
            go_roundw
            case rel => exact ⟨0 + 1, by go_num, by omega, Lib.hid (by
              have h1 := HBD6.out
              rw [HST.out, show topT xs 0 = [] from rfl, List.append_nil] at h1
              rw [Nat.zero_add, topT_one HC.out hkL (by have := HDD.out; simpa using this)]
              exact h1), HS6, HT6, hbl6⟩
            case measure => simp [intOf]; omega
          · have hkp : (0 : Int) < (k : Int) := by omega
            obtain ⟨z, hz⟩ : ∃ z, z = 4 - st.size := ⟨_, rfl⟩
            have hz2 : (4 : Int) - (st.size : Int) = (z : Int) := by omega
            have RP := Lib.hid (rep_b z w5 (by omega))
            have HZ := Lib.hid (show z = 4 - (Lib.decDigits d).length from by rw [hz, ← HST.out]; simp)
            obtain ⟨zt, hzt⟩ : ∃ zt : ByteArray, zt = ⟨(Lib.repeatL [48] z).toArray⟩ := ⟨_, rfl⟩
            rw [← hzt] at RP
            have HZT := Lib.hid (show zt.data.toList = Lib.repeatL [48] z from by rw [hzt])
            have hzt4 : zt.size ≤ 4 := by
              have h1 : zt.size = zt.data.toList.length := by simp
              rw [h1, HZT.out, Lib.repeatL_length]; simp; omega
            clear hz hzt
            go_wp2_with fail
            refine RP.out.mono ?_
            rintro e w6 ⟨rfl, hb6⟩
            have hbl6 := hbl5.trans (hb6.mono hbl5.size)
            have HB6 := Lib.hid (bld_later HB5.out hb6)
            have HS6 := Lib.hid (HS5.out.later hb6)
            have HT6 := Lib.hid (HT5.out.later hb6)
            have hw6 : w.heap.size + 1 ≤ w6.heap.size := by have := hb6.size; omega
            have PW := Lib.hid (pwrite_any (w.heap.size + 1) (w.heap.size + 1) _ zt w6 HB6.out (by have := HLE.out; omega) (by omega) hw6)
            clear hbl5 hb6 hz2
            go_wp2_with fail
            refine PW.out.mono ?_
            rintro e w7 ⟨rfl, hbd7, hb7, hk7⟩
            have HBD7 := Lib.hid hbd7
            have HS7 := Lib.hid (HS6.out.kept HT6.out hk7 HNE.out hb7.size)
            have HT7 := Lib.hid (HT6.out.kept hk7 HNE.out)
            have hbl7 := hbl6.trans (hb7.mono (by omega))
            have hw7 : w.heap.size + 1 ≤ w7.heap.size := by have := hb7.size; omega
            have PW2 := Lib.hid (pwrite_any (w.heap.size + 1) (w.heap.size + 1) _ st w7 HBD7.out (len_add HLE.out hzt4) (by omega) hw7)
            clear hbd7 hk7 hbl6 hb7
            go_wp2_with fail
            refine PW2.out.mono ?_
            rintro e w8 ⟨rfl, hbd8, hb8, hk8⟩
            have HBD8 := Lib.hid hbd8
            have HS8 := Lib.hid (HS7.out.kept HT7.out hk8 HNE.out hb8.size)
            have HT8 := Lib.hid (HT7.out.kept hk8 HNE.out)
            have hbl8 := hbl7.trans (hb8.mono (by omega))
            clear hbd8 hk8 hbl7 hb8
            go_wp2
            go_roundw
            case rel => exact ⟨k + 1, by go_num, by omega, Lib.hid (by
              have h1 := HBD8.out
              rw [HST.out, HZT.out, HZ.out] at h1
              rw [topT_succ HC.out hk0 hkL HDD.out hd9]
              simpa [List.append_assoc] using h1), HS8, HT8, hbl8⟩
            case measure => simp [intOf]; omega
        · obtain rfl : k = xs.length := by omega
          have hw1 : w.heap.size + 1 ≤ wr.heap.size := by have := bld_lt hbk.out; omega
          have ST := Lib.hid (pstring_any (w.heap.size + 1) (w.heap.size + 1) _ wr hbk.out hw1)
          go_wp2_with fail
          refine ST.out.mono ?_
          rintro e w5 ⟨rfl, hb5⟩
          have hbl5 := hbl.trans (hb5.mono (by omega))
          go_wp2
          go_ret
          exact ⟨by rw [HN.out, ← HALL.out]; rfl, hbl5⟩
    · have hb0 := HX0.out
      have hb1 := HX1.out
      have PB := Lib.hid (pbyte_any (w.heap.size + 1) (w.heap.size + 1) [] 45 W HB0.out (by simp) (by have := HWS.out; omega))
      go_wp2_with fail
      rw [← HW.out]
      refine PB.out.mono ?_
      rintro e w3 ⟨rfl, hbld, hbb, hkk⟩
      have hb2 := hbW.trans (hbb.mono (by omega))
      have hc1 : w3.cell? ⟨w.heap.size, 1, none⟩ = some (.slice a xs.length c) := (hbb.cell (p := ⟨w.heap.size, 1, none⟩) (by simp)).trans HX1.out
      have hsz2 : w.heap.size + 1 < w3.heap.size := by have := HWS.out; have := hbb.size; omega
      clear hb0 hb1 hkk hbb
      go_wp2_with fail
      clear hc1
      have hs2 : Sl w3.heap.size w3 a c xs := HS.out.later hb2
      have P := Lib.hid (prev_any a c xs w3 hs2 (by omega))
      have HBD := Lib.hid hbld
      have HSZ := Lib.hid hsz2
      clear hs2 hbld hsz2
      refine P.out.mono ?_
      rintro e w4 ⟨a4, c4, rfl, hS4, hb4, hn4, hty4⟩
      have hbl4 := hb2.trans (hb4.mono hb2.size)
      have HB4 := Lib.hid (show Bld (w.heap.size + 1) (w.heap.size + 1) (sgT true) w4 from bld_later HBD.out hb4)
      have HNE := Lib.hid (fun p (hp : a4 = some p) => show p.block ≠ w.heap.size + 1 by have h1 := hn4.out p hp; have h2 := HSZ.out; omega)
      have HS4 := Lib.hid hS4
      have HRL := Lib.hid (show xs.reverse.length = xs.length from List.length_reverse)
      clear hb2 hb4 hS4 hn4
      go_wp2_with fail
      go_loopw [17] (fun i wr => ∃ k : Nat, i = .int .i64 k ∧ k ≤ xs.length ∧ Hid (Bld (w.heap.size + 1) (w.heap.size + 1) (sgT true ++ topT xs k) wr) ∧ Hid (Sl wr.heap.size wr a4 c4 xs.reverse) ∧ Hid (Typed wr a4) ∧ Below w.heap.size w wr)
        (fun i _ => xs.length - (intOf i).toNat)
      case atStart => exact ⟨0, rfl, Nat.zero_le _, Lib.hid (by rw [show topT xs 0 = [] from rfl, List.append_nil]; exact HB4.out), HS4, hty4, hbl4⟩
      case round =>
        obtain ⟨k, rfl, hk, hbk, hsk, htk, hbl⟩ := hrel
        clear hbl4
        by_cases hkL : k < xs.length
        · obtain ⟨b4, o4, ha4, hI4⟩ := hsk.out.some (by rw [HRL.out]; omega)
          subst ha4
          obtain ⟨d, hd⟩ : ∃ d : Nat, (d : Int) = xs.getD (xs.length - 1 - k) 0 := ⟨(xs.getD (xs.length - 1 - k) 0).toNat, by have := HC.out.1.getD (xs.length - 1 - k); omega⟩
          have hd9 : d < 10000 := by have := HC.out.1.getD (xs.length - 1 - k); omega
          have cd : wr.cell? ⟨b4, o4 + k, none⟩ = some (.int .i64 (d : Int)) := by
            rw [hI4.cell.2.2.2.2 k (by rw [HRL.out]; exact hkL), hd, rev_getD hkL]
          have hcc := hI4.cell.2.2.1
          have hcm := hI4.cell.2.2.2.1
          unfold maxLen at hcm
          have hwN : w.heap.size + 1 ≤ wr.heap.size := by have := bld_lt hbk.out; omega
          have hwr1 : w.heap.size + 1 < wr.heap.size := by
            have := bld_lt hbk.out
            omega
          have IT0 := itoa_b (d : Int) wr (by omega) (by omega) (HT.out.later hbl)
          rw [itoa_nat] at IT0
          have IT := Lib.hid IT0
          have F4 := Lib.hid (four_dec hd9)
          obtain ⟨st, hst⟩ : ∃ st : ByteArray, st = ⟨(Lib.decDigits d).toArray⟩ := ⟨_, rfl⟩
          rw [← hst] at IT
          have hst1 : st.data.toList = Lib.decDigits d := by rw [hst]
          have hst4 : st.size ≤ 4 := by have := F4.out.1; rw [← hst1] at this; simpa using this
          have HST := Lib.hid hst1
          have HLE := Lib.hid (show (sgT true ++ topT xs k).length ≤ 10000 from by
            have h1 := topT_len HC.out.1 k (by omega)
            rw [List.length_append]
            have h2 : (sgT true).length ≤ 1 := by decide
            omega)
          have HDD := Lib.hid hd
          clear hd hst hst1 IT0 hI4
          go_wp2_with fail
          refine IT.out.mono ?_
          rintro e w5 ⟨rfl, hb5⟩
          have hbl5 := hbl.trans (hb5.mono hbl.size)
          have HB5 := Lib.hid (bld_later hbk.out hb5)
          have HS5 := Lib.hid (hsk.out.later hb5)
          have HT5 := Lib.hid (htk.out.later hb5)
          have hw5 : w.heap.size + 1 ≤ w5.heap.size := by have := hb5.size; omega
          clear hbl hb5 cd
          rcases Nat.eq_zero_or_pos k with rfl | hk0
          · have PW := Lib.hid (pwrite_any (w.heap.size + 1) (w.heap.size + 1) _ st w5 HB5.out (by have := HLE.out; omega) (by omega) hw5)
            go_wp2_with fail
            refine PW.out.mono ?_
            rintro e w6 ⟨rfl, hbd6, hb6, hk6⟩
            have HBD6 := Lib.hid hbd6
            have HS6 := Lib.hid (HS5.out.kept HT5.out hk6 HNE.out hb6.size)
            have HT6 := Lib.hid (HT5.out.kept hk6 HNE.out)
            have hbl6 := hbl5.trans (hb6.mono (by omega))
            clear hbd6 hk6
            go_wp2
            go_roundw
            case rel => exact ⟨0 + 1, by go_num, by omega, Lib.hid (by
              have h1 := HBD6.out
              rw [HST.out, show topT xs 0 = [] from rfl, List.append_nil] at h1
              rw [Nat.zero_add, topT_one HC.out hkL (by have := HDD.out; simpa using this)]
              exact h1), HS6, HT6, hbl6⟩
            case measure => simp [intOf]; omega
          · have hkp : (0 : Int) < (k : Int) := by omega
            obtain ⟨z, hz⟩ : ∃ z, z = 4 - st.size := ⟨_, rfl⟩
            have hz2 : (4 : Int) - (st.size : Int) = (z : Int) := by omega
            have RP := Lib.hid (rep_b z w5 (by omega))
            have HZ := Lib.hid (show z = 4 - (Lib.decDigits d).length from by rw [hz, ← HST.out]; simp)
            obtain ⟨zt, hzt⟩ : ∃ zt : ByteArray, zt = ⟨(Lib.repeatL [48] z).toArray⟩ := ⟨_, rfl⟩
            rw [← hzt] at RP
            have HZT := Lib.hid (show zt.data.toList = Lib.repeatL [48] z from by rw [hzt])
            have hzt4 : zt.size ≤ 4 := by
              have h1 : zt.size = zt.data.toList.length := by simp
              rw [h1, HZT.out, Lib.repeatL_length]; simp; omega
            clear hz hzt
            go_wp2_with fail
            refine RP.out.mono ?_
            rintro e w6 ⟨rfl, hb6⟩
            have hbl6 := hbl5.trans (hb6.mono hbl5.size)
            have HB6 := Lib.hid (bld_later HB5.out hb6)
            have HS6 := Lib.hid (HS5.out.later hb6)
            have HT6 := Lib.hid (HT5.out.later hb6)
            have hw6 : w.heap.size + 1 ≤ w6.heap.size := by have := hb6.size; omega
            have PW := Lib.hid (pwrite_any (w.heap.size + 1) (w.heap.size + 1) _ zt w6 HB6.out (by have := HLE.out; omega) (by omega) hw6)
            clear hbl5 hb6 hz2
            go_wp2_with fail
            refine PW.out.mono ?_
            rintro e w7 ⟨rfl, hbd7, hb7, hk7⟩
            have HBD7 := Lib.hid hbd7
            have HS7 := Lib.hid (HS6.out.kept HT6.out hk7 HNE.out hb7.size)
            have HT7 := Lib.hid (HT6.out.kept hk7 HNE.out)
            have hbl7 := hbl6.trans (hb7.mono (by omega))
            have hw7 : w.heap.size + 1 ≤ w7.heap.size := by have := hb7.size; omega
            have PW2 := Lib.hid (pwrite_any (w.heap.size + 1) (w.heap.size + 1) _ st w7 HBD7.out (len_add HLE.out hzt4) (by omega) hw7)
            clear hbd7 hk7 hbl6 hb7
            go_wp2_with fail
            refine PW2.out.mono ?_
            rintro e w8 ⟨rfl, hbd8, hb8, hk8⟩
            have HBD8 := Lib.hid hbd8
            have HS8 := Lib.hid (HS7.out.kept HT7.out hk8 HNE.out hb8.size)
            have HT8 := Lib.hid (HT7.out.kept hk8 HNE.out)
            have hbl8 := hbl7.trans (hb8.mono (by omega))
            clear hbd8 hk8 hbl7 hb8
            go_wp2
            go_roundw
            case rel => exact ⟨k + 1, by go_num, by omega, Lib.hid (by
              have h1 := HBD8.out
              rw [HST.out, HZT.out, HZ.out] at h1
              rw [topT_succ HC.out hk0 hkL HDD.out hd9]
              simpa [List.append_assoc] using h1), HS8, HT8, hbl8⟩
            case measure => simp [intOf]; omega
        · obtain rfl : k = xs.length := by omega
          have hw1 : w.heap.size + 1 ≤ wr.heap.size := by have := bld_lt hbk.out; omega
          have ST := Lib.hid (pstring_any (w.heap.size + 1) (w.heap.size + 1) _ wr hbk.out hw1)
          go_wp2_with fail
          refine ST.out.mono ?_
          rintro e w5 ⟨rfl, hb5⟩
          have hbl5 := hbl.trans (hb5.mono (by omega))
          go_wp2
          go_ret
          exact ⟨by rw [HN.out, ← HALL.out]; rfl, hbl5⟩

end Go.Proofs.YtebejllehbpahaaGreatDoor

/- The answers of layer 8 as plain functions of texts. -/
namespace Go.Proofs.YtebejllehbpahaaGreatDoor
open Go.RowKit Go.Proofs.ArM

/-- a text and a code -/
def OutT (w : World) (r : List UInt8 × Int) (e : Ending) (w' : World) : Prop := e = .returned (.tuple #[.string ⟨r.1.toArray⟩, .int .i64 r.2]) ∧ Below w.heap.size w w'

theorem outT_of {w w' : World} {r : List UInt8 × Int} {s : ByteArray} {c : Int} (h1 : s = ⟨r.1.toArray⟩) (h2 : c = r.2) (hb : Below w.heap.size w w') : OutT w r (.returned (.tuple #[.string s, .int .i64 c])) w' := ⟨by rw [h1, h2], hb⟩

def addR (a b : List UInt8) : List UInt8 × Int := if validB a && validB b then resB (numOf a + numOf b) else ([], 2)

def negR (a : List UInt8) : List UInt8 × Int := if validB a then resB (-numOf a) else ([], 2)

theorem num_len {l : List UInt8} (h : validB l = true) : (digs (numOf l).natAbs).length ≤ 500 := (valid_text h).2

theorem sum_len {m n : Int} (hm : (digs m.natAbs).length ≤ 500) (hn : (digs n.natAbs).length ≤ 500) : (digs (m + n).natAbs).length ≤ 501 := by
  apply digs_len
  have h1 := digs_lt m.natAbs
  have h2 := digs_lt n.natAbs
  have h3 := p10_mono hm
  have h4 := p10_mono hn
  rw [p10]
  omega

def subR (a b : List UInt8) : List UInt8 × Int := if validB a && validB b then resB (numOf a - numOf b) else ([], 2)

def cmpR (a b : List UInt8) : Int × Int := if validB a && validB b then (ordZ (numOf a) (numOf b), 0) else (0, 2)

/-- a number and a code -/
def OutN (w : World) (r : Int × Int) (e : Ending) (w' : World) : Prop := e = .returned (.tuple #[.int .i64 r.1, .int .i64 r.2]) ∧ Below w.heap.size w w'

theorem outN_of {w w' : World} {r : Int × Int} {n c : Int} (h1 : n = r.1) (h2 : c = r.2) (hb : Below w.heap.size w w') : OutN w r (.returned (.tuple #[.int .i64 n, .int .i64 c])) w' := ⟨by rw [h1, h2], hb⟩

def mulR (a b : List UInt8) : List UInt8 × Int := if validB a && validB b then resB (numOf a * numOf b) else ([], 2)

theorem mul_len {m n : Int} (hm : (digs m.natAbs).length ≤ 500) (hn : (digs n.natAbs).length ≤ 500) : (digs (m * n).natAbs).length ≤ 1000 := by
  apply digs_len
  have h1 := digs_lt m.natAbs
  have h2 := digs_lt n.natAbs
  have h3 := p10_mono hm
  have h4 := p10_mono hn
  have e : p10 1000 = p10 500 * p10 500 := p10_add 500 500
  rw [e, Int.natAbs_mul, Int.natCast_mul]
  have hp := p10_pos 500
  have a1 : (m.natAbs : Int) * n.natAbs ≤ (p10 500 - 1) * n.natAbs := Int.mul_le_mul_of_nonneg_right (by omega) (by omega)
  have a2 : (p10 500 - 1) * (n.natAbs : Int) ≤ (p10 500 - 1) * (p10 500 - 1) := Int.mul_le_mul_of_nonneg_left (by omega) (by omega)
  have a3 : (p10 500 - 1) * (p10 500 - 1) = p10 500 * p10 500 - p10 500 - (p10 500 - 1) := by rw [Int.sub_mul, Int.mul_sub]; omega
  omega

theorem mul_sign (m n : Int) : (if (decide (m < 0) != decide (n < 0)) = true then -((m.natAbs * n.natAbs : Nat) : Int) else ((m.natAbs * n.natAbs : Nat) : Int)) = m * n := by
  rw [Int.natCast_mul]
  by_cases hm : m < 0 <;> by_cases hn : n < 0
  · have e1 : (m.natAbs : Int) = -m := by omega
    have e2 : (n.natAbs : Int) = -n := by omega
    simp [hm, hn, e1, e2, Int.neg_mul_neg]
  · have e1 : (m.natAbs : Int) = -m := by omega
    have e2 : (n.natAbs : Int) = n := by omega
    simp [hm, hn, e1, e2, Int.neg_mul]
  · have e1 : (m.natAbs : Int) = m := by omega
    have e2 : (n.natAbs : Int) = -n := by omega
    simp [hm, hn, e1, e2, Int.mul_neg]
  · have e1 : (m.natAbs : Int) = m := by omega
    have e2 : (n.natAbs : Int) = n := by omega
    simp [hm, hn, e1, e2]

/-- two texts and a code -/
def divR (a b : List UInt8) : List UInt8 × List UInt8 × Int :=
  if validB a && validB b then (if numOf b = 0 then ([], [], 100) else (numT ((numOf a).tdiv (numOf b)), numT ((numOf a).tmod (numOf b)), 0)) else ([], [], 2)

def OutTT (w : World) (r : List UInt8 × List UInt8 × Int) (e : Ending) (w' : World) : Prop :=
  e = .returned (.tuple #[.string ⟨r.1.toArray⟩, .string ⟨r.2.1.toArray⟩, .int .i64 r.2.2]) ∧ Below w.heap.size w w'

theorem outTT_of {w w' : World} {r : List UInt8 × List UInt8 × Int} {s t : ByteArray} {c : Int} (h1 : s = ⟨r.1.toArray⟩) (h2 : t = ⟨r.2.1.toArray⟩) (h3 : c = r.2.2) (hb : Below w.heap.size w w') : OutTT w r (.returned (.tuple #[.string s, .string t, .int .i64 c])) w' := ⟨by rw [h1, h2, h3], hb⟩

theorem zero_text {l : List UInt8} (h : validB l = true) : (l == [48]) = decide (numOf l = 0) := by
  rw [Bool.eq_iff_iff, beq_iff_eq, decide_eq_true_eq]
  constructor
  · rintro rfl; simp [numOf, digsOf, val, dv]
  · intro e
    have := (valid_text h).1
    rw [e] at this
    rw [this]; simp [numT, textOf, digs_zero]

theorem div_signs (m n : Int) :
    (if (decide (m < 0) != decide (n < 0)) = true then -((m.natAbs / n.natAbs : Nat) : Int) else ((m.natAbs / n.natAbs : Nat) : Int)) = m.tdiv n ∧
    (if decide (m < 0) = true then -((m.natAbs % n.natAbs : Nat) : Int) else ((m.natAbs % n.natAbs : Nat) : Int)) = m.tmod n := by
  have key : ∀ a b : Nat, ((a : Int).tdiv b = ((a / b : Nat) : Int)) ∧ ((a : Int).tmod b = ((a % b : Nat) : Int)) := fun a b => by
    refine ⟨?_, ?_⟩
    · rw [Int.tdiv_eq_ediv_of_nonneg (by omega)]; exact (Int.natCast_ediv a b).symm
    · rw [Int.tmod_eq_emod_of_nonneg (by omega)]; exact (Int.natCast_emod a b).symm
  by_cases hm : m < 0 <;> by_cases hn0 : n < 0
  · obtain ⟨a, rfl⟩ : ∃ a : Nat, m = -(a : Int) := ⟨m.natAbs, by omega⟩
    obtain ⟨b, rfl⟩ : ∃ b : Nat, n = -(b : Int) := ⟨n.natAbs, by omega⟩
    have := key a b
    refine ⟨?_, ?_⟩
    · rw [decide_eq_true hm, decide_eq_true hn0, Int.neg_tdiv, Int.tdiv_neg, Int.neg_neg, this.1]; simp
    · rw [decide_eq_true hm, Int.neg_tmod, Int.tmod_neg, this.2]; simp
  · obtain ⟨a, rfl⟩ : ∃ a : Nat, m = -(a : Int) := ⟨m.natAbs, by omega⟩
    obtain ⟨b, rfl⟩ : ∃ b : Nat, n = (b : Int) := ⟨n.natAbs, by omega⟩
    have := key a b
    refine ⟨?_, ?_⟩
    · rw [decide_eq_true hm, decide_eq_false hn0, Int.neg_tdiv, this.1]; simp
    · rw [decide_eq_true hm, Int.neg_tmod, this.2]; simp
  · obtain ⟨a, rfl⟩ : ∃ a : Nat, m = (a : Int) := ⟨m.natAbs, by omega⟩
    obtain ⟨b, rfl⟩ : ∃ b : Nat, n = -(b : Int) := ⟨n.natAbs, by omega⟩
    have := key a b
    refine ⟨?_, ?_⟩
    · rw [decide_eq_false hm, decide_eq_true hn0, Int.tdiv_neg, this.1]; simp
    · rw [decide_eq_false hm, Int.tmod_neg, this.2]; simp
  · obtain ⟨a, rfl⟩ : ∃ a : Nat, m = (a : Int) := ⟨m.natAbs, by omega⟩
    obtain ⟨b, rfl⟩ : ∃ b : Nat, n = (b : Int) := ⟨n.natAbs, by omega⟩
    have := key a b
    refine ⟨?_, ?_⟩
    · rw [decide_eq_false hm, decide_eq_false hn0, this.1]; simp
    · rw [decide_eq_false hm, this.2]; simp

def powR (a : List UInt8) (n : Int) : List UInt8 × Int :=
  if validB a then (if n < 0 then ([], 101) else (if (digs ((numOf a).natAbs ^ n.toNat)).length ≤ 500 then (numT (numOf a ^ n.toNat), 0) else ([], 7))) else ([], 2)

theorem odd_say (k : Nat) : ((k : Int) % 2 == 1) = decide (k % 2 = 1) := by
  rw [Bool.eq_iff_iff, beq_iff_eq, decide_eq_true_eq]; omega

theorem pow_sign (m : Int) (k : Nat) : (if (decide (m < 0) && decide (k % 2 = 1)) = true then -((m.natAbs ^ k : Nat) : Int) else ((m.natAbs ^ k : Nat) : Int)) = m ^ k := by
  have key : ∀ a j : Nat, (-(a : Int)) ^ j = if j % 2 = 1 then -((a ^ j : Nat) : Int) else ((a ^ j : Nat) : Int) := fun a j => by
    induction j with
    | zero => simp
    | succ j ih =>
      rw [Int.pow_succ, ih]
      rcases Nat.mod_two_eq_zero_or_one j with h | h
      · rw [if_neg (by omega), if_pos (by omega), Nat.pow_succ, Int.natCast_mul, Int.mul_neg]
      · rw [if_pos h, if_neg (by omega), Nat.pow_succ, Int.natCast_mul, Int.neg_mul_neg]
  by_cases hm : m < 0
  · obtain ⟨a, rfl⟩ : ∃ a : Nat, m = -(a : Int) := ⟨m.natAbs, by omega⟩
    have h0 : 0 < a := by omega
    rw [key a k]
    simp [h0]
  · obtain ⟨a, rfl⟩ : ∃ a : Nat, m = (a : Int) := ⟨m.natAbs, by omega⟩
    rw [decide_eq_false hm]; simp

def gcdR (a b : List UInt8) : List UInt8 × Int := if validB a && validB b then (numT (Nat.gcd (numOf a).natAbs (numOf b).natAbs : Nat), 0) else ([], 2)

theorem numT_nat (g : Nat) : numT (g : Int) = textOf false (digs g) := by
  rw [numT, decide_eq_false (by omega), Int.natAbs_natCast]

def IsRoot (A n r : Nat) : Prop := r ^ n ≤ A ∧ A < (r + 1) ^ n

open Classical in
noncomputable def rootN (A n : Nat) : Nat := if h : ∃ r, IsRoot A n r then Classical.choose h else 0

theorem rootN_eq {A n r : Nat} (h : IsRoot A n r) : rootN A n = r := by
  have he : ∃ r, IsRoot A n r := ⟨r, h⟩
  have e : rootN A n = Classical.choose he := by unfold rootN; rw [dif_pos he]
  have hs := Classical.choose_spec he
  rw [e]
  rcases Nat.lt_trichotomy (Classical.choose he) r with hl | hl | hl
  · exact absurd (Nat.lt_of_lt_of_le hs.2 (Nat.le_trans (Nat.pow_le_pow_left hl n) h.1)) (Nat.lt_irrefl _)
  · exact hl
  · exact absurd (Nat.lt_of_lt_of_le h.2 (Nat.le_trans (Nat.pow_le_pow_left hl n) hs.1)) (Nat.lt_irrefl _)

noncomputable def rootR (a : List UInt8) (n : Int) : List UInt8 × Int :=
  if validB a then (if n < 1 ∨ 1000 < n then ([], 4) else if numOf a < 0 then ([], 101) else (numT (rootN (numOf a).natAbs n.toNat : Nat), 0)) else ([], 2)

theorem p10_nat (n : Nat) : p10 n = ((10 ^ n : Nat) : Int) := by
  induction n with
  | zero => rfl
  | succ n ih => rw [p10, ih, Nat.pow_succ]; omega

/-- the digits to a base, the highest one first -/
def baseDigs (b n : Nat) : List Int := if _h : n = 0 ∨ b < 2 then [] else baseDigs b (n / b) ++ [((n % b : Nat) : Int)]
termination_by n
decreasing_by exact Nat.div_lt_self (by omega) (by omega)

theorem baseDigs_zero (b : Nat) : baseDigs b 0 = [] := by rw [baseDigs]; simp

theorem baseDigs_pos {b n : Nat} (h : n ≠ 0) (hb : 2 ≤ b) : baseDigs b n = baseDigs b (n / b) ++ [((n % b : Nat) : Int)] := by
  rw [baseDigs, dif_neg (by omega)]

def digR (a : List UInt8) (n : Int) : List Int × Int :=
  if validB a then (if n < 2 ∨ 1000 < n then ([], 4) else if numOf a = 0 then ([0], 0) else (baseDigs n.toNat (numOf a).natAbs, 0)) else ([], 2)

/-- digits and a code: nothing at all beside an error -/
def OutDg (w : World) (r : List Int × Int) (e : Ending) (w' : World) : Prop :=
  (∃ b o c zs, e = .returned (.tuple #[.slice (some ⟨b, o, none⟩) zs.length c, .int .i64 0]) ∧ Ints w'.heap.size w' (.slice (some ⟨b, o, none⟩) zs.length c) zs ∧ Hid (r = (zs, 0)) ∧ Below w.heap.size w w') ∨
  (∃ c : Int, e = .returned (.tuple #[.slice none 0 0, .int .i64 c]) ∧ Hid (r = ([], c)) ∧ Below w.heap.size w w')

/-- the box of an integer, its digits, and all that lay before -/
def SubS (X n : Nat) (W : World) (p q : Value) (xs : List Int) (w' : World) : Prop :=
  w'.cell? ⟨X, 0, none⟩ = some p ∧ w'.cell? ⟨X, 1, none⟩ = some q ∧ Ints w'.heap.size w' q xs ∧ Below n W w' ∧ X < w'.heap.size

theorem subS_next {X n : Nat} {W wx wy : World} {p q : Value} {xs : List Int} (h : SubS X n W p q xs wx) (hb : Below wx.heap.size wx wy) (hn : n ≤ W.heap.size) : SubS X n W p q xs wy := by
  obtain ⟨h1, h2, h3, h4, h5⟩ := h
  exact ⟨(hb.cell (p := ⟨X, 0, none⟩) h5).trans h1, (hb.cell (p := ⟨X, 1, none⟩) h5).trans h2, h3.later hb, h4.trans (hb.mono (Nat.le_trans hn h4.size)), Nat.lt_of_lt_of_le h5 hb.size⟩

end Go.Proofs.YtebejllehbpahaaGreatDoor
