/- The law of the ring. -/
import Derived.Test.YtngnaofbndpadaaDoorLb
import Derived.Test.YtngnaofbndpadaaDoorLa
import Derived.Laws.EntriesVeiled
/- The law of the ring. -/
namespace Go.Proofs.YtngnaofbndpadaaDoor
open Go.RowKit Go.Proofs.ArM

set_option maxHeartbeats 3200000 in
set_option maxRecDepth 100000 in
theorem op_any (fid : Nat) (s t : ByteArray) (r : List UInt8) (w : World) (hE : ∀ args w, (callFunc fid args).run Tryd.prog w = .ok (.enter fid args) w) (hC : Calls Tryd.prog fid #[.string s, .string t] w (OutT w (r, 0))) :
    Calls Tryd.prog 21 #[.func (.func fid) #[] #[], .string s, .string t] w (OutV w (.string ⟨r.toArray⟩)) := by
  have HC := Lib.hid hC
  have HE := Lib.hid hE
  clear hC hE
  go_enter Tryd.func21, Tryd.ntmps21
  go_wp2_with fail
  rw [HE.out]
  refine HC.out.mono ?_
  rintro e w2 ⟨rfl, hb2⟩
  go_wp2
  go_ret
  exact ⟨rfl, hb2⟩

theorem add_enter (args : Array Value) (w : World) : (callFunc 23 args).run Tryd.prog w = .ok (.enter 23 args) w := by
  simp [callFunc, Tryd.func23]; rfl

set_option maxHeartbeats 3200000 in
set_option maxRecDepth 100000 in
theorem addC_any (s t : ByteArray) (r : List UInt8) (p : Nat) (w : World) (hp : w.cell? ⟨p, 0, none⟩ = some (.func (.func 21) #[] #[])) (hC : Calls Tryd.prog 23 #[.string s, .string t] w (OutT w (r, 0))) :
    Calls Tryd.prog 22 #[.string s, .string t, .pointer (some ⟨p, 0, none⟩)] w (OutV w (.string ⟨r.toArray⟩)) := by
  have I := Lib.hid (op_any 23 s t r w add_enter hC)
  clear hC
  go_enter Tryd.func22, Tryd.ntmps22
  go_wp2_with fail
  refine I.out.mono ?_
  rintro e w2 ⟨rfl, hb2⟩
  go_wp2
  go_ret
  exact ⟨rfl, hb2⟩

theorem mul_enter (args : Array Value) (w : World) : (callFunc 10 args).run Tryd.prog w = .ok (.enter 10 args) w := by
  simp [callFunc, Tryd.func10]; rfl

set_option maxHeartbeats 3200000 in
set_option maxRecDepth 100000 in
theorem mulC_any (s t : ByteArray) (r : List UInt8) (p : Nat) (w : World) (hp : w.cell? ⟨p, 0, none⟩ = some (.func (.func 21) #[] #[])) (hC : Calls Tryd.prog 10 #[.string s, .string t] w (OutT w (r, 0))) :
    Calls Tryd.prog 24 #[.string s, .string t, .pointer (some ⟨p, 0, none⟩)] w (OutV w (.string ⟨r.toArray⟩)) := by
  have I := Lib.hid (op_any 10 s t r w mul_enter hC)
  clear hC
  go_enter Tryd.func24, Tryd.ntmps24
  go_wp2_with fail
  refine I.out.mono ?_
  rintro e w2 ⟨rfl, hb2⟩
  go_wp2
  go_ret
  exact ⟨rfl, hb2⟩

theorem sub_enter (args : Array Value) (w : World) : (callFunc 26 args).run Tryd.prog w = .ok (.enter 26 args) w := by
  simp [callFunc, Tryd.func26]; rfl

theorem strs3 (w : World) (s t u : ByteArray) : Strs (w.alloc (.cells #[.string s, .string t, .string u] 9)) w.heap.size 0 [s, t, u] := by
  refine ⟨by simp, fun j hj => ?_⟩
  rcases j with _ | _ | _ | j
  · rw [World.cell?_alloc_at _ _ _ _ (by simp)]; rfl
  · rw [World.cell?_alloc_at _ _ _ _ (by simp)]; rfl
  · rw [World.cell?_alloc_at _ _ _ _ (by simp)]; rfl
  · simp at hj; omega

/-- what a short right text is -/
theorem num_short {s : ByteArray} (h : notNum s = false) : s.size ≤ 100 ∧ validB s.data.toList = true ∧ s = numB (numOf s.data.toList) ∧ Fits 100 (numOf s.data.toList) := by
  simp only [notNum, Bool.or_eq_false_iff, decide_eq_false_iff_not, Bool.not_eq_false'] at h
  refine ⟨by omega, h.2, num_of h.2, ?_⟩
  have e := (valid_text h.2).1
  apply len_text
  rw [← e]
  have : s.data.toList.length = s.size := Array.length_toList
  omega

def AddIs (x y z : ByteArray) : Prop := ∀ w, Tabs w → Calls Tryd.prog 23 #[.string x, .string y] w (OutT w (z.data.toList, 0))
def SubIs (x y z : ByteArray) : Prop := ∀ w, Tabs w → Calls Tryd.prog 26 #[.string x, .string y] w (OutT w (z.data.toList, 0))
def MulIs (x y z : ByteArray) : Prop := ∀ w, Tabs w → Calls Tryd.prog 10 #[.string x, .string y] w (OutT w (z.data.toList, 0))
def NegIs (x z : ByteArray) : Prop := ∀ w, Tabs w → Calls Tryd.prog 25 #[.string x] w (OutT w (z.data.toList, 0))
theorem addIs {m n k : Int} (hm : Fits 500 m) (hn : Fits 500 n) (hk : Fits 500 k) (h : m + n = k) : AddIs (numB m) (numB n) (numB k) := fun w hT => by
  subst h; rw [numB_list]; exact addN hm hn hk w hT
theorem subIs {m n k : Int} (hm : Fits 500 m) (hn : Fits 500 n) (hk : Fits 500 k) (h : m - n = k) : SubIs (numB m) (numB n) (numB k) := fun w hT => by
  subst h; rw [numB_list]; exact subN hm hn hk w hT
theorem mulIs {m n k : Int} (hm : Fits 500 m) (hn : Fits 500 n) (hk : Fits 500 k) (h : m * n = k) : MulIs (numB m) (numB n) (numB k) := fun w hT => by
  subst h; rw [numB_list]; exact mulN hm hn hk w hT
theorem negIs {m : Int} (hm : Fits 500 m) : NegIs (numB m) (numB (-m)) := fun w hT => by
  rw [numB_list]; exact negN hm w hT
theorem back (z : ByteArray) : (⟨z.data.toList.toArray⟩ : ByteArray) = z := by cases z; simp
def FuncCell (p : Nat) (w : World) : Prop := w.cell? ⟨p, 0, none⟩ = some (.func (.func 21) #[] #[]) ∧ Tabs w
theorem FuncCell.cell {p : Nat} {w : World} (h : FuncCell p w) : w.cell? ⟨p, 0, none⟩ = some (.func (.func 21) #[] #[]) := h.1
theorem FuncCell.tabs {p : Nat} {w : World} (h : FuncCell p w) : Tabs w := h.2
theorem addC (x y z : ByteArray) (p : Nat) (w : World) (h : AddIs x y z) (hp : FuncCell p w) : Calls Tryd.prog 22 #[.string x, .string y, .pointer (some ⟨p, 0, none⟩)] w (OutV w (.string z)) := by
  have := addC_any x y z.data.toList p w hp.cell (h w hp.tabs)
  rwa [back] at this
theorem mulC (x y z : ByteArray) (p : Nat) (w : World) (h : MulIs x y z) (hp : FuncCell p w) : Calls Tryd.prog 24 #[.string x, .string y, .pointer (some ⟨p, 0, none⟩)] w (OutV w (.string z)) := by
  have := mulC_any x y z.data.toList p w hp.cell (h w hp.tabs)
  rwa [back] at this
theorem FuncCell.later {p : Nat} {w w' : World} (h : FuncCell p w) (hb : Below w.heap.size w w') : FuncCell p w' := by
  refine ⟨?_, h.tabs.later hb⟩
  have h := h.cell
  rcases Nat.lt_or_ge p w.heap.size with hp | hp
  · exact (hb.cell (p := ⟨p, 0, none⟩) hp).trans h
  · exact absurd h (by simp [World.cell?, Array.getElem?_eq_none hp])
theorem subC (x y z : ByteArray) (w : World) (h : SubIs x y z) (hT : Tabs w) : Calls Tryd.prog 21 #[.func (.func 26) #[] #[], .string x, .string y] w (OutV w (.string z)) := by
  have := op_any 26 x y z.data.toList w sub_enter (h w hT)
  rwa [back] at this

/-- all that the law of the ring asks of three numbers -/
theorem ring_facts {a b c : Int} (ha : Fits 100 a) (hb : Fits 100 b) (hc : Fits 100 c) :
    ∃ S1 P1 T1 S2 Q1 P2 R1 P3 D1 N1 : ByteArray, Hid (NegIs (numB b) N1) ∧ Hid (AddIs (numB a) (numB b) S1) ∧ Hid (AddIs (numB b) (numB a) S1) ∧ Hid (MulIs (numB a) (numB b) P1) ∧ Hid (MulIs (numB b) (numB a) P1) ∧
      Hid (AddIs S1 (numB c) T1) ∧ Hid (AddIs (numB b) (numB c) S2) ∧ Hid (AddIs (numB a) S2 T1) ∧ Hid (MulIs P1 (numB c) Q1) ∧ Hid (MulIs (numB b) (numB c) P2) ∧ Hid (MulIs (numB a) P2 Q1) ∧
      Hid (MulIs (numB a) S2 R1) ∧ Hid (MulIs (numB a) (numB c) P3) ∧ Hid (AddIs P1 P3 R1) ∧ Hid (SubIs (numB a) (numB b) D1) ∧ Hid (AddIs (numB a) N1 D1) ∧ Hid (AddIs (numB a) ⟨#[48]⟩ (numB a)) ∧ Hid (MulIs (numB a) ⟨#[49]⟩ (numB a)) := by
  have f : ∀ {k : Nat} {m : Int}, Fits k m → k ≤ 500 → Fits 500 m := fun h hk => h.mono hk
  have a5 := f ha (by omega)
  have b5 := f hb (by omega)
  have c5 := f hc (by omega)
  have ab := f (ha.add hb) (by omega)
  have bc := f (hb.add hc) (by omega)
  have mab := f (ha.mul hb) (by omega)
  have mbc := f (hb.mul hc) (by omega)
  have mac := f (ha.mul hc) (by omega)
  have abc := f ((ha.add hb).add (hc.mono (by omega))) (by omega)
  have mabc := f ((ha.mul hb).mul hc) (by omega)
  have dist := f (ha.mul (hb.add hc)) (by omega)
  have sub := f (ha.add hb.neg) (by omega)
  have e0 : (⟨#[48]⟩ : ByteArray) = numB 0 := by
    have : numT 0 = [48] := by simp [numT, textOf, digs_zero]
    unfold numB; rw [this]
  have e1 : (⟨#[49]⟩ : ByteArray) = numB 1 := by
    have : numT 1 = [49] := by
      rw [numT, show (1 : Int).natAbs = 1 from rfl, digs_pos (by omega), digs_zero]; rfl
    unfold numB; rw [this]
  have z5 : Fits 500 0 := by unfold Fits; have := p10_pos 500; simpa using this
  have o5 : Fits 500 1 := by
    have := p10_mono (show 1 ≤ 500 by omega)
    have e : p10 1 = 10 := rfl
    unfold Fits; simp; omega
  refine ⟨numB (a + b), numB (a * b), numB (a + b + c), numB (b + c), numB (a * b * c), numB (b * c), numB (a * (b + c)), numB (a * c), numB (a + -b), numB (-b), Lib.hid (negIs b5), Lib.hid (addIs a5 b5 ab rfl), Lib.hid (addIs b5 a5 ab (Int.add_comm _ _)), Lib.hid (mulIs a5 b5 mab rfl), Lib.hid (mulIs b5 a5 mab (Int.mul_comm _ _)),
    Lib.hid (addIs ab c5 abc rfl), Lib.hid (addIs b5 c5 bc rfl), Lib.hid (addIs a5 bc abc (Int.add_assoc _ _ _).symm), Lib.hid (mulIs mab c5 mabc rfl), Lib.hid (mulIs b5 c5 mbc rfl), Lib.hid (mulIs a5 mbc mabc (Int.mul_assoc _ _ _).symm),
    Lib.hid (mulIs a5 bc dist rfl), Lib.hid (mulIs a5 c5 mac rfl), Lib.hid (addIs mab mac dist (Int.mul_add _ _ _).symm), Lib.hid (subIs a5 b5 sub (Int.sub_eq_add_neg)), Lib.hid (addIs a5 (f hb.neg (by omega)) sub rfl), Lib.hid (e0 ▸ addIs a5 z5 a5 (Int.add_zero a)), Lib.hid (e1 ▸ mulIs a5 o5 a5 (Int.mul_one a))⟩

set_option maxHeartbeats 6400000 in
set_option maxRecDepth 100000 in
theorem ring_any (s t u : ByteArray) (w : World) (hT : Tabs w) : Calls Tryd.prog 5 #[.string s, .string t, .string u] w (OutV w (.bool true)) := by
  have hS := strs3 w s t u
  have hbA : Below w.heap.size w (w.alloc (.cells #[.string s, .string t, .string u] 9)) := (Below.refl _ _).alloc (Nat.le_refl _) _
  have SH := Lib.hid (valids_any [s, t, u] w.heap.size 0 3 (w.alloc (.cells #[.string s, .string t, .string u] 9)) (by simp) hS (by simp))
  have HBA := Lib.hid hbA
  have HT := Lib.hid hT
  clear hT
  clear hS hbA
  go_enter Tryd.func5, Tryd.ntmps5
  go_wp2_with fail
  refine SH.out.mono ?_
  rintro e w1 ⟨rfl, hb1⟩
  have hz1 := HBA.out.trans (hb1.mono HBA.out.size)
  cases hany : [s, t, u].any notNum
  · have hs : notNum s = false := by simp at hany; exact hany.1
    have ht : notNum t = false := by simp at hany; exact hany.2.1
    have hu : notNum u = false := by simp at hany; exact hany.2.2
    clear hany
    obtain ⟨_, _, hs3, hs4⟩ := num_short hs
    obtain ⟨_, _, ht3, ht4⟩ := num_short ht
    obtain ⟨_, _, hu3, hu4⟩ := num_short hu
    obtain ⟨S1, P1, T1, S2, Q1, P2, R1, P3, D1, N1, FN, FAB, FBA, FmAB, FmBA, FSC, FBC, FAS, FmPC, FmBC, FmAP, FmAS, FmAC, FPP, FD, FAN, FA0, FmA1⟩ := ring_facts hs4 ht4 hu4
    rw [← hs3, ← ht3] at FAB FBA FmAB FmBA FD
    rw [← ht3, ← hu3] at FBC FmBC
    rw [← hs3, ← hu3] at FmAC
    rw [← hu3] at FSC FmPC
    rw [← hs3] at FAS FmAP FmAS FAN FA0 FmA1
    rw [← ht3] at FN
    clear hs ht hu hs3 hs4 ht3 ht4 hu3 hu4
    have hmf : ∀ (fn : Fn) (first cap : Array Value) (w : World), (Instr.makeFunc fn first cap).run Tryd.prog w = .ok (.func fn first cap) w := fun _ _ _ _ => rfl
    have hz2 := hz1.trans ((Below.refl w.heap.size w1).alloc hz1.size (Obj.cells #[Value.func (Fn.func 21) #[] #[]] 32))
    have HF0 : Hid (FuncCell w1.heap.size (w1.alloc (Obj.cells #[Value.func (Fn.func 21) #[] #[]] 32))) := Lib.hid ⟨by rw [World.cell?_alloc_at _ _ _ _ (by simp)]; rfl, HT.out.later hz2⟩
    go_wp2_with fail
    refine (FN.out _ HF0.out.tabs).mono ?_
    rintro e v0 ⟨rfl, hb0⟩
    rw [back]
    have HF1 := Lib.hid (HF0.out.later hb0)
    have hy0 := hz2.trans (hb0.mono hz2.size)
    go_wp2_with fail
    refine (addC _ _ _ w1.heap.size v0 FAB.out HF1.out).mono ?_
    rintro e v1 ⟨rfl, hb1⟩
    have HF2 := Lib.hid (HF1.out.later hb1)
    have hy1 := hy0.trans (hb1.mono hy0.size)
    go_wp2_with fail
    refine (addC _ _ _ w1.heap.size v1 FBA.out HF2.out).mono ?_
    rintro e v2 ⟨rfl, hb2⟩
    have HF3 := Lib.hid (HF2.out.later hb2)
    have hy2 := hy1.trans (hb2.mono hy1.size)
    go_wp2_with fail
    refine (mulC _ _ _ w1.heap.size v2 FmAB.out HF3.out).mono ?_
    rintro e v3 ⟨rfl, hb3⟩
    have HF4 := Lib.hid (HF3.out.later hb3)
    have hy3 := hy2.trans (hb3.mono hy2.size)
    go_wp2_with fail
    refine (mulC _ _ _ w1.heap.size v3 FmBA.out HF4.out).mono ?_
    rintro e v4 ⟨rfl, hb4⟩
    have HF5 := Lib.hid (HF4.out.later hb4)
    have hy4 := hy3.trans (hb4.mono hy3.size)
    go_wp2_with fail
    refine (addC _ _ _ w1.heap.size v4 FAB.out HF5.out).mono ?_
    rintro e v5 ⟨rfl, hb5⟩
    have HF6 := Lib.hid (HF5.out.later hb5)
    have hy5 := hy4.trans (hb5.mono hy4.size)
    go_wp2_with fail
    refine (addC _ _ _ w1.heap.size v5 FSC.out HF6.out).mono ?_
    rintro e v6 ⟨rfl, hb6⟩
    have HF7 := Lib.hid (HF6.out.later hb6)
    have hy6 := hy5.trans (hb6.mono hy5.size)
    go_wp2_with fail
    refine (addC _ _ _ w1.heap.size v6 FBC.out HF7.out).mono ?_
    rintro e v7 ⟨rfl, hb7⟩
    have HF8 := Lib.hid (HF7.out.later hb7)
    have hy7 := hy6.trans (hb7.mono hy6.size)
    go_wp2_with fail
    refine (addC _ _ _ w1.heap.size v7 FAS.out HF8.out).mono ?_
    rintro e v8 ⟨rfl, hb8⟩
    have HF9 := Lib.hid (HF8.out.later hb8)
    have hy8 := hy7.trans (hb8.mono hy7.size)
    go_wp2_with fail
    refine (mulC _ _ _ w1.heap.size v8 FmAB.out HF9.out).mono ?_
    rintro e v9 ⟨rfl, hb9⟩
    have HF10 := Lib.hid (HF9.out.later hb9)
    have hy9 := hy8.trans (hb9.mono hy8.size)
    go_wp2_with fail
    refine (mulC _ _ _ w1.heap.size v9 FmPC.out HF10.out).mono ?_
    rintro e v10 ⟨rfl, hb10⟩
    have HF11 := Lib.hid (HF10.out.later hb10)
    have hy10 := hy9.trans (hb10.mono hy9.size)
    go_wp2_with fail
    refine (mulC _ _ _ w1.heap.size v10 FmBC.out HF11.out).mono ?_
    rintro e v11 ⟨rfl, hb11⟩
    have HF12 := Lib.hid (HF11.out.later hb11)
    have hy11 := hy10.trans (hb11.mono hy10.size)
    go_wp2_with fail
    refine (mulC _ _ _ w1.heap.size v11 FmAP.out HF12.out).mono ?_
    rintro e v12 ⟨rfl, hb12⟩
    have HF13 := Lib.hid (HF12.out.later hb12)
    have hy12 := hy11.trans (hb12.mono hy11.size)
    go_wp2_with fail
    refine (addC _ _ _ w1.heap.size v12 FBC.out HF13.out).mono ?_
    rintro e v13 ⟨rfl, hb13⟩
    have HF14 := Lib.hid (HF13.out.later hb13)
    have hy13 := hy12.trans (hb13.mono hy12.size)
    go_wp2_with fail
    refine (mulC _ _ _ w1.heap.size v13 FmAS.out HF14.out).mono ?_
    rintro e v14 ⟨rfl, hb14⟩
    have HF15 := Lib.hid (HF14.out.later hb14)
    have hy14 := hy13.trans (hb14.mono hy13.size)
    go_wp2_with fail
    refine (mulC _ _ _ w1.heap.size v14 FmAB.out HF15.out).mono ?_
    rintro e v15 ⟨rfl, hb15⟩
    have HF16 := Lib.hid (HF15.out.later hb15)
    have hy15 := hy14.trans (hb15.mono hy14.size)
    go_wp2_with fail
    refine (mulC _ _ _ w1.heap.size v15 FmAC.out HF16.out).mono ?_
    rintro e v16 ⟨rfl, hb16⟩
    have HF17 := Lib.hid (HF16.out.later hb16)
    have hy16 := hy15.trans (hb16.mono hy15.size)
    go_wp2_with fail
    refine (addC _ _ _ w1.heap.size v16 FPP.out HF17.out).mono ?_
    rintro e v17 ⟨rfl, hb17⟩
    have HF18 := Lib.hid (HF17.out.later hb17)
    have hy17 := hy16.trans (hb17.mono hy16.size)
    have hcell := HF18.out.cell
    go_wp2_with fail
    refine (subC _ _ _ v17 FD.out HF18.out.tabs).mono ?_
    rintro e v18 ⟨rfl, hb18⟩
    have HF19 := Lib.hid (HF18.out.later hb18)
    have hy18 := hy17.trans (hb18.mono hy17.size)
    clear hcell
    go_wp2_with fail
    refine (addC _ _ _ w1.heap.size v18 FAN.out HF19.out).mono ?_
    rintro e v19 ⟨rfl, hb19⟩
    have HF20 := Lib.hid (HF19.out.later hb19)
    have hy19 := hy18.trans (hb19.mono hy18.size)
    go_wp2_with fail
    refine (addC _ _ _ w1.heap.size v19 FA0.out HF20.out).mono ?_
    rintro e v20 ⟨rfl, hb20⟩
    have HF21 := Lib.hid (HF20.out.later hb20)
    have hy20 := hy19.trans (hb20.mono hy19.size)
    go_wp2_with fail
    refine (mulC _ _ _ w1.heap.size v20 FmA1.out HF21.out).mono ?_
    rintro e v21 ⟨rfl, hb21⟩
    have HF22 := Lib.hid (HF21.out.later hb21)
    have hy21 := hy20.trans (hb21.mono hy20.size)
    go_wp2_with fail
    refine (awake_any v21 HF22.out.tabs).mono ?_
    rintro e v22 ⟨rfl, hb22⟩
    go_wp2
    go_ret
    exact ⟨rfl, hy21.trans (hb22.mono hy21.size)⟩
  · clear hany
    go_wp2_with fail
    refine (awake_any w1 (HT.out.later hz1)).mono ?_
    rintro e w2 ⟨rfl, hb2⟩
    go_wp2
    go_ret
    exact ⟨rfl, hz1.trans (hb2.mono hz1.size)⟩
end Go.Proofs.YtngnaofbndpadaaDoor
