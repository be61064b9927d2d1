/- Numbers of the laws. -/
import Derived.Test.YtngnaofbndpadaaDoorLa
import Derived.Test.YtngnaofbndpadaaDoorPg
import Derived.Test.YtngnaofbndpadaaDoorPm
/- The law's own helper: whether texts are numbers of up to 100 bytes. -/
namespace Go.Proofs.YtngnaofbndpadaaDoor
open Go.RowKit Go.Proofs.ArM

def notNum (s : ByteArray) : Bool := decide (100 < s.size) || !validB s.data.toList

theorem valid1_enter (args : Array Value) (w : World) : (callFunc 60 args).run Tryd.prog w = .ok (.enter 60 args) w := by
  simp [callFunc, Tryd.func60]; rfl

set_option maxHeartbeats 3200000 in
set_option maxRecDepth 100000 in
theorem valid1_any (s : ByteArray) (w : World) :
    Calls Tryd.prog 60 #[.string s] w (OutV w (.bool (notNum s))) := by
  by_cases hl : 100 < s.size
  · have hn := Lib.hid (show notNum s = true from by simp [notNum, hl])
    go_enter Tryd.func60, Tryd.ntmps60
    go_wp2
    go_ret
    exact ⟨by rw [hn.out]; rfl, Below.refl _ _⟩
  · have hn := Lib.hid (show notNum s = !validB s.data.toList from by simp [notNum, hl])
    have I := Lib.hid (aValid_any s w (by omega))
    go_enter Tryd.func60, Tryd.ntmps60
    go_wp2_with fail
    refine I.out.mono ?_
    rintro e w2 ⟨rfl, hb2⟩
    go_wp2
    go_ret
    exact ⟨by rw [hn.out, decide_eq_false (show ¬ (100 : Int) < (s.size : Int) by omega)]; rfl, hb2⟩

set_option maxHeartbeats 3200000 in
set_option maxRecDepth 100000 in
theorem valids_any (ss : List ByteArray) (b o c : Nat) (w : World) (hl : ss.length ≤ 1000) (hS : Strs w b o ss) (hlc : ss.length ≤ c) :
    Calls Tryd.prog 20 #[.slice (some ⟨b, o, none⟩) ss.length c] w (OutV w (.bool (!ss.any notNum))) := by
  have I := Lib.hid (contains_any 60 notNum ss b o c w hl hS hlc valid1_enter (fun s w' _ _ => valid1_any s w'))
  clear hS
  go_enter Tryd.func20, Tryd.ntmps20
  go_wp2_with fail
  refine I.out.mono ?_
  rintro e w2 ⟨rfl, hb2⟩
  go_wp2
  go_ret
  exact ⟨rfl, hb2⟩
end Go.Proofs.YtngnaofbndpadaaDoor

/- The program's arithmetic at the texts of numbers. -/
namespace Go.Proofs.YtngnaofbndpadaaDoor
open Go.RowKit Go.Proofs.ArM

/-- the text of a number -/
def numB (m : Int) : ByteArray := ⟨(numT m).toArray⟩
/-- a number of up to k digits -/
def Fits (k : Nat) (m : Int) : Prop := (m.natAbs : Int) < p10 k

theorem numB_list (m : Int) : (numB m).data.toList = numT m := by simp [numB]
theorem Fits.digs {k : Nat} {m : Int} (h : Fits k m) : (ArM.digs m.natAbs).length ≤ k := digs_len h
theorem fits_of {k : Nat} {m : Int} (h : (ArM.digs m.natAbs).length ≤ k) : Fits k m := by
  have h1 := digs_lt m.natAbs
  have h2 := p10_mono h
  unfold Fits; omega
theorem Fits.mono {k k' : Nat} {m : Int} (h : Fits k m) (hk : k ≤ k') : Fits k' m := by
  have := p10_mono hk
  unfold Fits at *; omega
theorem Fits.add {k : Nat} {m n : Int} (hm : Fits k m) (hn : Fits k n) : Fits (k + 1) (m + n) := by
  have := p10_pos k
  unfold Fits at *
  rw [p10]; omega
theorem Fits.neg {k : Nat} {m : Int} (hm : Fits k m) : Fits k (-m) := by
  unfold Fits at *; rwa [Int.natAbs_neg]
theorem Fits.mul {j k : Nat} {m n : Int} (hm : Fits j m) (hn : Fits k n) : Fits (j + k) (m * n) := by
  unfold Fits at *
  rw [p10_add, Int.natAbs_mul, Int.natCast_mul]
  have h1 := p10_pos j
  have a1 : (m.natAbs : Int) * n.natAbs ≤ m.natAbs * p10 k := Int.mul_le_mul_of_nonneg_left (by omega) (by omega)
  have a2 : (m.natAbs : Int) * p10 k < p10 j * p10 k := Int.mul_lt_mul_of_pos_right hm (p10_pos k)
  omega

theorem numB_size {m : Int} (h : Fits 500 m) : (numB m).size ≤ 1000000 := by
  have h1 := h.digs
  have e : (numB m).size = (numT m).length := by simp [numB, ByteArray.size]
  rw [e, numT, textOf]
  split
  · simp
  · rw [List.length_append, List.length_map, List.length_reverse]
    split <;> simp <;> omega

theorem res_fits {m : Int} (h : Fits 500 m) : resB m = (numT m, 0) := by
  have := h.digs
  rw [resB, if_neg (by omega)]

/-- a right text is that of a number -/
theorem num_of {s : ByteArray} (hv : validB s.data.toList = true) : s = numB (numOf s.data.toList) := by
  have h := (valid_text hv).1
  unfold numB
  rw [← h]


theorem len_text {m : Int} {k : Nat} (h : (numT m).length ≤ k) : Fits k m := by
  apply fits_of
  rw [numT, textOf] at h
  split at h
  · rename_i e; rw [e]; simp
  · rw [List.length_append, List.length_map, List.length_reverse] at h; omega

theorem addN {m n : Int} (hm : Fits 500 m) (hn : Fits 500 n) (h : Fits 500 (m + n)) (w : World) (hT : Tabs w) : Calls Tryd.prog 23 #[.string (numB m), .string (numB n)] w (OutT w (numT (m + n), 0)) := by
  have := aAdd_any (numB m) (numB n) w (numB_size hm) (numB_size hn) hT
  rwa [numB_list, numB_list, addR, (text_valid hm.digs).1, (text_valid hn.digs).1, (text_valid hm.digs).2, (text_valid hn.digs).2, Bool.and_self, if_pos rfl, res_fits h] at this
theorem subN {m n : Int} (hm : Fits 500 m) (hn : Fits 500 n) (h : Fits 500 (m - n)) (w : World) (hT : Tabs w) : Calls Tryd.prog 26 #[.string (numB m), .string (numB n)] w (OutT w (numT (m - n), 0)) := by
  have := aSub_any (numB m) (numB n) w (numB_size hm) (numB_size hn) hT
  rwa [numB_list, numB_list, subR, (text_valid hm.digs).1, (text_valid hn.digs).1, (text_valid hm.digs).2, (text_valid hn.digs).2, Bool.and_self, if_pos rfl, res_fits h] at this
theorem mulN {m n : Int} (hm : Fits 500 m) (hn : Fits 500 n) (h : Fits 500 (m * n)) (w : World) (hT : Tabs w) : Calls Tryd.prog 10 #[.string (numB m), .string (numB n)] w (OutT w (numT (m * n), 0)) := by
  have := aMul_any (numB m) (numB n) w (numB_size hm) (numB_size hn) hT
  rwa [numB_list, numB_list, mulR, (text_valid hm.digs).1, (text_valid hn.digs).1, (text_valid hm.digs).2, (text_valid hn.digs).2, Bool.and_self, if_pos rfl, res_fits h] at this
theorem negN {m : Int} (hm : Fits 500 m) (w : World) (hT : Tabs w) : Calls Tryd.prog 25 #[.string (numB m)] w (OutT w (numT (-m), 0)) := by
  have := aNeg_any (numB m) w (numB_size hm) hT
  rwa [numB_list, negR, (text_valid hm.digs).1, (text_valid hm.digs).2, if_pos rfl, res_fits hm.neg] at this
theorem divN {m n : Int} (hm : Fits 500 m) (hn : Fits 500 n) (h : n ≠ 0) (w : World) (hT : Tabs w) : Calls Tryd.prog 12 #[.string (numB m), .string (numB n)] w (OutTT w (numT (m.tdiv n), numT (m.tmod n), 0)) := by
  have := aDivmod_any (numB m) (numB n) w (numB_size hm) (numB_size hn) hT
  rwa [numB_list, numB_list, divR, (text_valid hm.digs).1, (text_valid hn.digs).1, (text_valid hm.digs).2, (text_valid hn.digs).2, Bool.and_self, if_pos rfl, if_neg h] at this
theorem cmpN {m n : Int} (hm : Fits 500 m) (hn : Fits 500 n) (w : World) : Calls Tryd.prog 27 #[.string (numB m), .string (numB n)] w (OutN w (ordZ m n, 0)) := by
  have := aCompare_any (numB m) (numB n) w (numB_size hm) (numB_size hn)
  rwa [numB_list, numB_list, cmpR, (text_valid hm.digs).1, (text_valid hn.digs).1, (text_valid hm.digs).2, (text_valid hn.digs).2, Bool.and_self, if_pos rfl] at this
theorem gcdN {m n : Int} (hm : Fits 500 m) (hn : Fits 500 n) (w : World) (hT : Tabs w) : Calls Tryd.prog 14 #[.string (numB m), .string (numB n)] w (OutT w (numT (Nat.gcd m.natAbs n.natAbs : Nat), 0)) := by
  have := aGcd_any (numB m) (numB n) w (numB_size hm) (numB_size hn) hT
  rwa [numB_list, numB_list, gcdR, (text_valid hm.digs).1, (text_valid hn.digs).1, (text_valid hm.digs).2, (text_valid hn.digs).2, Bool.and_self, if_pos rfl] at this
end Go.Proofs.YtngnaofbndpadaaDoor
