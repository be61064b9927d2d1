/- Helpers of the laws. -/
import Derived.Test.YtebejllehbpahaaGreatDoorPa
import Derived.Deep.LoopGhost
import Derived.Test.YtebejllehbpahaaGreatDoorPg
/- The law's own helper: whether texts are short. -/
namespace Go.Proofs.YtebejllehbpahaaGreatDoor
open Go.RowKit Go.Proofs.ArM

/-- the texts ss lie from an address on -/
def Strs (w : World) (b o : Nat) (ss : List ByteArray) : Prop :=
  b < w.heap.size ∧ ∀ j, j < ss.length → w.cell? ⟨b, o + j, none⟩ = some (.string (ss.getD j ⟨#[]⟩))

theorem Strs.later {w w' : World} {b o : Nat} {ss : List ByteArray} (h : Strs w b o ss) (hb : Below w.heap.size w w') : Strs w' b o ss :=
  ⟨Nat.lt_of_lt_of_le h.1 hb.size, fun j hj => (hb.cell (p := ⟨b, o + j, none⟩) h.1).trans (h.2 j hj)⟩

/-- a place, or less than 0 where no text has the quality -/
def OutR (w : World) (x : Bool) (e : Ending) (w' : World) : Prop :=
  ∃ r : Int, e = .returned (.int .i64 r) ∧ (decide (0 ≤ r) = x) ∧ Below w.heap.size w w'

theorem any_at {ss : List ByteArray} {p : ByteArray → Bool} {k : Nat} (hk : k < ss.length) (h : p (ss.getD k ⟨#[]⟩) = true) : ss.any p = true := by
  rw [List.any_eq_true]
  refine ⟨ss[k], List.getElem_mem hk, ?_⟩
  rwa [List.getD_eq_getElem?_getD, List.getElem?_eq_getElem hk] at h

theorem any_none {ss : List ByteArray} {p : ByteArray → Bool} (h : ∀ j, j < ss.length → p (ss.getD j ⟨#[]⟩) = false) : ss.any p = false := by
  rw [List.any_eq_false]
  intro x hx
  obtain ⟨j, hj, rfl⟩ := List.getElem_of_mem hx
  have := h j hj
  rw [List.getD_eq_getElem?_getD, List.getElem?_eq_getElem hj] at this
  simpa using this

set_option maxHeartbeats 3200000 in
set_option maxRecDepth 100000 in
theorem short1_enter (args : Array Value) (w : World) : (callFunc 27 args).run Tryz.prog w = .ok (.enter 27 args) w := by
  simp [callFunc, Tryz.func27]; rfl

set_option maxHeartbeats 3200000 in
set_option maxRecDepth 100000 in
theorem short1_any (s : ByteArray) (w : World) :
    Calls Tryz.prog 27 #[.string s] w (OutV w (.bool (decide (600 < s.size)))) := by
  go_enter Tryz.func27, Tryz.ntmps27
  go_wp2
  go_ret
  exact ⟨by rw [show decide (600 < (s.size : Int)) = decide (600 < s.size) from by rw [Bool.eq_iff_iff]; simp; omega]; rfl, Below.refl _ _⟩

set_option maxHeartbeats 3200000 in
set_option maxRecDepth 100000 in
theorem index_any (fid : Nat) (p : ByteArray → Bool) (ss : List ByteArray) (b o c : Nat) (w : World) (hl : ss.length ≤ 1000) (hS : Strs w b o ss) (_ : ss.length ≤ c)
    (hE : ∀ args w, (callFunc fid args).run Tryz.prog w = .ok (.enter fid args) w) (hC : ∀ s w', Hid (s ∈ ss) → Below w.heap.size w w' → Calls Tryz.prog fid #[.string s] w' (OutV w' (.bool (p s)))) :
    Calls Tryz.prog 57 #[.slice (some ⟨b, o, none⟩) ss.length c, .func (.func fid) #[] #[]] w (OutR w (ss.any p)) := by
  have HS := Lib.hid hS
  have HC := Lib.hid hC
  have HE := Lib.hid hE
  clear hS hC hE
  go_enter Tryz.func57, Tryz.ntmps57
  go_wp2_with fail
  go_loopw [8] (fun i wr => ∃ k : Nat, i = .int .i64 k ∧ k ≤ ss.length ∧ Hid (∀ j, j < k → p (ss.getD j ⟨#[]⟩) = false) ∧ Below w.heap.size w wr)
    (fun i _ => ss.length - (intOf i).toNat)
  case atStart => exact ⟨0, by go_num, Nat.zero_le _, Lib.hid (fun j hj => absurd hj (Nat.not_lt_zero j)), Below.refl _ _⟩
  case round =>
    obtain ⟨k, rfl, hk, hno, hbl⟩ := hrel
    by_cases hkn : k < ss.length
    · have hc0 := (HS.out.later hbl).2 k hkn
      have hmem := Lib.hid (show ss.getD k ⟨#[]⟩ ∈ ss from by rw [List.getD_eq_getElem?_getD, List.getElem?_eq_getElem hkn]; exact List.getElem_mem hkn)
      obtain ⟨s, hs⟩ : ∃ s, s = ss.getD k ⟨#[]⟩ := ⟨_, rfl⟩
      rw [← hs] at hc0 hmem
      have HSs := Lib.hid hs
      clear hs
      go_wp2_with fail
      rw [HE.out]
      refine (HC.out s wr hmem hbl).mono ?_
      rintro e w2 ⟨rfl, hb2⟩
      have hbl2 := hbl.trans (hb2.mono hbl.size)
      cases hp : p s
      · have HP := Lib.hid hp
        clear hp
        go_wp2
        go_roundw
        case rel => exact ⟨k + 1, by go_num, by omega, Lib.hid (fun j hj => by
          rcases Nat.lt_succ_iff_lt_or_eq.1 hj with h | rfl
          · exact hno.out j h
          · rw [← HSs.out]; exact HP.out), hbl2⟩
        case measure => simp [intOf]; omega
      · have HP := Lib.hid hp
        clear hp
        go_wp2
        go_ret
        exact ⟨k, rfl, by rw [any_at hkn (by rw [← HSs.out]; exact HP.out)]; simp, hbl2⟩
    · have hkn2 : k = ss.length := by omega
      have HK := Lib.hid hkn2
      clear hkn2
      go_wp2
      go_ret
      exact ⟨-1, rfl, by rw [any_none (fun j hj => hno.out j (by have := HK.out; omega))]; simp, hbl⟩

set_option maxHeartbeats 3200000 in
set_option maxRecDepth 100000 in
theorem contains_any (fid : Nat) (p : ByteArray → Bool) (ss : List ByteArray) (b o c : Nat) (w : World) (hl : ss.length ≤ 1000) (hS : Strs w b o ss) (hlc : ss.length ≤ c)
    (hE : ∀ args w, (callFunc fid args).run Tryz.prog w = .ok (.enter fid args) w) (hC : ∀ s w', Hid (s ∈ ss) → Below w.heap.size w w' → Calls Tryz.prog fid #[.string s] w' (OutV w' (.bool (p s)))) :
    Calls Tryz.prog 26 #[.slice (some ⟨b, o, none⟩) ss.length c, .func (.func fid) #[] #[]] w (OutV w (.bool (ss.any p))) := by
  have I := Lib.hid (index_any fid p ss b o c w hl hS hlc hE hC)
  clear hS hC hE
  go_enter Tryz.func26, Tryz.ntmps26
  go_wp2_with fail
  refine I.out.mono ?_
  rintro e w2 ⟨r, rfl, hr, hb2⟩
  have HR := Lib.hid hr
  clear hr
  go_wp2
  go_ret
  exact ⟨by rw [← HR.out]; rfl, hb2⟩

set_option maxHeartbeats 3200000 in
set_option maxRecDepth 100000 in
theorem short_any (ss : List ByteArray) (b o c : Nat) (w : World) (hl : ss.length ≤ 1000) (hS : Strs w b o ss) (hlc : ss.length ≤ c) :
    Calls Tryz.prog 5 #[.slice (some ⟨b, o, none⟩) ss.length c] w (OutV w (.bool (!ss.any (fun s => decide (600 < s.size))))) := by
  have I := Lib.hid (contains_any 27 (fun s => decide (600 < s.size)) ss b o c w hl hS hlc short1_enter (fun s w' _ _ => short1_any s w'))
  clear hS
  go_enter Tryz.func5, Tryz.ntmps5
  go_wp2_with fail
  refine I.out.mono ?_
  rintro e w2 ⟨rfl, hb2⟩
  go_wp2
  go_ret
  exact ⟨rfl, hb2⟩
theorem strs2 (w : World) (s t : ByteArray) : Strs (w.alloc (.cells #[.string s, .string t] 9)) w.heap.size 0 [s, t] := by
  refine ⟨by simp, fun j hj => ?_⟩
  have e : (w.alloc (.cells #[.string s, .string t] 9)).heap[w.heap.size]? = some (.cells #[.string s, .string t] 9) := heap_alloc_new w _
  rcases j with _ | _ | j
  · rw [World.cell?_alloc_at _ _ _ _ (by simp)]; rfl
  · rw [World.cell?_alloc_at _ _ _ _ (by simp)]; rfl
  · simp at hj; omega
end Go.Proofs.YtebejllehbpahaaGreatDoor

/- The law's closing check of the chapter's examples. -/
namespace Go.Proofs.YtebejllehbpahaaGreatDoor
open Go.RowKit Go.Proofs.ArM

theorem awake_div : divR [45, 55] [50] = ([45, 51], [45, 49], 0) := by decide +kernel
theorem awake_pow : powR [45, 50] 10 = ([49, 48, 50, 52], 0) := by decide +kernel
theorem awake_val : validB [45, 48] = false := by decide +kernel

set_option maxHeartbeats 3200000 in
set_option maxRecDepth 100000 in
theorem awake_any (w : World) (hT : Tabs w) : Calls Tryz.prog 6 #[] w (OutV w (.bool true)) := by
  have HT := Lib.hid hT
  clear hT
  have I1 := Lib.hid (show ∀ w, Tabs w → Calls Tryz.prog 28 #[.string ⟨#[45, 55]⟩, .string ⟨#[50]⟩] w (OutTT w ([45, 51], [45, 49], 0)) from fun w hT => by
    have := aDivmod_any ⟨#[45, 55]⟩ ⟨#[50]⟩ w (by decide) (by decide) hT
    rwa [show divR (⟨#[45, 55]⟩ : ByteArray).data.toList (⟨#[50]⟩ : ByteArray).data.toList = _ from awake_div] at this)
  have I2 := Lib.hid (show ∀ w, Tabs w → Calls Tryz.prog 29 #[.string ⟨#[45, 50]⟩, .int .i64 10] w (OutT w ([49, 48, 50, 52], 0)) from fun w hT => by
    have := aPower_any ⟨#[45, 50]⟩ 10 w (by decide) (by decide) (by decide) hT
    rwa [show powR (⟨#[45, 50]⟩ : ByteArray).data.toList 10 = _ from awake_pow] at this)
  have I3 := Lib.hid (show ∀ w, Calls Tryz.prog 9 #[.string ⟨#[45, 48]⟩] w (OutV w (.bool false)) from fun w => by
    have := aValid_any ⟨#[45, 48]⟩ w (by decide)
    rwa [show validB (⟨#[45, 48]⟩ : ByteArray).data.toList = _ from awake_val] at this)
  go_enter Tryz.func6, Tryz.ntmps6
  go_wp2_with fail
  refine (I1.out w HT.out).mono ?_
  rintro e w2 ⟨rfl, hb2⟩
  go_wp2_with fail
  refine (I2.out w2 (HT.out.later hb2)).mono ?_
  rintro e w3 ⟨rfl, hb3⟩
  go_wp2_with fail
  refine (I3.out w3).mono ?_
  rintro e w4 ⟨rfl, hb4⟩
  have hbz := (hb2.trans (hb3.mono hb2.size)).trans (hb4.mono (Nat.le_trans hb2.size hb3.size))
  go_wp2
  go_ret
  exact ⟨rfl, hbz⟩
end Go.Proofs.YtebejllehbpahaaGreatDoor
