/- The program's size of an expression. -/
import Derived.Test.YtajdpchojimigaaFb
import Derived.Deep.RegionWith
namespace Go.Proofs.Ytajdpchojimigaa
open Go.RowKit Go.Shelf TmM

set_option maxHeartbeats 800000 in
theorem presult_any (f : Fo) (a : Option Addr) (cap : Nat) (w : World) (hc : f.count ≤ 1000000) (hsm : Small f) (hs : Sl w.heap.size w a cap f) :
    Calls Try.prog 16 #[.slice a f.len cap] w (OutV w (.int .i64 (wrongC 8 f))) := by
  have S := Lib.hid (fault_any 8 f a cap w hc hsm hs)
  clear hc hsm hs
  go_enter Try.func16, Try.ntmps16
  go_wp2_with (go_at_call 59; refine S.out.mono ?_; rintro e w2 ⟨rfl, hb2⟩)
  go_ret
  exact ⟨rfl, hb2⟩

set_option maxHeartbeats 800000 in
theorem pvalue_any (f : Fo) (a : Option Addr) (cap : Nat) (w : World) (hc : f.count ≤ 1000000) (hsm : Small f) (hs : Sl w.heap.size w a cap f) :
    Calls Try.prog 14 #[.slice a f.len cap] w (OutV w (.int .i64 (wrongC 4 f))) := by
  have S := Lib.hid (fault_any 4 f a cap w hc hsm hs)
  clear hc hsm hs
  go_enter Try.func14, Try.ntmps14
  go_wp2_with (go_at_call 59; refine S.out.mono ?_; rintro e w2 ⟨rfl, hb2⟩)
  go_ret
  exact ⟨rfl, hb2⟩

/-- what counting does with its two variables. -/
def CountOut (n0 n1 nb db : Nat) (m d : Int) (w : World) (e : Ending) (w' : World) : Prop :=
  e = .returned (.bool true) ∧ Boxed w' nb 3 (.int .i64 m) ∧ Boxed w' db 3 (.int .i64 d) ∧ KpC n0 n1 w w' ∧ Below n0 w w'

set_option maxHeartbeats 3200000 in
set_option maxRecDepth 100000 in
theorem count1_any (n0 n1 nb db : Nat) (lv k : Int) (t : ByteArray) (a : Option Addr) (n cap : Nat) (m d : Int) (w : World) (h0 : n0 ≤ nb) (h1 : nb < n1) (h2 : n0 ≤ db) (h3 : db < n1) (hne : nb ≠ db) (hm : 0 ≤ m ∧ m ≤ 1000000000) (_ : 0 ≤ d ∧ d ≤ 1000000000) (hl : 0 ≤ lv ∧ lv ≤ 1000000000)
    (hnb : Boxed w nb 3 (.int .i64 m)) (hdb : Boxed w db 3 (.int .i64 d)) :
    Calls Try.prog 56 #[.int .i64 lv, .agg #[.int .i64 k, .string t, .slice a n cap], .pointer (some ⟨nb, 0, none⟩), .pointer (some ⟨db, 0, none⟩)] w (CountOut n0 n1 nb db (m + 1) (max d (lv + ownD k)) w) := by
  obtain ⟨od, hod⟩ : ∃ od, od = ownD k := ⟨_, rfl⟩
  have hO := ownD_le k
  have OW := Lib.hid (fun (w : World) => own_al k t a n cap w)
  rw [← hod] at OW hO ⊢
  have lb := hnb.lt
  have l2 := hdb.lt
  have d1 := hnb.cell
  have f1 := hnb.frozen
  have HNB := Lib.hid hnb
  have HDB := Lib.hid hdb
  obtain ⟨sm, hsm⟩ : ∃ sm, sm = lv + od := ⟨_, rfl⟩
  have hwr : IntKind.i64.wrap (lv + od) = sm := by rw [hsm]; exact IntWalk.i64_in _ (by omega)
  obtain ⟨mx, hmx⟩ : ∃ mx, mx = max d (lv + od) := ⟨_, rfl⟩
  have HMX := Lib.hid (show (if d < sm then sm else d) = mx from by rw [hmx, hsm]; split <;> omega)
  rw [← hmx]
  clear hod hsm hmx hnb hdb
  go_enter Try.func56, Try.ntmps56
  go_wp2_with fail
  have C1 := (HNB.out.set (.int .i64 (m + 1))).alloc (.cells #[.int .i64 k, .string t, .slice a n cap] 35)
  have C2 := (HDB.out.other (Ne.symm hne) (.int .i64 (m + 1))).alloc (.cells #[.int .i64 k, .string t, .slice a n cap] 35)
  have hK := Lib.hid ((KpC.setCell (n0 := n0) (n1 := n1) w (b := nb) (j := 0) (.int .i64 (m + 1)) h0 h1).trans (KpC.alloc _ (.cells #[.int .i64 k, .string t, .slice a n cap] 35)))
  have hB := Lib.hid (((Below.refl n0 w).setCell (p := ⟨nb, 0, none⟩) h0 (.int .i64 (m + 1))).alloc (by simp; omega) (.cells #[.int .i64 k, .string t, .slice a n cap] 35))
  have bX := Blk.new (w.setCell ⟨nb, 0, none⟩ (.int .i64 (m + 1))) (.cells #[.int .i64 k, .string t, .slice a n cap] 35 (0, 0))
  obtain ⟨W1, hW1⟩ : ∃ W1, W1 = (w.setCell ⟨nb, 0, none⟩ (.int .i64 (m + 1))).alloc (.cells #[.int .i64 k, .string t, .slice a n cap] 35) := ⟨_, rfl⟩
  have hsz : (w.setCell ⟨nb, 0, none⟩ (.int .i64 (m + 1))).heap.size = w.heap.size := by simp
  rw [hsz, ← hW1] at bX
  rw [← hW1] at C1 C2 hK hB ⊢
  have hsz1 : w.heap.size < W1.heap.size := by rw [hW1]; simp
  clear hW1 hsz d1 f1
  have d3 := C2.cell
  have f3 := C2.frozen
  have l3 := C2.lt
  have ne3 : ¬ db = W1.heap.size := by omega
  have x0 : W1.cell? ⟨w.heap.size, 0, none⟩ = some (.int .i64 k) := by simp [World.cell?, show W1.heap[w.heap.size]? = _ from bX]
  have x1 : W1.cell? ⟨w.heap.size, 1, none⟩ = some (.string t) := by simp [World.cell?, show W1.heap[w.heap.size]? = _ from bX]
  have x2 : W1.cell? ⟨w.heap.size, 2, none⟩ = some (.slice a n cap) := by simp [World.cell?, show W1.heap[w.heap.size]? = _ from bX]
  by_cases hlt : d < sm
  · have HQ := Lib.hid (show sm = mx from by rw [← HMX.out, if_pos hlt])
    go_region_with (go_at_call 57; refine (OW.out _).mono ?_; rintro e w' ⟨rfl, rfl⟩)
    all_goals
      go_wp2
      go_ret
      refine ⟨rfl, ?_, ?_, ?_, ?_⟩
      · exact (C1.other hne _).alloc _
      · rw [← HQ.out]; exact (C2.set _).alloc _
      · exact (hK.out.trans (KpC.setCell _ _ h2 h3)).trans ((KpC.alloc _ _).trans (KpC.drew _))
      · exact ((hB.out.setCell (p := ⟨db, 0, none⟩) h2 _).alloc (by simp; omega) _).drew
  · have HQ := Lib.hid (show d = mx from by rw [← HMX.out, if_neg hlt])
    go_region_with (go_at_call 57; refine (OW.out _).mono ?_; rintro e w' ⟨rfl, rfl⟩)
    all_goals
      go_wp2
      go_ret
      refine ⟨rfl, ?_, ?_, ?_, ?_⟩
      · exact (C1.other hne _).alloc _
      · rw [← HQ.out]; exact (C2.set _).alloc _
      · exact (hK.out.trans (KpC.setCell _ _ h2 h3)).trans ((KpC.alloc _ _).trans (KpC.drew _))
      · exact ((hB.out.setCell (p := ⟨db, 0, none⟩) h2 _).alloc (by simp; omega) _).drew
end Go.Proofs.Ytajdpchojimigaa
