/- Back of int: the iterator's contract. -/
import Derived.Test.YtamcobncfbjdmaaRI7
import Derived.Test.YtamcobncfbjdmaaRB1
import Derived.Test.YtamcobncfbjdmaaRr
namespace Go.Proofs.Ytamcobncfbjdmaa
open Go.RowKit Go.Shelf
attribute [local go_sem] Oper.semAt_some

attribute [local go_sem] neqFI

set_option maxRecDepth 100000 in
set_option maxHeartbeats 3200000 in
theorem back1_seq (n n0 n1 bt : Nat) (hn01 : n0 ≤ n1) (a : Option Addr) (o : Option (Rp Int)) (W0 w0 : World) (hn0 : W0.heap.size ≤ n0) (hbs : bt < w0.heap.size) (hN : On encI W0 a o) (hL : ∀ t, o = some t → t.Lv) (hm : (listO o).length ≤ 1000000)
    (hk : KpC n0 n1 W0 w0) (hn : n1 ≤ w0.heap.size) (hc : w0.cell? ⟨bt, 0, none⟩ = some (.pointer a)) :
    SeqO Fence.wide n Try.prog 57 #[.pointer (some ⟨bt, 0, none⟩)] (fun p : Int × Nat => #[.int .i64 p.2, encI p.1]) n0 n1 (fun xs => xs = (listO o).zipIdx.reverse) (fun pre => pre <+: (listO o).zipIdx.reverse) (listO o).length w0 := by
  intro l J Jx W hb hJ hJx hY hj
  have c0 : W.cell? ⟨bt, 0, none⟩ = some (.pointer a) := (hb.cell (p := ⟨bt, 0, none⟩) hbs).trans hc
  have hdd : ∀ k : Nat, (Fence.wide.depth.isSome = true → 1 ≤ k) := fun k h => by cases h
  have hk2 : KpC n0 n1 W0 W := hk.trans (KpC.of_below hb)
  have hn2 : n1 ≤ W.heap.size := Nat.le_trans hn hb.size
  show CallsIn Fence.wide n Try.prog 57 #[.func (.yield l) #[] #[], .pointer (some ⟨bt, 0, none⟩)] W _
  cases o with
  | none =>
    obtain rfl : a = none := hN
    have HJ := Lib.hid hj
    clear hY hj hJ hJx hk hk2 hb
    refine callsIn_of_wp Try.func57 rfl trivial ?_ rfl
    simp only [Try.ntmps57, List.size_toArray, List.length_cons, List.length_nil, Nat.reduceAdd, Nat.reduceSub, Array.replicate_succ, Array.replicate_zero, List.push_toArray, List.append_toArray, List.nil_append, List.cons_append]
    gi_wp2
    first | go_end0 | refine bodyPost_ret (v := .tuple #[]) (by simp [results, Try.f57, go_sem]) rfl ?_
    exact ⟨⟨_, rfl⟩, .inl (by first | exact ⟨_, rfl, HJ.out⟩ | exact HJ.out)⟩
  | some t =>
    have HF := Lib.hid (callsIn_wide (n := n - 1) |>.2 (back_any l n0 n1 W.heap.size t.list.length W.heap.size W0 hn0 hn01 J Jx hJ hJx (fun m pre i x W' hj' hl' => hY m pre (x, i) W' hj' hl') t a 0 [] W hN (hL t rfl) hk2 hn2 (Nat.le_refl _) (Nat.le_refl _) hj (by simp) (by have : t.list.length ≤ 1000000 := hm; omega)))
    obtain ⟨b1, rfl, hb1, _⟩ := Nd.head hN
    clear hY hj hJ hJx hk hk2 hb hN hL hm
    refine callsIn_of_wp Try.func57 rfl trivial ?_ rfl
    simp only [Try.ntmps57, List.size_toArray, List.length_cons, List.length_nil, Nat.reduceAdd, Nat.reduceSub, Array.replicate_succ, Array.replicate_zero, List.push_toArray, List.append_toArray, List.nil_append, List.cons_append]
    gi_wp2_with (first
      | (refine ⟨trivial, hdd _, ?_⟩; gi_at_call 58; refine HF.out.mono ?_; intro e' w2 HW; obtain ⟨r, rfl, HR⟩ := HW.b; clear HW)
      | fail)
    first | go_end0 | refine bodyPost_ret (v := .tuple #[]) (by simp [results, Try.f57, go_sem]) rfl ?_
    rcases HR.out with ⟨rfl, hk22, hJ2⟩ | ⟨rfl, hk22, hX2⟩
    · exact ⟨⟨_, rfl⟩, .inl ⟨_, rfl, by have := hJ2.out; rwa [List.nil_append] at this⟩⟩
    · obtain ⟨q', hq', j⟩ := hX2.out
      exact ⟨⟨_, rfl⟩, .inr ⟨q', hq', by rwa [List.nil_append] at j⟩⟩
theorem pBack_any (a : Option Addr) (w : World) : Calls Try.prog 23 #[.agg #[.pointer a]] w fun e w' =>
    e = .returned (.func (.func 57) #[] #[.pointer (some ⟨w.heap.size, 0, none⟩)]) ∧ w' = w.alloc (.cells #[.pointer a] 28) := by
  go_enter Try.func23, Try.ntmps23
  go_wp2
  go_ret
  exact ⟨rfl, rfl⟩
end Go.Proofs.Ytamcobncfbjdmaa
