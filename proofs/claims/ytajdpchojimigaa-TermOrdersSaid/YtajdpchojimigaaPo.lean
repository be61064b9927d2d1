/- The program's preorder as an iterator. -/
import Derived.Test.YtajdpchojimigaaEv
namespace Go.Proofs.Ytajdpchojimigaa
open Go.RowKit Go.Shelf TmM
attribute [local go_sem] Oper.semAt_some

set_option maxHeartbeats 1000000 in
set_option maxRecDepth 100000 in
theorem all1_in (n l n0 n1 B Bt : Nat) (f : Fo) (a : Option Addr) (cap : Nat) (J Jx : List Ev → World → Prop) (hJ : AbidesFrom B J)
    (hY : ∀ m pre x W, J pre W → pre.length < f.count → YieldAt Fence.wide m Try.prog l x.enc W fun e W' =>
      (e = .returned (.bool true) ∧ J (pre ++ [x]) W' ∧ KpC n0 n1 W W') ∨ (e = .returned (.bool false) ∧ Jx (pre ++ [x]) W'))
    (W : World) (hBt : W.cell? ⟨Bt, 0, none⟩ = some (.slice a f.len cap)) (hsm : Small f) (hL : f.count ≤ 1000000) (hs : Sl n0 W a cap f) (hn : n1 ≤ W.heap.size) (h0 : J [] W) :
    CallsIn Fence.wide n Try.prog 95 #[.func (.yield l) #[] #[], .pointer (some ⟨Bt, 0, none⟩)] W fun e W' => (∃ v, e = .returned v) ∧
      ((∃ ys, ys.map Ev.er = evs 0 f ∧ J ys W') ∨ (∃ pre, pre.map Ev.er <+: evs 0 f ∧ Jx pre W')) := by
  have hdd : ∀ k : Nat, (Fence.wide.depth.isSome = true → 1 ≤ k) := fun k h => by cases h
  have hv := visit_in l n0 n1 f.count B J Jx hJ hY f.count (n - 1) f a cap 0 [] W (Nat.le_refl _) hsm (by omega) hs hn h0 (by simp)
  have HV := Lib.hid (show CallsIn Fence.wide (n - 1) Try.prog 58 #[.slice a f.len cap, .int .i64 0, .func (.yield l) #[] #[]] W (VisitOut n0 n1 J Jx 0 f [] W) from hv)
  clear hv hY hJ hs hsm
  refine callsIn_of_wp Try.func95 rfl trivial ?_ rfl
  simp only [Try.ntmps95, List.size_toArray, List.length_cons, List.length_nil, Nat.reduceAdd, Nat.reduceSub, Array.replicate_succ, Array.replicate_zero, List.push_toArray, List.append_toArray, List.nil_append, List.cons_append]
  gi_wp2_with (refine ⟨trivial, ?_⟩; refine ⟨hdd _, ?_⟩; gi_at_call 58; refine HV.out.mono ?_; rintro e W3 (⟨rfl, ⟨ys, hys, hJ3⟩, hk3⟩ | ⟨rfl, q, hq, hx3⟩))
  · go_end0
    exact ⟨⟨_, rfl⟩, .inl ⟨ys, hys.out, by simpa using hJ3.out⟩⟩
  · go_end0
    exact ⟨⟨_, rfl⟩, .inr ⟨q, hq.out, by simpa using hx3.out⟩⟩

set_option maxHeartbeats 1000000 in
theorem preorder_any (a : Option Addr) (n cap : Nat) (w : World) : Calls Try.prog 72 #[.slice a n cap] w fun e w' =>
    e = .returned (.func (.func 95) #[] #[.pointer (some ⟨w.heap.size, 0, none⟩)]) ∧ w' = w.alloc (.cells #[.slice a n cap] 22) := by
  go_enter Try.func72, Try.ntmps72
  go_wp2
  go_ret
  exact ⟨rfl, rfl⟩

theorem preorder_stops (n n0 n1 Bt : Nat) (f : Fo) (a : Option Addr) (cap : Nat) (w : World) (hBt : Bt < w.heap.size) (hn1 : n1 ≤ w.heap.size) (hn0 : n0 ≤ w.heap.size) (hc : w.cell? ⟨Bt, 0, none⟩ = some (.slice a f.len cap))
    (hsm : Small f) (hL : f.count ≤ 1000000) (hs : Sl n0 w a cap f) :
    SeqStopsK Fence.wide n Try.prog 95 #[.pointer (some ⟨Bt, 0, none⟩)] Ev.enc (KpC n0 n1) (fun xs => xs.map Ev.er = evs 0 f) (fun pre => pre.map Ev.er <+: evs 0 f) f.count w :=
  fun l J Jx W hW hJ _ hY h0 =>
    all1_in n l n0 n1 W.heap.size Bt f a cap J Jx hJ (fun m pre x W' hj hl => YieldAt.anyDepth rfl m (hY pre x W' hj hl)) W ((hW.cell (p := ⟨Bt, 0, none⟩) hBt).trans hc) hsm hL (hs.below (hW.mono hn0) (Nat.le_refl _)) (Nat.le_trans hn1 hW.size) h0

end Go.Proofs.Ytajdpchojimigaa
