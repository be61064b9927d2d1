/- The program's metacode of an expression. -/
import Derived.Test.YtfajodndpoepcaaVc
namespace Go.Proofs.Ytfajodndpoepcaa
open Go.RowKit TmM

/-- the methods, by kinds. -/
def turnsL : List Value := [.nilFunc, .func (.func 56) #[] #[], .func (.func 57) #[] #[], .func (.func 57) #[] #[], .func (.func 58) #[] #[],
  .func (.func 59) #[] #[], .func (.func 59) #[] #[], .func (.func 59) #[] #[], .func (.func 60) #[] #[]]

theorem turns_any (w : World) : Calls Try.prog 39 #[] w (OutV w (.agg turnsL.toArray)) := by
  have s0 := fun (a : Addr) (w : World) => run_store Try.prog w a .nilFunc .plain rfl
  have sf := fun (n : Nat) (a : Addr) (w : World) => run_store Try.prog w a (.func (.func n) #[] #[]) .plain rfl
  go_enter Try.func39, Try.ntmps39
  go_wp2
  refine bodyPost_ret (v := .agg turnsL.toArray) (by simp [results, Try.results39, go_sem, turnsL]) rfl ?_
  have hb : Below w.heap.size w (w.alloc (.cells turnsL.toArray 45)) := (Below.refl _ _).alloc (Nat.le_refl _) _
  exact ⟨rfl, hb⟩
end Go.Proofs.Ytfajodndpoepcaa
