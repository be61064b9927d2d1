/- The program's attempt: what recovers from what is no metacode. -/
import Derived.Test.YtfajodndpoepcaaRe
import Derived.Recover
import Derived.Defers
namespace Go.Proofs.Ytfajodndpoepcaa
open Go.RowKit TmM

theorem catch_wrong (g : Nat) (x : Int) (older : List PanicEntry) (w : World) (hg : g < w.heap.size) (hc : w.cell? ⟨g, 0, none⟩ = some (.int .i64 x)) (hz : w.frozen? ⟨g, 0, none⟩ = false) :
    CallsD Try.prog 46 #[.pointer (some ⟨g, 0, none⟩)] (.panicking ({ v := .iface 54 (.agg #[]), recovered := false } :: older)) w fun e u' w' =>
      e = .returned (.tuple #[]) ∧ u' = .panicking ({ v := .iface 54 (.agg #[]), recovered := true } :: older) ∧ w' = (w.setCell ⟨g, 0, none⟩ (.int .i64 110)).alloc (.cells #[] 54) := by
  have ta : ∀ w, (Instr.typeAssert (.iface 54 (.agg #[])) 20 54 true).run Try.prog w = .ok (.tuple #[.agg #[], .bool true]) w := fun _ => by kernel_rfl
  refine callsD_of_wpS Try.func46 rfl fun c₀ cs hu => ?_
  apply wpS_seq
  apply wpS_region
  simp [wpOpsS, go_sem, recoverD, hu, Try.ntmps46, Exit.thenS]
  refine wpS_of_wp ?_
  go_wp2
  cases c₀
  simp_all [bodyPostS, results, Try.results46]

theorem catch_idle (p : Addr) (w : World) :
    CallsD Try.prog 46 #[.pointer (some p)] .returning w fun e u' w' => e = .returned (.tuple #[]) ∧ u' = .returning ∧ w' = w := by
  refine callsD_of_wpS Try.func46 rfl fun c₀ cs hu => ?_
  apply wpS_seq
  apply wpS_region
  simp [wpOpsS, go_sem, recoverD, hu, Try.ntmps46, Exit.thenS]
  refine wpS_of_wp ?_
  go_wp2
  cases c₀
  simp_all [bodyPostS, results, Try.results46]

/-- what a function that attempt calls may leave. -/
def OutDo (ok : World → Prop) (bad : World → Prop) (e : Ending) (w' : World) : Prop := (e = .returned (.tuple #[]) ∧ ok w') ∨ (e = .panicked wrongP ∧ bad w')

/-- what attempt leaves. -/
def OutAt (g : Nat) (ok bad : World → Prop) (e : Ending) (w' : World) : Prop :=
  (∃ w2, ok w2 ∧ e = .returned (.int .i64 0) ∧ w' = w2.setCell ⟨g, 0, none⟩ (.int .i64 0)) ∨
  (∃ w2, bad w2 ∧ e = .returned (.int .i64 110) ∧ w' = (w2.setCell ⟨g, 0, none⟩ (.int .i64 110)).alloc (.cells #[] 54))

theorem attempt_any (n : Nat) (caps : Array Value) (w : World) (ok bad : World → Prop)
    (hcf : ∀ w, (callFunc n caps).run Try.prog w = .ok (.enter n caps) w)
    (hdo : Calls Try.prog n caps (w.alloc (.cells #[.int .i64 0] 25)) (OutDo ok bad))
    (hfr : ∀ w', ok w' ∨ bad w' → Boxed w' w.heap.size 25 (.int .i64 0)) :
    Calls Try.prog 31 #[.func (.func n) #[] caps] w (OutAt w.heap.size ok bad) := by
  have hmf : ∀ (fn : Fn) (first cap : Array Value) (w : World), (Instr.makeFunc fn first cap).run Try.prog w = .ok (.func fn first cap) w := fun _ _ _ _ => rfl
  have HDO := Lib.hid hdo
  have HFR := Lib.hid hfr
  clear hdo hfr
  go_enter_defers Try.func31, Try.ntmps31
  go_wp2_with fail
  refine HDO.out.mono ?_
  rintro e w2 (⟨rfl, hok⟩ | ⟨rfl, hbad⟩)
  · have hbx := HFR.out w2 (.inl hok)
    have HOK := Lib.hid hok
    have HBX := Lib.hid hbx
    have c1 := hbx.cell
    have f1 := hbx.frozen
    clear hok hbx
    go_wp2
    refine leaves_cons (f := 46) (args := #[.pointer (some ⟨w.heap.size, 0, none⟩)]) (by simp) (by simp [go_sem]) ?_
    refine (catch_idle _ _).mono ?_
    rintro e u' w'' ⟨rfl, rfl, rfl⟩
    have c2 := (HBX.out.set (.int .i64 0)).cell
    refine ⟨.int .i64 0, by simp [results, Try.results31, go_sem, c2], ?_⟩
    exact .inl ⟨w2, HOK.out, rfl, rfl⟩
  · have hbx := HFR.out w2 (.inr hbad)
    have c1 := hbx.cell
    have f1 := hbx.frozen
    refine leaves_cons (f := 46) (args := #[.pointer (some ⟨w.heap.size, 0, none⟩)]) (by simp) (by simp [go_sem]) ?_
    refine (catch_wrong _ 0 [] w2 hbx.lt c1 f1).mono ?_
    rintro e u' w'' ⟨rfl, rfl, rfl⟩
    have c2 := ((hbx.set (.int .i64 110)).alloc (.cells #[] 54)).cell
    refine ⟨.int .i64 110, by simp [results, Try.results31, go_sem, c2], ?_⟩
    exact .inr ⟨w2, hbad, rfl, rfl⟩
end Go.Proofs.Ytfajodndpoepcaa
