/- The error that the rows list. -/
import Derived.Test.YtebejllehbpahaaGreatDoorLd
import Derived.Test.YtebejllehbpahaaGreatDoorPu
/- What a row's condition on the library's variables gives: the error of a range is laid. -/
namespace Go.Proofs.YtebejllehbpahaaGreatDoor
open Go.ChangeShapes Go.WideShapes Go.ChangeAt Go.RowKit Go.Proofs.ArM

theorem errStar : "*" ++ "errors.errorString" = "*errors.errorString" := by decide
theorem errRow (u : TypeId) (h : Tryz.prog.typeName? 3 u = some "*errors.errorString") : u = 140 :=
  typeName_ptr_named (nm := "errors.errorString") (by rw [errStar]; kernel_rfl) (by kernel_rfl) (by decide) u (by rw [errStar]; exact h)

theorem errv_of_laid {W : World} (h : laidMetH Tryz.prog laidL W) : ErrV W := by
  rw [MakeChecks.laidMetH_plain _ _ _ (by kernel_rfl)] at h
  obtain ⟨a, s, hv, -, -, -⟩ := laid_sentinel (ti := 76) (tp := 140) (te := 142) (ts := 9) (g := 1) h.tail.tail.tail (by kernel_rfl) (by kernel_rfl) Tryz.underlying76 errRow Tryz.underlying140 Tryz.underlying142 rfl rfl Tryz.underlying9 (by kernel_rfl) (by kernel_rfl)
  exact ⟨_, _, hv⟩
end Go.Proofs.YtebejllehbpahaaGreatDoor
