/- The law RopeJoins of the document returns true for every input, and each argument reads behind the call as it read before it; conditions: those of the row itself, no others. -/
import Derived.Deep.Matrix
import Derived.Test.YtamcobncfbjdmaaRY
import Derived.Test.YtamcobncfbjdmaaRows
import Derived.ProofKit
import Derived.OpenShut
import Derived.SizedLaws
namespace Go.Proofs.Ytamcobncfbjdmaa
open Go.ChangeShapes Go.WideShapes Go.ChangeAt Go.RowKit

theorem joins_own : ownKnob Try.prog.godebug = none := by kernel_rfl

set_option maxRecDepth 100000 in
theorem joins_lifted (os : Os) (started : os.Started) (H : Type) (enc : TypeId × Value → H) :
    ReturnsInHanded {} Try.checked os 7 .any (Rows.ropeJoinsSpec.pre6 enc Try.prog Try.f7 Rows.ropeJoinsRow.domain false) (Rows.ropeJoinsSpec.post enc Try.prog Try.f7 false true false false) := by
  refine returnsInHanded_of_change (C := Try.checked) joins_own started (by kernel_rfl) Try.func7
    (ChangeSpec.witness6 (enc := enc) (C := Try.checked) false ⟨#[], #[.slice none 0 0, .slice none 0 0, .slice none 0 0, .int .u16 0, .int .u16 0, .int .u16 0], []⟩ 8 (by kernel_rfl) (by kernel_rfl) (by kernel_rfl) (by kernel_rfl)) ?_
  intro W base args ds gs before hval0 hW _ _
  have hval : ∀ (j : Nat) t v, Try.f7.params[j]? = some t → args[j]? = some v → Value.okWide Try.prog W .any base t v := hval0
  have hW' := hW
  obtain ⟨p, q, hA0, hV, rfl, hfz, hnd⟩ := hW
  have hA : DataW.TrodAll enc Try.prog W 0 (fun _ => true) true Try.f7.params.toList args.toList ds p := hA0
  rw [Try.params7] at hA hval
  obtain ⟨v0, vs0, d0, ds0, p0, q0, hargs, rfl, rfl, h0, r0⟩ := trodAll_cons hA
  obtain ⟨v1, vs1, d1, ds1, p1, q1, hargs1, rfl, rfl, h1, r1⟩ := trodAll_cons r0
  obtain ⟨v2, vs2, d2, ds2, p2, q2, hargs2, rfl, rfl, h2, r2⟩ := trodAll_cons r1
  obtain ⟨v3, vs3, d3, ds3, p3, q3, hargs3, rfl, rfl, h3, r3⟩ := trodAll_cons r2
  obtain ⟨v4, vs4, d4, ds4, p4, q4, hargs4, rfl, rfl, h4, r4⟩ := trodAll_cons r3
  obtain ⟨v5, vs5, d5, ds5, p5, q5, hargs5, rfl, rfl, h5, r5⟩ := trodAll_cons r4
  obtain ⟨rfl, rfl, rfl⟩ := trodAll_nil r5
  obtain rfl : args = #[v0, v1, v2, v3, v4, v5] := by cases args; simp_all
  obtain ⟨rfl, rfl⟩ := trodVars_none hV
  obtain ⟨a0, len0, cap0, rfl⟩ := okWide_slice Try.underlying22 (hval 0 22 v0 rfl rfl)
  obtain ⟨l0, rfl, hc0, hs0, hz0⟩ := sqLz_of h0
  have harg0 := fun W' (hn : Below W.heap.size W W') => Below.trod Try.laidOut (by kernel_rfl) (of_decide_eq_true (by kernel_rfl)) h0 hn (trod_blocks h0)
  obtain ⟨a1, len1, cap1, rfl⟩ := okWide_slice Try.underlying22 (hval 1 22 v1 rfl rfl)
  obtain ⟨l1, rfl, hc1, hs1, hz1⟩ := sqLz_of h1
  have harg1 := fun W' (hn : Below W.heap.size W W') => Below.trod Try.laidOut (by kernel_rfl) (of_decide_eq_true (by kernel_rfl)) h1 hn (trod_blocks h1)
  obtain ⟨a2, len2, cap2, rfl⟩ := okWide_slice Try.underlying22 (hval 2 22 v2 rfl rfl)
  obtain ⟨l2, rfl, hc2, hs2, hz2⟩ := sqLz_of h2
  have harg2 := fun W' (hn : Below W.heap.size W W') => Below.trod Try.laidOut (by kernel_rfl) (of_decide_eq_true (by kernel_rfl)) h2 hn (trod_blocks h2)
  obtain ⟨n3, rfl, rfl, rfl, hs3⟩ := open_int Try.underlying53 (hval 3 53 v3 rfl rfl) h3
  have hx3 : 0 ≤ n3 ∧ n3 ≤ 65535 := by simpa [Lit.wf, IntKind.min, IntKind.max, IntKind.signed, IntKind.bits] using hs3
  obtain ⟨n4, rfl, rfl, rfl, hs4⟩ := open_int Try.underlying53 (hval 4 53 v4 rfl rfl) h4
  have hx4 : 0 ≤ n4 ∧ n4 ≤ 65535 := by simpa [Lit.wf, IntKind.min, IntKind.max, IntKind.signed, IntKind.bits] using hs4
  obtain ⟨n5, rfl, rfl, rfl, hs5⟩ := open_int Try.underlying53 (hval 5 53 v5 rfl rfl) h5
  have hx5 : 0 ≤ n5 ∧ n5 ≤ 65535 := by simpa [Lit.wf, IntKind.min, IntKind.max, IntKind.signed, IntKind.bits] using hs5
  clear hA0 hval0
  simp only [List.append_nil] at hW'
  refine (lawJoins_any a0 a1 a2 cap0 cap1 cap2 l0 l1 l2 n3 n4 n5 W hs0 hs1 hs2 hz0 hz1 hz2 hc0 hc1 hc2 hx3 hx4 hx5).mono fun e W' ⟨he, hb⟩ => ?_
  subst he
  exact ⟨_, rfl, _, _, _, [], _, [], hW', (trodAll_cons_mk (shut_bool Try.underlying4 _) trodAll_mk0), (trodAll_cons_mk (harg0 _ hb) (trodAll_cons_mk (harg1 _ hb) (trodAll_cons_mk (harg2 _ hb) (trodAll_cons_mk (shut_int Try.underlying53 hs3) (trodAll_cons_mk (shut_int Try.underlying53 hs4) (trodAll_cons_mk (shut_int Try.underlying53 hs5) trodAll_mk0)))))), rfl, hb.frame _, fun h => by cases h⟩

theorem ropeJoins_holds : Rows.RopeJoinsSaid :=
  OpenClaim.holds_of_wide 7 Try.f7 rfl rfl rfl rfl rfl rfl rfl ⟨rfl, rfl, rfl, rfl, rfl⟩ rfl rfl rfl rfl rfl (by kernel_rfl) Try.func7 (by kernel_rfl)
    (of_decide_eq_true (by kernel_rfl)) (by unfold Func.isWrapper; first | (rw [if_pos (by decide +kernel)]; kernel_rfl) | (rw [if_neg (by decide +kernel)]; exact ⟨rfl, rfl⟩))
    (fun os started H enc _ => joins_lifted os started H enc)
end Go.Proofs.Ytamcobncfbjdmaa
