/-
  CostBound is true for every two arrays of five ints and every pace, on every machine: no condition.
-/
import Derived.Test.YtafogggfiopcgaaRows
import Derived.WalkKit
import Derived.ProofKit
import Derived.OpenShut
import Derived.Carry
import Derived.SizedLaws
import Derived.Test.YtafogggfiopcgaaCShell
import Derived.Test.YtafogggfiopcgaaCBound
import Derived.Test.YtafogggfiopcgaaCKK
namespace Go.Proofs.Ytafogggfiopcgaa.costBound
open Wd Go.ChangeShapes Go.WideShapes Go.ChangeAt Go.RowKit
set_option linter.unusedVariables false

theorem own : ownKnob Try.prog.godebug = none := by kernel_rfl

set_option maxRecDepth 100000 in
theorem lifted (os : Os) (started : os.Started) (H : Type) (enc : TypeId × Value → H) :
    ReturnsInHanded {} Try.checked os 5 .any (Rows.costBoundSpec.pre6 enc Try.prog Try.f5 Rows.costBoundRow.domain false) (Rows.costBoundSpec.post enc Try.prog Try.f5 false true false false) := by
  refine returnsInHanded_of_change (C := Try.checked) own started (by kernel_rfl) Try.func5
    (ChangeSpec.witness6 (enc := enc) (C := Try.checked) false ⟨#[], #[.agg #[.int .i64 0, .int .i64 0, .int .i64 0, .int .i64 0, .int .i64 0], .agg #[.int .i64 0, .int .i64 0, .int .i64 0, .int .i64 0, .int .i64 0], .int .i64 0], []⟩ 8 (by kernel_rfl) (by kernel_rfl) (by kernel_rfl) (by kernel_rfl)) ?_
  intro W base args ds gs before hval0 hW hcnd _
  have hval : ∀ (j : Nat) t v, Try.f5.params[j]? = some t → args[j]? = some v → Value.okWide Try.prog W .any base t v := hval0
  have hW' := hW
  obtain ⟨p, q, hA0, hV, rfl, hfz, hnd⟩ := hW
  have hA : DataW.TrodAll enc Try.prog W 0 (fun _ => true) true Try.f5.params.toList args.toList ds p := hA0
  rw [Try.params5] at hA hval
  obtain ⟨v0, vs0, d0, ds0, p0, q0, hargs, rfl, rfl, h0, r0⟩ := trodAll_cons hA
  obtain ⟨v1, vs1, d1, ds1, p1, q1, rfl, rfl, rfl, h1, r1⟩ := trodAll_cons r0
  obtain ⟨v2, vs2, d2, ds2, p2, q2, rfl, rfl, rfl, h2, r2⟩ := trodAll_cons r1
  obtain ⟨rfl, rfl, rfl⟩ := trodAll_nil r2
  obtain rfl : args = #[v0, v1, v2] := by cases args; simp_all
  obtain ⟨rfl, rfl⟩ := trodVars_none hV
  obtain ⟨a0_0, a0_1, a0_2, a0_3, a0_4, rfl, rfl, rfl, w0_0, w0_1, w0_2, w0_3, w0_4⟩ := open5 (hval 0 23 v0 rfl rfl) h0
  obtain ⟨b0_0, c0_0⟩ := bounds_i64 w0_0
  obtain ⟨b0_1, c0_1⟩ := bounds_i64 w0_1
  obtain ⟨b0_2, c0_2⟩ := bounds_i64 w0_2
  obtain ⟨b0_3, c0_3⟩ := bounds_i64 w0_3
  obtain ⟨b0_4, c0_4⟩ := bounds_i64 w0_4
  obtain ⟨a1_0, a1_1, a1_2, a1_3, a1_4, rfl, rfl, rfl, w1_0, w1_1, w1_2, w1_3, w1_4⟩ := open5 (hval 1 23 v1 rfl rfl) h1
  obtain ⟨b1_0, c1_0⟩ := bounds_i64 w1_0
  obtain ⟨b1_1, c1_1⟩ := bounds_i64 w1_1
  obtain ⟨b1_2, c1_2⟩ := bounds_i64 w1_2
  obtain ⟨b1_3, c1_3⟩ := bounds_i64 w1_3
  obtain ⟨b1_4, c1_4⟩ := bounds_i64 w1_4
  obtain ⟨a2, rfl, rfl, rfl, w2⟩ := open_int Try.underlying3 (hval 2 3 v2 rfl rfl) h2
  obtain ⟨b2, c2⟩ := bounds_i64 w2
  clear hA0 hval0
  refine ((bound_any KK) a0_0 a0_1 a0_2 a0_3 a0_4 a1_0 a1_1 a1_2 a1_3 a1_4 a2 b2 c2 W).mono fun e W' ⟨he, hg⟩ => ?_
  subst he
  exact ⟨_, rfl, _, _, _, [], _, [], hW', (trodAll_cons_mk (shut_bool Try.underlying4 _) trodAll_mk0), (trodAll_cons_mk (shut5 w0_0 w0_1 w0_2 w0_3 w0_4) (trodAll_cons_mk (shut5 w1_0 w1_1 w1_2 w1_3 w1_4) (trodAll_cons_mk (shut_int Try.underlying3 w2) trodAll_mk0))), rfl, hg.frame _, fun h => by cases h⟩

theorem over : Rows.costBoundRow.holds Try.pinned (OpenSpec.ofChange Rows.costBoundSpec) :=
  OpenClaim.holds_of_wide 5 Try.f5 rfl rfl rfl rfl rfl rfl rfl ⟨rfl, rfl, rfl, rfl, rfl⟩ rfl rfl rfl rfl rfl (by kernel_rfl) Try.func5 (by kernel_rfl)
    (of_decide_eq_true (by kernel_rfl)) (by unfold Func.isWrapper; first | (rw [if_pos (by decide +kernel)]; kernel_rfl) | (rw [if_neg (by decide +kernel)]; exact ⟨rfl, rfl⟩))
    (fun os started H enc _ => lifted os started H enc)

theorem proved : Rows.CostBoundSaid :=
  over
#print axioms proved
end Go.Proofs.Ytafogggfiopcgaa.costBound
