/-
  For every word w and every int n the law WordKinds returns true: a word is a number, or an identity, or None, and no two of these. No condition.
-/
import Derived.Test.YtfbaklkfjcnbbaaRows
import Derived.WalkKit
import Derived.ProofKit
import Derived.OpenShut
import Derived.Deep.RegionWith
import Derived.Test.YtfbaklkfjcnbbaaTwo
import Derived.Test.YtfbaklkfjcnbbaaPures
namespace Go.Proofs.Ytfbaklkfjcnbbaa.wordKinds
open Wd Go.ChangeShapes Go.WideShapes Go.ChangeAt Go.RowKit
set_option linter.unusedVariables false      -- a walk need not use every 'w<i>' (that an integer argument fits its kind)

theorem own : ownKnob Try.prog.godebug = none := by kernel_rfl

set_option maxHeartbeats 4000000 in
set_option maxRecDepth 100000 in
theorem walk (a0 : Int) (a1 : Int) (w0 : (Lit.int .u32 a0).wf = true) (w1 : (Lit.int .i64 a1).wf = true) (w : World) :
    Calls Try.prog 7 #[.int .u32 a0, .int .i64 a1] w fun e w' => e = .returned (.bool true) ∧ Grown w w' := by
  obtain ⟨p1, p2⟩ := bounds_u32 w0
  clear w0 w1
  have hn : (isD (ov a1) = true ∧ dv (ov a1) = a1 ∧ 1 ≤ a1 ∧ a1 ≤ 2147483647) ∨ (isD (ov a1) = false ∧ a1 < 1) ∨ (isD (ov a1) = false ∧ 1 ≤ a1 ∧ decide (a1 ≤ 2147483647) = false) := by
    by_cases h1 : a1 < 1
    · exact Or.inr (Or.inl ⟨ov_no (Or.inl h1), h1⟩)
    · by_cases h2 : 2147483647 < a1
      · exact Or.inr (Or.inr ⟨ov_no (Or.inr h2), by omega, by simp; omega⟩)
      · have := ov_yes (n := a1) (by omega) (by omega)
        exact Or.inl ⟨this.2.1, this.2.2, by omega, by omega⟩
  have ha : (isN a0 = true ∧ isD a0 = false ∧ (a0 != 0) = true ∧ 1 ≤ a0) ∨ (isN a0 = false ∧ isD a0 = true ∧ (a0 != 0) = true ∧ 1 ≤ a0 ∧ ov (dv a0) = a0) ∨ a0 = 0 := by
    by_cases hz : a0 = 0
    · exact Or.inr (Or.inr hz)
    · have hz' : (a0 != 0) = true := by simp [hz]
      cases h : isN a0
      · exact Or.inr (Or.inl ⟨rfl, isD_obj h hz, hz', by omega, ov_dv p1 p2 h hz⟩)
      · exact Or.inl ⟨rfl, isD_num h, hz', by omega⟩
  have z1 : isN 0 = false := by decide
  have z2 : isD 0 = false := by decide
  rcases ha with ⟨q1, q2, q3, q4⟩ | ⟨q1, q2, q3, q4, q5⟩ | rfl <;> rcases hn with ⟨n1, n2, n3, n4⟩ | ⟨n1, n2⟩ | ⟨n1, n2, n3⟩ <;>
  · go_enter Try.func7, Try.ntmps7
    go_wp2_with (first | (go_at_call 14; ((with_reducible refine (Num_c _ ?_ ?_ _).mono ?_); (first | omega | exact (bits_bd _ _ _).1 | exact (bits_bd _ _ _).2 | exact (iv_bd _).1 | exact (iv_bd _).2 | exact (ov_bd _).1 | exact (ov_bd _).2 | exact (addv_bd _ _).1 | exact (addv_bd _ _).2 | exact (subv_bd _ _).1 | exact (subv_bd _ _).2 | exact (mulv_bd _ _).1 | exact (mulv_bd _ _).2 | exact (divv_bd _ _).1 | exact (divv_bd _ _).2); (first | omega | exact (bits_bd _ _ _).1 | exact (bits_bd _ _ _).2 | exact (iv_bd _).1 | exact (iv_bd _).2 | exact (ov_bd _).1 | exact (ov_bd _).2 | exact (addv_bd _ _).1 | exact (addv_bd _ _).2 | exact (subv_bd _ _).1 | exact (subv_bd _ _).2 | exact (mulv_bd _ _).1 | exact (mulv_bd _ _).2 | exact (divv_bd _ _).1 | exact (divv_bd _ _).2); rintro e w' ⟨rfl, rfl⟩)) | (go_at_call 19; ((with_reducible refine (ID_c _ ?_ ?_ _).mono ?_); (first | omega | exact (bits_bd _ _ _).1 | exact (bits_bd _ _ _).2 | exact (iv_bd _).1 | exact (iv_bd _).2 | exact (ov_bd _).1 | exact (ov_bd _).2 | exact (addv_bd _ _).1 | exact (addv_bd _ _).2 | exact (subv_bd _ _).1 | exact (subv_bd _ _).2 | exact (mulv_bd _ _).1 | exact (mulv_bd _ _).2 | exact (divv_bd _ _).1 | exact (divv_bd _ _).2); (first | omega | exact (bits_bd _ _ _).1 | exact (bits_bd _ _ _).2 | exact (iv_bd _).1 | exact (iv_bd _).2 | exact (ov_bd _).1 | exact (ov_bd _).2 | exact (addv_bd _ _).1 | exact (addv_bd _ _).2 | exact (subv_bd _ _).1 | exact (subv_bd _ _).2 | exact (mulv_bd _ _).1 | exact (mulv_bd _ _).2 | exact (divv_bd _ _).1 | exact (divv_bd _ _).2); rintro e w' ⟨rfl, rfl⟩)) | (go_at_call 20; ((with_reducible refine (Oop_c _ _).mono ?_); rintro e w' ⟨rfl, rfl⟩)) | (go_at_call 12; ((with_reducible refine (known_c _).mono ?_); rintro e w' ⟨rfl, n, rfl⟩)))
    all_goals go_ret
    exact ⟨rfl, Dr.grown (Dr.step _)⟩

set_option maxRecDepth 100000 in
theorem lifted (os : Os) (started : os.Started) (H : Type) (enc : TypeId × Value → H) :
    ReturnsInHanded {} Try.checked os 7 .any (Rows.wordKindsSpec.pre6 enc Try.prog Try.f7 Rows.wordKindsRow.domain false) (Rows.wordKindsSpec.post enc Try.prog Try.f7 false true false false) := by
  refine returnsInHanded_of_change (C := Try.checked) own started (by kernel_rfl) Try.func7
    (ChangeSpec.witness6 (enc := enc) (C := Try.checked) false ⟨#[], #[.int .u32 0, .int .i64 0], []⟩ 8 (by kernel_rfl) (by kernel_rfl) (by kernel_rfl) (by kernel_rfl)) ?_
  intro W base args ds gs before hval0 hW hcnd _
  have hval : ∀ (j : Nat) t v, Try.f7.params[j]? = some t → args[j]? = some v → Value.okWide Try.prog W .any base t v := hval0
  have hW' := hW
  obtain ⟨p, q, hA0, hV, rfl, hfz, hnd⟩ := hW
  have hA : DataW.TrodAll enc Try.prog W 0 (fun _ => true) true Try.f7.params.toList args.toList ds p := hA0
  rw [Try.params7] at hA hval
  obtain ⟨v0, vs0, d0, ds0, p0, q0, hargs, rfl, rfl, h0, r0⟩ := trodAll_cons hA
  obtain ⟨v1, vs1, d1, ds1, p1, q1, rfl, rfl, rfl, h1, r1⟩ := trodAll_cons r0
  obtain ⟨rfl, rfl, rfl⟩ := trodAll_nil r1
  obtain rfl : args = #[v0, v1] := by cases args; simp_all
  obtain ⟨rfl, rfl⟩ := trodVars_none hV
  obtain ⟨a0, rfl, rfl, rfl, w0⟩ := open_int Try.underlying25 (hval 0 25 v0 rfl rfl) h0
  obtain ⟨a1, rfl, rfl, rfl, w1⟩ := open_int Try.underlying3 (hval 1 3 v1 rfl rfl) h1
  clear hA0 hval0
  simp only [List.append_nil] at hW'
  refine (walk a0 a1 w0 w1 W).mono fun e W' ⟨he, hg⟩ => ?_
  subst he
  exact ⟨_, rfl, post_of_same (pa := []) (pv := []) hW' (fun _ _ _ => (trodAll_cons_mk (shut_bool Try.underlying4 _) trodAll_mk0)) (fun sp _ => (trodAll_cons_mk (shut_int Try.underlying25 w0) (trodAll_cons_mk (shut_int Try.underlying3 w1) trodAll_mk0))) (fun _ _ => rfl) rfl
    (hg.frame _) hg.2.1 (ok_one (by kernel_rfl) rfl (okWide_bool_mk Try.underlying4 _))⟩

theorem over : Rows.wordKindsRow.holds Try.pinned (OpenSpec.ofChange Rows.wordKindsSpec) :=
  OpenClaim.holds_of_wide 7 Try.f7 rfl rfl rfl rfl rfl rfl rfl ⟨rfl, rfl, rfl, rfl, rfl⟩ rfl rfl rfl rfl rfl (by kernel_rfl) Try.func7 (by kernel_rfl)
    (of_decide_eq_true (by kernel_rfl)) (by unfold Func.isWrapper; first | (rw [if_pos (by decide +kernel)]; kernel_rfl) | (rw [if_neg (by decide +kernel)]; exact ⟨rfl, rfl⟩))
    (fun os started H enc _ => lifted os started H enc)

theorem proved : Rows.WordKindsSaid :=
  over
#print axioms proved
end Go.Proofs.Ytfbaklkfjcnbbaa.wordKinds
