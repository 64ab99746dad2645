/-
  For every two ints n, m the law WordBack returns true: numbers come back; sums, differences and products are those of numbers, where they go in. No condition.
-/
import Derived.Test.YtfbaklkfjcnbbaaRows
import Derived.WalkKit
import Derived.ProofKit
import Derived.OpenShut
import Derived.Deep.RegionWith
import Derived.Deep.Cut
import Derived.Test.YtfbaklkfjcnbbaaTwo
import Derived.Test.YtfbaklkfjcnbbaaPures
import Derived.Test.YtfbaklkfjcnbbaaPurb
namespace Go.Proofs.Ytfbaklkfjcnbbaa.wordBack
open Wd Go.ChangeShapes Go.WideShapes Go.ChangeAt Go.RowKit
set_option linter.unusedVariables false      -- a walk need not use every 'w<i>' (that an integer argument fits its kind)

theorem own : ownKnob Try.prog.godebug = none := by kernel_rfl

set_option maxHeartbeats 16000000 in
set_option maxRecDepth 100000 in
theorem walk (a0 : Int) (a1 : Int) (w0 : (Lit.int .i64 a0).wf = true) (w1 : (Lit.int .i64 a1).wf = true) (w : World) :
    Calls Try.prog 5 #[.int .i64 a0, .int .i64 a1] w fun e w' => e = .returned (.bool true) ∧ Grown w w' := by
  clear w0 w1
  have X1 := tmod_bd a0 1073741824 (by decide)
  have Y1 := tmod_bd a1 1073741824 (by decide)
  obtain ⟨X1, X2⟩ := X1
  obtain ⟨Y1, Y2⟩ := Y1
  have fx : fits (a0.tmod 1073741824) = true := fits_yes (by omega) (by omega)
  have fy : fits (a1.tmod 1073741824) = true := fits_yes (by omega) (by omega)
  have main : ∀ x y : Int, a0.tmod 1073741824 = x → a1.tmod 1073741824 = y → Calls Try.prog 5 #[.int .i64 a0, .int .i64 a1] w fun e w' => e = .returned (.bool true) ∧ Grown w w' := by
    intro x y ex ey
    rw [ex] at X1 X2 fx
    rw [ey] at Y1 Y2 fy
    have mb := mul_bd x y (by omega) (by omega) (by omega) (by omega)
    have k0 := nv_iv fx
    have k00 := isN_iv fx
    have Fa := Lib.hid (add_facts fx fy)
    have Fs := Lib.hid (sub_facts fx fy)
    have Fm := Lib.hid (mul_facts fx fy)
    go_enter Try.func5, Try.ntmps5
    simp only [List.append_eq, List.cons_append, List.nil_append]
    go_upto_region 11 with (first | (go_at_call 13; ((with_reducible refine (Int_c _ _).mono ?_); rintro e w' ⟨rfl, rfl⟩)) | (go_at_call 14; ((with_reducible refine (Num_c _ ?_ ?_ _).mono ?_); (first | (with_reducible exact (bits_bd _ _ _).1) | (with_reducible exact (bits_bd _ _ _).2) | (with_reducible exact (iv_bd _).1) | (with_reducible exact (iv_bd _).2) | (with_reducible exact (ov_bd _).1) | (with_reducible exact (ov_bd _).2) | (with_reducible exact (addv_bd _ _).1) | (with_reducible exact (addv_bd _ _).2) | (with_reducible exact (subv_bd _ _).1) | (with_reducible exact (subv_bd _ _).2) | (with_reducible exact (mulv_bd _ _).1) | (with_reducible exact (mulv_bd _ _).2) | (with_reducible exact (divv_bd _ _).1) | (with_reducible exact (divv_bd _ _).2) | (with_reducible assumption) | omega); (first | (with_reducible exact (bits_bd _ _ _).1) | (with_reducible exact (bits_bd _ _ _).2) | (with_reducible exact (iv_bd _).1) | (with_reducible exact (iv_bd _).2) | (with_reducible exact (ov_bd _).1) | (with_reducible exact (ov_bd _).2) | (with_reducible exact (addv_bd _ _).1) | (with_reducible exact (addv_bd _ _).2) | (with_reducible exact (subv_bd _ _).1) | (with_reducible exact (subv_bd _ _).2) | (with_reducible exact (mulv_bd _ _).1) | (with_reducible exact (mulv_bd _ _).2) | (with_reducible exact (divv_bd _ _).1) | (with_reducible exact (divv_bd _ _).2) | (with_reducible assumption) | omega); rintro e w' ⟨rfl, rfl⟩)) | (go_at_call 15; ((with_reducible refine (Add_c _ _ ?_ ?_ ?_ ?_ _).mono ?_); (first | (with_reducible exact (bits_bd _ _ _).1) | (with_reducible exact (bits_bd _ _ _).2) | (with_reducible exact (iv_bd _).1) | (with_reducible exact (iv_bd _).2) | (with_reducible exact (ov_bd _).1) | (with_reducible exact (ov_bd _).2) | (with_reducible exact (addv_bd _ _).1) | (with_reducible exact (addv_bd _ _).2) | (with_reducible exact (subv_bd _ _).1) | (with_reducible exact (subv_bd _ _).2) | (with_reducible exact (mulv_bd _ _).1) | (with_reducible exact (mulv_bd _ _).2) | (with_reducible exact (divv_bd _ _).1) | (with_reducible exact (divv_bd _ _).2) | (with_reducible assumption) | omega); (first | (with_reducible exact (bits_bd _ _ _).1) | (with_reducible exact (bits_bd _ _ _).2) | (with_reducible exact (iv_bd _).1) | (with_reducible exact (iv_bd _).2) | (with_reducible exact (ov_bd _).1) | (with_reducible exact (ov_bd _).2) | (with_reducible exact (addv_bd _ _).1) | (with_reducible exact (addv_bd _ _).2) | (with_reducible exact (subv_bd _ _).1) | (with_reducible exact (subv_bd _ _).2) | (with_reducible exact (mulv_bd _ _).1) | (with_reducible exact (mulv_bd _ _).2) | (with_reducible exact (divv_bd _ _).1) | (with_reducible exact (divv_bd _ _).2) | (with_reducible assumption) | omega); (first | (with_reducible exact (bits_bd _ _ _).1) | (with_reducible exact (bits_bd _ _ _).2) | (with_reducible exact (iv_bd _).1) | (with_reducible exact (iv_bd _).2) | (with_reducible exact (ov_bd _).1) | (with_reducible exact (ov_bd _).2) | (with_reducible exact (addv_bd _ _).1) | (with_reducible exact (addv_bd _ _).2) | (with_reducible exact (subv_bd _ _).1) | (with_reducible exact (subv_bd _ _).2) | (with_reducible exact (mulv_bd _ _).1) | (with_reducible exact (mulv_bd _ _).2) | (with_reducible exact (divv_bd _ _).1) | (with_reducible exact (divv_bd _ _).2) | (with_reducible assumption) | omega); (first | (with_reducible exact (bits_bd _ _ _).1) | (with_reducible exact (bits_bd _ _ _).2) | (with_reducible exact (iv_bd _).1) | (with_reducible exact (iv_bd _).2) | (with_reducible exact (ov_bd _).1) | (with_reducible exact (ov_bd _).2) | (with_reducible exact (addv_bd _ _).1) | (with_reducible exact (addv_bd _ _).2) | (with_reducible exact (subv_bd _ _).1) | (with_reducible exact (subv_bd _ _).2) | (with_reducible exact (mulv_bd _ _).1) | (with_reducible exact (mulv_bd _ _).2) | (with_reducible exact (divv_bd _ _).1) | (with_reducible exact (divv_bd _ _).2) | (with_reducible assumption) | omega); rintro e w' ⟨rfl, rfl⟩)) | (go_at_call 16; ((with_reducible refine (Sub_c _ _ ?_ ?_ ?_ ?_ _).mono ?_); (first | (with_reducible exact (bits_bd _ _ _).1) | (with_reducible exact (bits_bd _ _ _).2) | (with_reducible exact (iv_bd _).1) | (with_reducible exact (iv_bd _).2) | (with_reducible exact (ov_bd _).1) | (with_reducible exact (ov_bd _).2) | (with_reducible exact (addv_bd _ _).1) | (with_reducible exact (addv_bd _ _).2) | (with_reducible exact (subv_bd _ _).1) | (with_reducible exact (subv_bd _ _).2) | (with_reducible exact (mulv_bd _ _).1) | (with_reducible exact (mulv_bd _ _).2) | (with_reducible exact (divv_bd _ _).1) | (with_reducible exact (divv_bd _ _).2) | (with_reducible assumption) | omega); (first | (with_reducible exact (bits_bd _ _ _).1) | (with_reducible exact (bits_bd _ _ _).2) | (with_reducible exact (iv_bd _).1) | (with_reducible exact (iv_bd _).2) | (with_reducible exact (ov_bd _).1) | (with_reducible exact (ov_bd _).2) | (with_reducible exact (addv_bd _ _).1) | (with_reducible exact (addv_bd _ _).2) | (with_reducible exact (subv_bd _ _).1) | (with_reducible exact (subv_bd _ _).2) | (with_reducible exact (mulv_bd _ _).1) | (with_reducible exact (mulv_bd _ _).2) | (with_reducible exact (divv_bd _ _).1) | (with_reducible exact (divv_bd _ _).2) | (with_reducible assumption) | omega); (first | (with_reducible exact (bits_bd _ _ _).1) | (with_reducible exact (bits_bd _ _ _).2) | (with_reducible exact (iv_bd _).1) | (with_reducible exact (iv_bd _).2) | (with_reducible exact (ov_bd _).1) | (with_reducible exact (ov_bd _).2) | (with_reducible exact (addv_bd _ _).1) | (with_reducible exact (addv_bd _ _).2) | (with_reducible exact (subv_bd _ _).1) | (with_reducible exact (subv_bd _ _).2) | (with_reducible exact (mulv_bd _ _).1) | (with_reducible exact (mulv_bd _ _).2) | (with_reducible exact (divv_bd _ _).1) | (with_reducible exact (divv_bd _ _).2) | (with_reducible assumption) | omega); (first | (with_reducible exact (bits_bd _ _ _).1) | (with_reducible exact (bits_bd _ _ _).2) | (with_reducible exact (iv_bd _).1) | (with_reducible exact (iv_bd _).2) | (with_reducible exact (ov_bd _).1) | (with_reducible exact (ov_bd _).2) | (with_reducible exact (addv_bd _ _).1) | (with_reducible exact (addv_bd _ _).2) | (with_reducible exact (subv_bd _ _).1) | (with_reducible exact (subv_bd _ _).2) | (with_reducible exact (mulv_bd _ _).1) | (with_reducible exact (mulv_bd _ _).2) | (with_reducible exact (divv_bd _ _).1) | (with_reducible exact (divv_bd _ _).2) | (with_reducible assumption) | omega); rintro e w' ⟨rfl, rfl⟩)) | (go_at_call 17; ((with_reducible refine (Mul_c _ _ ?_ ?_ ?_ ?_ _).mono ?_); (first | (with_reducible exact (bits_bd _ _ _).1) | (with_reducible exact (bits_bd _ _ _).2) | (with_reducible exact (iv_bd _).1) | (with_reducible exact (iv_bd _).2) | (with_reducible exact (ov_bd _).1) | (with_reducible exact (ov_bd _).2) | (with_reducible exact (addv_bd _ _).1) | (with_reducible exact (addv_bd _ _).2) | (with_reducible exact (subv_bd _ _).1) | (with_reducible exact (subv_bd _ _).2) | (with_reducible exact (mulv_bd _ _).1) | (with_reducible exact (mulv_bd _ _).2) | (with_reducible exact (divv_bd _ _).1) | (with_reducible exact (divv_bd _ _).2) | (with_reducible assumption) | omega); (first | (with_reducible exact (bits_bd _ _ _).1) | (with_reducible exact (bits_bd _ _ _).2) | (with_reducible exact (iv_bd _).1) | (with_reducible exact (iv_bd _).2) | (with_reducible exact (ov_bd _).1) | (with_reducible exact (ov_bd _).2) | (with_reducible exact (addv_bd _ _).1) | (with_reducible exact (addv_bd _ _).2) | (with_reducible exact (subv_bd _ _).1) | (with_reducible exact (subv_bd _ _).2) | (with_reducible exact (mulv_bd _ _).1) | (with_reducible exact (mulv_bd _ _).2) | (with_reducible exact (divv_bd _ _).1) | (with_reducible exact (divv_bd _ _).2) | (with_reducible assumption) | omega); (first | (with_reducible exact (bits_bd _ _ _).1) | (with_reducible exact (bits_bd _ _ _).2) | (with_reducible exact (iv_bd _).1) | (with_reducible exact (iv_bd _).2) | (with_reducible exact (ov_bd _).1) | (with_reducible exact (ov_bd _).2) | (with_reducible exact (addv_bd _ _).1) | (with_reducible exact (addv_bd _ _).2) | (with_reducible exact (subv_bd _ _).1) | (with_reducible exact (subv_bd _ _).2) | (with_reducible exact (mulv_bd _ _).1) | (with_reducible exact (mulv_bd _ _).2) | (with_reducible exact (divv_bd _ _).1) | (with_reducible exact (divv_bd _ _).2) | (with_reducible assumption) | omega); (first | (with_reducible exact (bits_bd _ _ _).1) | (with_reducible exact (bits_bd _ _ _).2) | (with_reducible exact (iv_bd _).1) | (with_reducible exact (iv_bd _).2) | (with_reducible exact (ov_bd _).1) | (with_reducible exact (ov_bd _).2) | (with_reducible exact (addv_bd _ _).1) | (with_reducible exact (addv_bd _ _).2) | (with_reducible exact (subv_bd _ _).1) | (with_reducible exact (subv_bd _ _).2) | (with_reducible exact (mulv_bd _ _).1) | (with_reducible exact (mulv_bd _ _).2) | (with_reducible exact (divv_bd _ _).1) | (with_reducible exact (divv_bd _ _).2) | (with_reducible assumption) | omega); rintro e w' ⟨rfl, rfl⟩)))
    clear k0 k00 ex ey fx fy
    have fa := Fa.out
    have fs := Fs.out
    have fm := Fm.out
    clear Fa Fs Fm
    generalize addok (iv x) (iv y) = A at *
    generalize nv (addv (iv x) (iv y)) = I at *
    generalize isN (addv (iv x) (iv y)) = J at *
    generalize addv (iv x) (iv y) = V at *
    generalize subok (iv x) (iv y) = A2 at *
    generalize nv (subv (iv x) (iv y)) = I2 at *
    generalize isN (subv (iv x) (iv y)) = J2 at *
    generalize subv (iv x) (iv y) = V2 at *
    generalize mulok (iv x) (iv y) = A3 at *
    generalize nv (mulv (iv x) (iv y)) = I3 at *
    generalize isN (mulv (iv x) (iv y)) = J3 at *
    generalize mulv (iv x) (iv y) = V3 at *
    obtain ⟨mb1, mb2⟩ := mb
    rcases fa with ⟨rfl, rfl, rfl, s1, s2⟩ | ⟨rfl, s1⟩ | ⟨rfl, s1, s2⟩ <;> rcases fs with ⟨rfl, rfl, rfl, d1, d2⟩ | ⟨rfl, d1⟩ | ⟨rfl, d1, d2⟩ <;> rcases fm with ⟨rfl, rfl, rfl, m1, m2⟩ | ⟨rfl, m1⟩ | ⟨rfl, m1, m2⟩ <;>
    · go_wp2_with (first | (go_at_call 12; ((with_reducible refine (known_c _).mono ?_); rintro e w' ⟨rfl, n, rfl⟩)))
      all_goals go_ret
      all_goals exact ⟨rfl, Dr.grown (Dr.step _)⟩
  exact main _ _ rfl rfl

set_option maxRecDepth 100000 in
theorem lifted (os : Os) (started : os.Started) (H : Type) (enc : TypeId × Value → H) :
    ReturnsInHanded {} Try.checked os 5 .any (Rows.wordBackSpec.pre6 enc Try.prog Try.f5 Rows.wordBackRow.domain false) (Rows.wordBackSpec.post enc Try.prog Try.f5 false true false false) := by
  refine returnsInHanded_of_change (C := Try.checked) own started (by kernel_rfl) Try.func5
    (ChangeSpec.witness6 (enc := enc) (C := Try.checked) false ⟨#[], #[.int .i64 0, .int .i64 0], []⟩ 8 (by kernel_rfl) (by kernel_rfl) (by kernel_rfl) (by kernel_rfl)) ?_
  intro W base args ds gs before hval0 hW hcnd _
  have hval : ∀ (j : Nat) t v, Try.f5.params[j]? = some t → args[j]? = some v → Value.okWide Try.prog W .any base t v := hval0
  have hW' := hW
  obtain ⟨p, q, hA0, hV, rfl, hfz, hnd⟩ := hW
  have hA : DataW.TrodAll enc Try.prog W 0 (fun _ => true) true Try.f5.params.toList args.toList ds p := hA0
  rw [Try.params5] at hA hval
  obtain ⟨v0, vs0, d0, ds0, p0, q0, hargs, rfl, rfl, h0, r0⟩ := trodAll_cons hA
  obtain ⟨v1, vs1, d1, ds1, p1, q1, rfl, rfl, rfl, h1, r1⟩ := trodAll_cons r0
  obtain ⟨rfl, rfl, rfl⟩ := trodAll_nil r1
  obtain rfl : args = #[v0, v1] := by cases args; simp_all
  obtain ⟨rfl, rfl⟩ := trodVars_none hV
  obtain ⟨a0, rfl, rfl, rfl, w0⟩ := open_int Try.underlying3 (hval 0 3 v0 rfl rfl) h0
  obtain ⟨a1, rfl, rfl, rfl, w1⟩ := open_int Try.underlying3 (hval 1 3 v1 rfl rfl) h1
  clear hA0 hval0
  simp only [List.append_nil] at hW'
  refine (walk a0 a1 w0 w1 W).mono fun e W' ⟨he, hg⟩ => ?_
  subst he
  exact ⟨_, rfl, post_of_same (pa := []) (pv := []) hW' (fun _ _ _ => (trodAll_cons_mk (shut_bool Try.underlying4 _) trodAll_mk0)) (fun sp _ => (trodAll_cons_mk (shut_int Try.underlying3 w0) (trodAll_cons_mk (shut_int Try.underlying3 w1) trodAll_mk0))) (fun _ _ => rfl) rfl
    (hg.frame _) hg.2.1 (ok_one (by kernel_rfl) rfl (okWide_bool_mk Try.underlying4 _))⟩

theorem over : Rows.wordBackRow.holds Try.pinned (OpenSpec.ofChange Rows.wordBackSpec) :=
  OpenClaim.holds_of_wide 5 Try.f5 rfl rfl rfl rfl rfl rfl rfl ⟨rfl, rfl, rfl, rfl, rfl⟩ rfl rfl rfl rfl rfl (by kernel_rfl) Try.func5 (by kernel_rfl)
    (of_decide_eq_true (by kernel_rfl)) (by unfold Func.isWrapper; first | (rw [if_pos (by decide +kernel)]; kernel_rfl) | (rw [if_neg (by decide +kernel)]; exact ⟨rfl, rfl⟩))
    (fun os started H enc _ => lifted os started H enc)

theorem proved : Rows.WordBackSaid :=
  over
#print axioms proved
end Go.Proofs.Ytfbaklkfjcnbbaa.wordBack
