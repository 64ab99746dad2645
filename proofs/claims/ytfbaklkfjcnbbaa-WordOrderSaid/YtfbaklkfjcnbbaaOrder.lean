/-
  For every three ints a, b, c the law WordOrder returns true: less is an order, and sums with one number keep it. No condition.
-/
import Derived.Test.YtfbaklkfjcnbbaaRows
import Derived.WalkKit
import Derived.ProofKit
import Derived.OpenShut
import Derived.Deep.RegionWith
import Derived.Test.YtfbaklkfjcnbbaaTwo
import Derived.Test.YtfbaklkfjcnbbaaPures
namespace Go.Proofs.Ytfbaklkfjcnbbaa.wordOrder
open Wd Go.ChangeShapes Go.WideShapes Go.ChangeAt Go.RowKit
set_option linter.unusedVariables false      -- a walk need not use every 'w<i>' (that an integer argument fits its kind)

theorem own : ownKnob Try.prog.godebug = none := by kernel_rfl

set_option maxHeartbeats 4000000 in
theorem walk (a0 : Int) (a1 : Int) (a2 : Int) (w0 : (Lit.int .i64 a0).wf = true) (w1 : (Lit.int .i64 a1).wf = true) (w2 : (Lit.int .i64 a2).wf = true) (w : World) :
    Calls Try.prog 8 #[.int .i64 a0, .int .i64 a1, .int .i64 a2] w fun e w' => e = .returned (.bool true) ∧ Grown w w' := by
  clear w0 w1 w2
  have X1 := tmod_bd a0 268435456 (by decide)
  have Y1 := tmod_bd a1 268435456 (by decide)
  have Z1 := tmod_bd a2 268435456 (by decide)
  obtain ⟨X1, X2⟩ := X1
  obtain ⟨Y1, Y2⟩ := Y1
  obtain ⟨Z1, Z2⟩ := Z1
  have main : ∀ x y z : Int, a0.tmod 268435456 = x → a1.tmod 268435456 = y → a2.tmod 268435456 = z → Calls Try.prog 8 #[.int .i64 a0, .int .i64 a1, .int .i64 a2] w fun e w' => e = .returned (.bool true) ∧ Grown w w' := by
    intro x y z ex ey ez
    rw [ex] at X1 X2
    rw [ey] at Y1 Y2
    rw [ez] at Z1 Z2
    have fx : fits x = true := fits_yes (by omega) (by omega)
    have fy : fits y = true := fits_yes (by omega) (by omega)
    have fz : fits z = true := fits_yes (by omega) (by omega)
    have fxz : fits (x + z) = true := fits_yes (by omega) (by omega)
    have fyz : fits (y + z) = true := fits_yes (by omega) (by omega)
    have k1 := lessv_iv fx fy
    have k2 := lessv_iv fy fx
    have k3 := both_iv fx fy
    have k4 := both_iv fy fx
    have k5 := addok_iv fx fz
    have k6 := addv_iv fx fz
    have k7 := addok_iv fy fz
    have k8 := addv_iv fy fz
    have k9 := lessv_iv fxz fyz
    have k10 := both_iv fxz fyz
    have k11 := both_two (iv x)
    rw [fxz] at k5
    rw [fyz] at k7
    have fp : (decide (x < y) = true ∧ decide (y < x) = false ∧ decide (x + z < y + z) = true) ∨ (decide (x < y) = false ∧ decide (y < x) = true ∧ decide (x + z < y + z) = false) ∨ x = y := by
      by_cases h : x < y
      · left; simp [h]; omega
      · by_cases h2 : y < x
        · right; left; simp [h2]; omega
        · right; right; omega
    rcases fp with ⟨p1, p2, p3⟩ | ⟨p1, p2, p3⟩ | rfl
    · rw [p1] at k1
      rw [p2] at k2
      rw [p3] at k9
      clear p1 p2 p3
      go_enter Try.func8, Try.ntmps8
      go_wp2_with (first | (go_at_call 13; ((with_reducible refine (Int_c _ _).mono ?_); rintro e w' ⟨rfl, rfl⟩)) | (go_at_call 15; ((with_reducible refine (Add_c _ _ ?_ ?_ ?_ ?_ _).mono ?_); (first | omega | exact (bits_bd _ _ _).1 | exact (bits_bd _ _ _).2 | exact (iv_bd _).1 | exact (iv_bd _).2 | exact (ov_bd _).1 | exact (ov_bd _).2 | exact (addv_bd _ _).1 | exact (addv_bd _ _).2 | exact (subv_bd _ _).1 | exact (subv_bd _ _).2 | exact (mulv_bd _ _).1 | exact (mulv_bd _ _).2 | exact (divv_bd _ _).1 | exact (divv_bd _ _).2); (first | omega | exact (bits_bd _ _ _).1 | exact (bits_bd _ _ _).2 | exact (iv_bd _).1 | exact (iv_bd _).2 | exact (ov_bd _).1 | exact (ov_bd _).2 | exact (addv_bd _ _).1 | exact (addv_bd _ _).2 | exact (subv_bd _ _).1 | exact (subv_bd _ _).2 | exact (mulv_bd _ _).1 | exact (mulv_bd _ _).2 | exact (divv_bd _ _).1 | exact (divv_bd _ _).2); (first | omega | exact (bits_bd _ _ _).1 | exact (bits_bd _ _ _).2 | exact (iv_bd _).1 | exact (iv_bd _).2 | exact (ov_bd _).1 | exact (ov_bd _).2 | exact (addv_bd _ _).1 | exact (addv_bd _ _).2 | exact (subv_bd _ _).1 | exact (subv_bd _ _).2 | exact (mulv_bd _ _).1 | exact (mulv_bd _ _).2 | exact (divv_bd _ _).1 | exact (divv_bd _ _).2); (first | omega | exact (bits_bd _ _ _).1 | exact (bits_bd _ _ _).2 | exact (iv_bd _).1 | exact (iv_bd _).2 | exact (ov_bd _).1 | exact (ov_bd _).2 | exact (addv_bd _ _).1 | exact (addv_bd _ _).2 | exact (subv_bd _ _).1 | exact (subv_bd _ _).2 | exact (mulv_bd _ _).1 | exact (mulv_bd _ _).2 | exact (divv_bd _ _).1 | exact (divv_bd _ _).2); rintro e w' ⟨rfl, rfl⟩)) | (go_at_call 21; ((with_reducible refine (Less_c _ _ ?_ ?_ ?_ ?_ _).mono ?_); (first | omega | exact (bits_bd _ _ _).1 | exact (bits_bd _ _ _).2 | exact (iv_bd _).1 | exact (iv_bd _).2 | exact (ov_bd _).1 | exact (ov_bd _).2 | exact (addv_bd _ _).1 | exact (addv_bd _ _).2 | exact (subv_bd _ _).1 | exact (subv_bd _ _).2 | exact (mulv_bd _ _).1 | exact (mulv_bd _ _).2 | exact (divv_bd _ _).1 | exact (divv_bd _ _).2); (first | omega | exact (bits_bd _ _ _).1 | exact (bits_bd _ _ _).2 | exact (iv_bd _).1 | exact (iv_bd _).2 | exact (ov_bd _).1 | exact (ov_bd _).2 | exact (addv_bd _ _).1 | exact (addv_bd _ _).2 | exact (subv_bd _ _).1 | exact (subv_bd _ _).2 | exact (mulv_bd _ _).1 | exact (mulv_bd _ _).2 | exact (divv_bd _ _).1 | exact (divv_bd _ _).2); (first | omega | exact (bits_bd _ _ _).1 | exact (bits_bd _ _ _).2 | exact (iv_bd _).1 | exact (iv_bd _).2 | exact (ov_bd _).1 | exact (ov_bd _).2 | exact (addv_bd _ _).1 | exact (addv_bd _ _).2 | exact (subv_bd _ _).1 | exact (subv_bd _ _).2 | exact (mulv_bd _ _).1 | exact (mulv_bd _ _).2 | exact (divv_bd _ _).1 | exact (divv_bd _ _).2); (first | omega | exact (bits_bd _ _ _).1 | exact (bits_bd _ _ _).2 | exact (iv_bd _).1 | exact (iv_bd _).2 | exact (ov_bd _).1 | exact (ov_bd _).2 | exact (addv_bd _ _).1 | exact (addv_bd _ _).2 | exact (subv_bd _ _).1 | exact (subv_bd _ _).2 | exact (mulv_bd _ _).1 | exact (mulv_bd _ _).2 | exact (divv_bd _ _).1 | exact (divv_bd _ _).2); rintro e w' ⟨rfl, rfl⟩)) | (go_at_call 12; ((with_reducible refine (known_c _).mono ?_); rintro e w' ⟨rfl, n, rfl⟩)))
      all_goals go_ret
      all_goals exact ⟨rfl, Dr.grown (Dr.step _)⟩
    · rw [p1] at k1
      rw [p2] at k2
      rw [p3] at k9
      clear p1 p2 p3
      go_enter Try.func8, Try.ntmps8
      go_wp2_with (first | (go_at_call 13; ((with_reducible refine (Int_c _ _).mono ?_); rintro e w' ⟨rfl, rfl⟩)) | (go_at_call 15; ((with_reducible refine (Add_c _ _ ?_ ?_ ?_ ?_ _).mono ?_); (first | omega | exact (bits_bd _ _ _).1 | exact (bits_bd _ _ _).2 | exact (iv_bd _).1 | exact (iv_bd _).2 | exact (ov_bd _).1 | exact (ov_bd _).2 | exact (addv_bd _ _).1 | exact (addv_bd _ _).2 | exact (subv_bd _ _).1 | exact (subv_bd _ _).2 | exact (mulv_bd _ _).1 | exact (mulv_bd _ _).2 | exact (divv_bd _ _).1 | exact (divv_bd _ _).2); (first | omega | exact (bits_bd _ _ _).1 | exact (bits_bd _ _ _).2 | exact (iv_bd _).1 | exact (iv_bd _).2 | exact (ov_bd _).1 | exact (ov_bd _).2 | exact (addv_bd _ _).1 | exact (addv_bd _ _).2 | exact (subv_bd _ _).1 | exact (subv_bd _ _).2 | exact (mulv_bd _ _).1 | exact (mulv_bd _ _).2 | exact (divv_bd _ _).1 | exact (divv_bd _ _).2); (first | omega | exact (bits_bd _ _ _).1 | exact (bits_bd _ _ _).2 | exact (iv_bd _).1 | exact (iv_bd _).2 | exact (ov_bd _).1 | exact (ov_bd _).2 | exact (addv_bd _ _).1 | exact (addv_bd _ _).2 | exact (subv_bd _ _).1 | exact (subv_bd _ _).2 | exact (mulv_bd _ _).1 | exact (mulv_bd _ _).2 | exact (divv_bd _ _).1 | exact (divv_bd _ _).2); (first | omega | exact (bits_bd _ _ _).1 | exact (bits_bd _ _ _).2 | exact (iv_bd _).1 | exact (iv_bd _).2 | exact (ov_bd _).1 | exact (ov_bd _).2 | exact (addv_bd _ _).1 | exact (addv_bd _ _).2 | exact (subv_bd _ _).1 | exact (subv_bd _ _).2 | exact (mulv_bd _ _).1 | exact (mulv_bd _ _).2 | exact (divv_bd _ _).1 | exact (divv_bd _ _).2); rintro e w' ⟨rfl, rfl⟩)) | (go_at_call 21; ((with_reducible refine (Less_c _ _ ?_ ?_ ?_ ?_ _).mono ?_); (first | omega | exact (bits_bd _ _ _).1 | exact (bits_bd _ _ _).2 | exact (iv_bd _).1 | exact (iv_bd _).2 | exact (ov_bd _).1 | exact (ov_bd _).2 | exact (addv_bd _ _).1 | exact (addv_bd _ _).2 | exact (subv_bd _ _).1 | exact (subv_bd _ _).2 | exact (mulv_bd _ _).1 | exact (mulv_bd _ _).2 | exact (divv_bd _ _).1 | exact (divv_bd _ _).2); (first | omega | exact (bits_bd _ _ _).1 | exact (bits_bd _ _ _).2 | exact (iv_bd _).1 | exact (iv_bd _).2 | exact (ov_bd _).1 | exact (ov_bd _).2 | exact (addv_bd _ _).1 | exact (addv_bd _ _).2 | exact (subv_bd _ _).1 | exact (subv_bd _ _).2 | exact (mulv_bd _ _).1 | exact (mulv_bd _ _).2 | exact (divv_bd _ _).1 | exact (divv_bd _ _).2); (first | omega | exact (bits_bd _ _ _).1 | exact (bits_bd _ _ _).2 | exact (iv_bd _).1 | exact (iv_bd _).2 | exact (ov_bd _).1 | exact (ov_bd _).2 | exact (addv_bd _ _).1 | exact (addv_bd _ _).2 | exact (subv_bd _ _).1 | exact (subv_bd _ _).2 | exact (mulv_bd _ _).1 | exact (mulv_bd _ _).2 | exact (divv_bd _ _).1 | exact (divv_bd _ _).2); (first | omega | exact (bits_bd _ _ _).1 | exact (bits_bd _ _ _).2 | exact (iv_bd _).1 | exact (iv_bd _).2 | exact (ov_bd _).1 | exact (ov_bd _).2 | exact (addv_bd _ _).1 | exact (addv_bd _ _).2 | exact (subv_bd _ _).1 | exact (subv_bd _ _).2 | exact (mulv_bd _ _).1 | exact (mulv_bd _ _).2 | exact (divv_bd _ _).1 | exact (divv_bd _ _).2); rintro e w' ⟨rfl, rfl⟩)) | (go_at_call 12; ((with_reducible refine (known_c _).mono ?_); rintro e w' ⟨rfl, n, rfl⟩)))
      all_goals go_ret
      all_goals exact ⟨rfl, Dr.grown (Dr.step _)⟩
    · have d1 : decide (x < x) = false := by simp
      have d2 : decide (x + z < x + z) = false := by simp
      rw [d1] at k1 k2
      rw [d2] at k9
      clear k2 k4 k7 k8 d1 d2 fyz
      go_enter Try.func8, Try.ntmps8
      go_wp2_with (first | (go_at_call 13; ((with_reducible refine (Int_c _ _).mono ?_); rintro e w' ⟨rfl, rfl⟩)) | (go_at_call 15; ((with_reducible refine (Add_c _ _ ?_ ?_ ?_ ?_ _).mono ?_); (first | omega | exact (bits_bd _ _ _).1 | exact (bits_bd _ _ _).2 | exact (iv_bd _).1 | exact (iv_bd _).2 | exact (ov_bd _).1 | exact (ov_bd _).2 | exact (addv_bd _ _).1 | exact (addv_bd _ _).2 | exact (subv_bd _ _).1 | exact (subv_bd _ _).2 | exact (mulv_bd _ _).1 | exact (mulv_bd _ _).2 | exact (divv_bd _ _).1 | exact (divv_bd _ _).2); (first | omega | exact (bits_bd _ _ _).1 | exact (bits_bd _ _ _).2 | exact (iv_bd _).1 | exact (iv_bd _).2 | exact (ov_bd _).1 | exact (ov_bd _).2 | exact (addv_bd _ _).1 | exact (addv_bd _ _).2 | exact (subv_bd _ _).1 | exact (subv_bd _ _).2 | exact (mulv_bd _ _).1 | exact (mulv_bd _ _).2 | exact (divv_bd _ _).1 | exact (divv_bd _ _).2); (first | omega | exact (bits_bd _ _ _).1 | exact (bits_bd _ _ _).2 | exact (iv_bd _).1 | exact (iv_bd _).2 | exact (ov_bd _).1 | exact (ov_bd _).2 | exact (addv_bd _ _).1 | exact (addv_bd _ _).2 | exact (subv_bd _ _).1 | exact (subv_bd _ _).2 | exact (mulv_bd _ _).1 | exact (mulv_bd _ _).2 | exact (divv_bd _ _).1 | exact (divv_bd _ _).2); (first | omega | exact (bits_bd _ _ _).1 | exact (bits_bd _ _ _).2 | exact (iv_bd _).1 | exact (iv_bd _).2 | exact (ov_bd _).1 | exact (ov_bd _).2 | exact (addv_bd _ _).1 | exact (addv_bd _ _).2 | exact (subv_bd _ _).1 | exact (subv_bd _ _).2 | exact (mulv_bd _ _).1 | exact (mulv_bd _ _).2 | exact (divv_bd _ _).1 | exact (divv_bd _ _).2); rintro e w' ⟨rfl, rfl⟩)) | (go_at_call 21; ((with_reducible refine (Less_c _ _ ?_ ?_ ?_ ?_ _).mono ?_); (first | omega | exact (bits_bd _ _ _).1 | exact (bits_bd _ _ _).2 | exact (iv_bd _).1 | exact (iv_bd _).2 | exact (ov_bd _).1 | exact (ov_bd _).2 | exact (addv_bd _ _).1 | exact (addv_bd _ _).2 | exact (subv_bd _ _).1 | exact (subv_bd _ _).2 | exact (mulv_bd _ _).1 | exact (mulv_bd _ _).2 | exact (divv_bd _ _).1 | exact (divv_bd _ _).2); (first | omega | exact (bits_bd _ _ _).1 | exact (bits_bd _ _ _).2 | exact (iv_bd _).1 | exact (iv_bd _).2 | exact (ov_bd _).1 | exact (ov_bd _).2 | exact (addv_bd _ _).1 | exact (addv_bd _ _).2 | exact (subv_bd _ _).1 | exact (subv_bd _ _).2 | exact (mulv_bd _ _).1 | exact (mulv_bd _ _).2 | exact (divv_bd _ _).1 | exact (divv_bd _ _).2); (first | omega | exact (bits_bd _ _ _).1 | exact (bits_bd _ _ _).2 | exact (iv_bd _).1 | exact (iv_bd _).2 | exact (ov_bd _).1 | exact (ov_bd _).2 | exact (addv_bd _ _).1 | exact (addv_bd _ _).2 | exact (subv_bd _ _).1 | exact (subv_bd _ _).2 | exact (mulv_bd _ _).1 | exact (mulv_bd _ _).2 | exact (divv_bd _ _).1 | exact (divv_bd _ _).2); (first | omega | exact (bits_bd _ _ _).1 | exact (bits_bd _ _ _).2 | exact (iv_bd _).1 | exact (iv_bd _).2 | exact (ov_bd _).1 | exact (ov_bd _).2 | exact (addv_bd _ _).1 | exact (addv_bd _ _).2 | exact (subv_bd _ _).1 | exact (subv_bd _ _).2 | exact (mulv_bd _ _).1 | exact (mulv_bd _ _).2 | exact (divv_bd _ _).1 | exact (divv_bd _ _).2); rintro e w' ⟨rfl, rfl⟩)) | (go_at_call 12; ((with_reducible refine (known_c _).mono ?_); rintro e w' ⟨rfl, n, rfl⟩)))
      all_goals go_ret
      all_goals exact ⟨rfl, Dr.grown (Dr.step _)⟩
  exact main _ _ _ rfl rfl rfl

set_option maxRecDepth 100000 in
theorem lifted (os : Os) (started : os.Started) (H : Type) (enc : TypeId × Value → H) :
    ReturnsInHanded {} Try.checked os 8 .any (Rows.wordOrderSpec.pre6 enc Try.prog Try.f8 Rows.wordOrderRow.domain false) (Rows.wordOrderSpec.post enc Try.prog Try.f8 false true false false) := by
  refine returnsInHanded_of_change (C := Try.checked) own started (by kernel_rfl) Try.func8
    (ChangeSpec.witness6 (enc := enc) (C := Try.checked) false ⟨#[], #[.int .i64 0, .int .i64 0, .int .i64 0], []⟩ 8 (by kernel_rfl) (by kernel_rfl) (by kernel_rfl) (by kernel_rfl)) ?_
  intro W base args ds gs before hval0 hW hcnd _
  have hval : ∀ (j : Nat) t v, Try.f8.params[j]? = some t → args[j]? = some v → Value.okWide Try.prog W .any base t v := hval0
  have hW' := hW
  obtain ⟨p, q, hA0, hV, rfl, hfz, hnd⟩ := hW
  have hA : DataW.TrodAll enc Try.prog W 0 (fun _ => true) true Try.f8.params.toList args.toList ds p := hA0
  rw [Try.params8] at hA hval
  obtain ⟨v0, vs0, d0, ds0, p0, q0, hargs, rfl, rfl, h0, r0⟩ := trodAll_cons hA
  obtain ⟨v1, vs1, d1, ds1, p1, q1, rfl, rfl, rfl, h1, r1⟩ := trodAll_cons r0
  obtain ⟨v2, vs2, d2, ds2, p2, q2, rfl, rfl, rfl, h2, r2⟩ := trodAll_cons r1
  obtain ⟨rfl, rfl, rfl⟩ := trodAll_nil r2
  obtain rfl : args = #[v0, v1, v2] := by cases args; simp_all
  obtain ⟨rfl, rfl⟩ := trodVars_none hV
  obtain ⟨a0, rfl, rfl, rfl, w0⟩ := open_int Try.underlying3 (hval 0 3 v0 rfl rfl) h0
  obtain ⟨a1, rfl, rfl, rfl, w1⟩ := open_int Try.underlying3 (hval 1 3 v1 rfl rfl) h1
  obtain ⟨a2, rfl, rfl, rfl, w2⟩ := open_int Try.underlying3 (hval 2 3 v2 rfl rfl) h2
  clear hA0 hval0
  simp only [List.append_nil] at hW'
  refine (walk a0 a1 a2 w0 w1 w2 W).mono fun e W' ⟨he, hg⟩ => ?_
  subst he
  exact ⟨_, rfl, post_of_same (pa := []) (pv := []) hW' (fun _ _ _ => (trodAll_cons_mk (shut_bool Try.underlying4 _) trodAll_mk0)) (fun sp _ => (trodAll_cons_mk (shut_int Try.underlying3 w0) (trodAll_cons_mk (shut_int Try.underlying3 w1) (trodAll_cons_mk (shut_int Try.underlying3 w2) trodAll_mk0)))) (fun _ _ => rfl) rfl
    (hg.frame _) hg.2.1 (ok_one (by kernel_rfl) rfl (okWide_bool_mk Try.underlying4 _))⟩

theorem over : Rows.wordOrderRow.holds Try.pinned (OpenSpec.ofChange Rows.wordOrderSpec) :=
  OpenClaim.holds_of_wide 8 Try.f8 rfl rfl rfl rfl rfl rfl rfl ⟨rfl, rfl, rfl, rfl, rfl⟩ rfl rfl rfl rfl rfl (by kernel_rfl) Try.func8 (by kernel_rfl)
    (of_decide_eq_true (by kernel_rfl)) (by unfold Func.isWrapper; first | (rw [if_pos (by decide +kernel)]; kernel_rfl) | (rw [if_neg (by decide +kernel)]; exact ⟨rfl, rfl⟩))
    (fun os started H enc _ => lifted os started H enc)

theorem proved : Rows.WordOrderSaid :=
  over
#print axioms proved
end Go.Proofs.Ytfbaklkfjcnbbaa.wordOrder
