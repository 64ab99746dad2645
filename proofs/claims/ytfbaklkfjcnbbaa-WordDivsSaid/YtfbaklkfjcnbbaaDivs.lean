/-
  For every two ints n, m the law WordDivs returns true: what is divided is the quotient times what it was divided by, and a rest of its sign, less than it. No condition.
-/
import Derived.Test.YtfbaklkfjcnbbaaRows
import Derived.WalkKit
import Derived.ProofKit
import Derived.OpenShut
import Derived.Deep.RegionWith
import Derived.Test.YtfbaklkfjcnbbaaTwo
import Derived.Test.YtfbaklkfjcnbbaaPures
namespace Go.Proofs.Ytfbaklkfjcnbbaa.wordDivs
open Wd Go.ChangeShapes Go.WideShapes Go.ChangeAt Go.RowKit
set_option linter.unusedVariables false      -- a walk need not use every 'w<i>' (that an integer argument fits its kind)

theorem own : ownKnob Try.prog.godebug = none := by kernel_rfl

set_option maxHeartbeats 4000000 in
theorem walk (a0 : Int) (a1 : Int) (w0 : (Lit.int .i64 a0).wf = true) (w1 : (Lit.int .i64 a1).wf = true) (w : World) :
    Calls Try.prog 6 #[.int .i64 a0, .int .i64 a1] w fun e w' => e = .returned (.bool true) ∧ Grown w w' := by
  clear w0 w1
  have X1 := tmod_bd a0 1073741824 (by decide)
  have Y1 := tmod_bd a1 1073741824 (by decide)
  obtain ⟨X1, X2⟩ := X1
  obtain ⟨Y1, Y2⟩ := Y1
  have fx : fits (a0.tmod 1073741824) = true := fits_yes (by omega) (by omega)
  have fy : fits (a1.tmod 1073741824) = true := fits_yes (by omega) (by omega)
  have main : ∀ x y : Int, a0.tmod 1073741824 = x → a1.tmod 1073741824 = y → Calls Try.prog 6 #[.int .i64 a0, .int .i64 a1] w fun e w' => e = .returned (.bool true) ∧ Grown w w' := by
    intro x y ex ey
    rw [ex] at X1 X2 fx
    rw [ey] at Y1 Y2 fy
    by_cases hz : y = 0
    · subst hz
      have k1 := divok_0 x
      go_enter Try.func6, Try.ntmps6
      go_wp2_with (first | (go_at_call 13; ((with_reducible refine (Int_c _ _).mono ?_); rintro e w' ⟨rfl, rfl⟩)) | (go_at_call 14; ((with_reducible refine (Num_c _ ?_ ?_ _).mono ?_); (first | omega | exact (bits_bd _ _ _).1 | exact (bits_bd _ _ _).2 | exact (iv_bd _).1 | exact (iv_bd _).2 | exact (ov_bd _).1 | exact (ov_bd _).2 | exact (addv_bd _ _).1 | exact (addv_bd _ _).2 | exact (subv_bd _ _).1 | exact (subv_bd _ _).2 | exact (mulv_bd _ _).1 | exact (mulv_bd _ _).2 | exact (divv_bd _ _).1 | exact (divv_bd _ _).2); (first | omega | exact (bits_bd _ _ _).1 | exact (bits_bd _ _ _).2 | exact (iv_bd _).1 | exact (iv_bd _).2 | exact (ov_bd _).1 | exact (ov_bd _).2 | exact (addv_bd _ _).1 | exact (addv_bd _ _).2 | exact (subv_bd _ _).1 | exact (subv_bd _ _).2 | exact (mulv_bd _ _).1 | exact (mulv_bd _ _).2 | exact (divv_bd _ _).1 | exact (divv_bd _ _).2); rintro e w' ⟨rfl, rfl⟩)) | (go_at_call 18; ((with_reducible refine (Div_c _ _ ?_ ?_ ?_ ?_ _).mono ?_); (first | omega | exact (bits_bd _ _ _).1 | exact (bits_bd _ _ _).2 | exact (iv_bd _).1 | exact (iv_bd _).2 | exact (ov_bd _).1 | exact (ov_bd _).2 | exact (addv_bd _ _).1 | exact (addv_bd _ _).2 | exact (subv_bd _ _).1 | exact (subv_bd _ _).2 | exact (mulv_bd _ _).1 | exact (mulv_bd _ _).2 | exact (divv_bd _ _).1 | exact (divv_bd _ _).2); (first | omega | exact (bits_bd _ _ _).1 | exact (bits_bd _ _ _).2 | exact (iv_bd _).1 | exact (iv_bd _).2 | exact (ov_bd _).1 | exact (ov_bd _).2 | exact (addv_bd _ _).1 | exact (addv_bd _ _).2 | exact (subv_bd _ _).1 | exact (subv_bd _ _).2 | exact (mulv_bd _ _).1 | exact (mulv_bd _ _).2 | exact (divv_bd _ _).1 | exact (divv_bd _ _).2); (first | omega | exact (bits_bd _ _ _).1 | exact (bits_bd _ _ _).2 | exact (iv_bd _).1 | exact (iv_bd _).2 | exact (ov_bd _).1 | exact (ov_bd _).2 | exact (addv_bd _ _).1 | exact (addv_bd _ _).2 | exact (subv_bd _ _).1 | exact (subv_bd _ _).2 | exact (mulv_bd _ _).1 | exact (mulv_bd _ _).2 | exact (divv_bd _ _).1 | exact (divv_bd _ _).2); (first | omega | exact (bits_bd _ _ _).1 | exact (bits_bd _ _ _).2 | exact (iv_bd _).1 | exact (iv_bd _).2 | exact (ov_bd _).1 | exact (ov_bd _).2 | exact (addv_bd _ _).1 | exact (addv_bd _ _).2 | exact (subv_bd _ _).1 | exact (subv_bd _ _).2 | exact (mulv_bd _ _).1 | exact (mulv_bd _ _).2 | exact (divv_bd _ _).1 | exact (divv_bd _ _).2); rintro e w' ⟨rfl, n, rfl⟩)) | (go_at_call 12; ((with_reducible refine (known_c _).mono ?_); rintro e w' ⟨rfl, n, rfl⟩)))
      all_goals go_ret
      all_goals exact ⟨rfl, Dr.grown (Dr.step _)⟩
    · have hz' : (y == 0) = false := by simp [hz]
      have fb := fl_bd x y 1073741823 (by omega) (by omega)
      obtain ⟨fb1, fb2⟩ := fb
      have ff : fits (fl x y) = true := fits_yes (by omega) (by omega)
      have k1 := divok_iv fx fy hz
      have k2 := divv_iv fx fy hz
      have k3 := nv_iv ff
      have k4 := isN_iv ff
      rw [ff] at k1
      have k5 := mul_bd (fl x y) y (by omega) (by omega) (by omega) (by omega)
      obtain ⟨k5, k6⟩ := k5
      have k7 := fl_spec x y hz
      have fp : (0 < y ∧ 0 ≤ x - fl x y * y ∧ x - fl x y * y < y) ∨ (y ≤ 0 ∧ y < 0 ∧ x - fl x y * y ≤ 0 ∧ y < x - fl x y * y) := by
        by_cases hp : 0 < y
        · exact Or.inl ⟨hp, k7.1 hp⟩
        · exact Or.inr ⟨by omega, by omega, k7.2 (by omega)⟩
      clear k7 hz
      rcases fp with ⟨p1, p2, p3⟩ | ⟨p1, p2, p3, p4⟩ <;>
      · go_enter Try.func6, Try.ntmps6
        go_wp2_with (first | (go_at_call 13; ((with_reducible refine (Int_c _ _).mono ?_); rintro e w' ⟨rfl, rfl⟩)) | (go_at_call 14; ((with_reducible refine (Num_c _ ?_ ?_ _).mono ?_); (first | omega | exact (bits_bd _ _ _).1 | exact (bits_bd _ _ _).2 | exact (iv_bd _).1 | exact (iv_bd _).2 | exact (ov_bd _).1 | exact (ov_bd _).2 | exact (addv_bd _ _).1 | exact (addv_bd _ _).2 | exact (subv_bd _ _).1 | exact (subv_bd _ _).2 | exact (mulv_bd _ _).1 | exact (mulv_bd _ _).2 | exact (divv_bd _ _).1 | exact (divv_bd _ _).2); (first | omega | exact (bits_bd _ _ _).1 | exact (bits_bd _ _ _).2 | exact (iv_bd _).1 | exact (iv_bd _).2 | exact (ov_bd _).1 | exact (ov_bd _).2 | exact (addv_bd _ _).1 | exact (addv_bd _ _).2 | exact (subv_bd _ _).1 | exact (subv_bd _ _).2 | exact (mulv_bd _ _).1 | exact (mulv_bd _ _).2 | exact (divv_bd _ _).1 | exact (divv_bd _ _).2); rintro e w' ⟨rfl, rfl⟩)) | (go_at_call 18; ((with_reducible refine (Div_c _ _ ?_ ?_ ?_ ?_ _).mono ?_); (first | omega | exact (bits_bd _ _ _).1 | exact (bits_bd _ _ _).2 | exact (iv_bd _).1 | exact (iv_bd _).2 | exact (ov_bd _).1 | exact (ov_bd _).2 | exact (addv_bd _ _).1 | exact (addv_bd _ _).2 | exact (subv_bd _ _).1 | exact (subv_bd _ _).2 | exact (mulv_bd _ _).1 | exact (mulv_bd _ _).2 | exact (divv_bd _ _).1 | exact (divv_bd _ _).2); (first | omega | exact (bits_bd _ _ _).1 | exact (bits_bd _ _ _).2 | exact (iv_bd _).1 | exact (iv_bd _).2 | exact (ov_bd _).1 | exact (ov_bd _).2 | exact (addv_bd _ _).1 | exact (addv_bd _ _).2 | exact (subv_bd _ _).1 | exact (subv_bd _ _).2 | exact (mulv_bd _ _).1 | exact (mulv_bd _ _).2 | exact (divv_bd _ _).1 | exact (divv_bd _ _).2); (first | omega | exact (bits_bd _ _ _).1 | exact (bits_bd _ _ _).2 | exact (iv_bd _).1 | exact (iv_bd _).2 | exact (ov_bd _).1 | exact (ov_bd _).2 | exact (addv_bd _ _).1 | exact (addv_bd _ _).2 | exact (subv_bd _ _).1 | exact (subv_bd _ _).2 | exact (mulv_bd _ _).1 | exact (mulv_bd _ _).2 | exact (divv_bd _ _).1 | exact (divv_bd _ _).2); (first | omega | exact (bits_bd _ _ _).1 | exact (bits_bd _ _ _).2 | exact (iv_bd _).1 | exact (iv_bd _).2 | exact (ov_bd _).1 | exact (ov_bd _).2 | exact (addv_bd _ _).1 | exact (addv_bd _ _).2 | exact (subv_bd _ _).1 | exact (subv_bd _ _).2 | exact (mulv_bd _ _).1 | exact (mulv_bd _ _).2 | exact (divv_bd _ _).1 | exact (divv_bd _ _).2); rintro e w' ⟨rfl, n, rfl⟩)) | (go_at_call 12; ((with_reducible refine (known_c _).mono ?_); rintro e w' ⟨rfl, n, rfl⟩)))
        all_goals go_ret
        all_goals exact ⟨rfl, Dr.grown (Dr.step _)⟩
  exact main _ _ rfl rfl

set_option maxRecDepth 100000 in
theorem lifted (os : Os) (started : os.Started) (H : Type) (enc : TypeId × Value → H) :
    ReturnsInHanded {} Try.checked os 6 .any (Rows.wordDivsSpec.pre6 enc Try.prog Try.f6 Rows.wordDivsRow.domain false) (Rows.wordDivsSpec.post enc Try.prog Try.f6 false true false false) := by
  refine returnsInHanded_of_change (C := Try.checked) own started (by kernel_rfl) Try.func6
    (ChangeSpec.witness6 (enc := enc) (C := Try.checked) false ⟨#[], #[.int .i64 0, .int .i64 0], []⟩ 8 (by kernel_rfl) (by kernel_rfl) (by kernel_rfl) (by kernel_rfl)) ?_
  intro W base args ds gs before hval0 hW hcnd _
  have hval : ∀ (j : Nat) t v, Try.f6.params[j]? = some t → args[j]? = some v → Value.okWide Try.prog W .any base t v := hval0
  have hW' := hW
  obtain ⟨p, q, hA0, hV, rfl, hfz, hnd⟩ := hW
  have hA : DataW.TrodAll enc Try.prog W 0 (fun _ => true) true Try.f6.params.toList args.toList ds p := hA0
  rw [Try.params6] at hA hval
  obtain ⟨v0, vs0, d0, ds0, p0, q0, hargs, rfl, rfl, h0, r0⟩ := trodAll_cons hA
  obtain ⟨v1, vs1, d1, ds1, p1, q1, rfl, rfl, rfl, h1, r1⟩ := trodAll_cons r0
  obtain ⟨rfl, rfl, rfl⟩ := trodAll_nil r1
  obtain rfl : args = #[v0, v1] := by cases args; simp_all
  obtain ⟨rfl, rfl⟩ := trodVars_none hV
  obtain ⟨a0, rfl, rfl, rfl, w0⟩ := open_int Try.underlying3 (hval 0 3 v0 rfl rfl) h0
  obtain ⟨a1, rfl, rfl, rfl, w1⟩ := open_int Try.underlying3 (hval 1 3 v1 rfl rfl) h1
  clear hA0 hval0
  simp only [List.append_nil] at hW'
  refine (walk a0 a1 w0 w1 W).mono fun e W' ⟨he, hg⟩ => ?_
  subst he
  exact ⟨_, rfl, post_of_same (pa := []) (pv := []) hW' (fun _ _ _ => (trodAll_cons_mk (shut_bool Try.underlying4 _) trodAll_mk0)) (fun sp _ => (trodAll_cons_mk (shut_int Try.underlying3 w0) (trodAll_cons_mk (shut_int Try.underlying3 w1) trodAll_mk0))) (fun _ _ => rfl) rfl
    (hg.frame _) hg.2.1 (ok_one (by kernel_rfl) rfl (okWide_bool_mk Try.underlying4 _))⟩

theorem over : Rows.wordDivsRow.holds Try.pinned (OpenSpec.ofChange Rows.wordDivsSpec) :=
  OpenClaim.holds_of_wide 6 Try.f6 rfl rfl rfl rfl rfl rfl rfl ⟨rfl, rfl, rfl, rfl, rfl⟩ rfl rfl rfl rfl rfl (by kernel_rfl) Try.func6 (by kernel_rfl)
    (of_decide_eq_true (by kernel_rfl)) (by unfold Func.isWrapper; first | (rw [if_pos (by decide +kernel)]; kernel_rfl) | (rw [if_neg (by decide +kernel)]; exact ⟨rfl, rfl⟩))
    (fun os started H enc _ => lifted os started H enc)

theorem proved : Rows.WordDivsSaid :=
  over
#print axioms proved
end Go.Proofs.Ytfbaklkfjcnbbaa.wordDivs
