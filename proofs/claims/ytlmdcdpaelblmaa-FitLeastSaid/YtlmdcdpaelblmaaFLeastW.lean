/- The laws' walks. -/
import Derived.Test.YtlmdcdpaelblmaaFKn
import Derived.OpenShut
import Derived.Deep.RegionHeld
namespace Go.Proofs.Ytlmdcdpaelblmaa
open Go.RowKit
namespace Wd
set_option maxHeartbeats 16000000 in
set_option maxRecDepth 100000 in
theorem least_any (a0 : Int) (w0 : (Lit.int .i64 a0).wf = true) (w : World) :
    Calls Try.prog 5 #[.int .i64 a0] w fun e w' => e = .returned (.bool true) ∧ Gr w w' := by
  obtain ⟨p0, q0⟩ := bounds_i64 w0
  clear w0
  have hg := Gr.refl w
  obtain ⟨x, hx, x0, x1⟩ : ∃ x : Int, bits .and .i64 a0 63 = x ∧ 0 ≤ x ∧ x ≤ 63 := ⟨_, rfl, by rw [i64_and63]; omega, by rw [i64_and63]; omega⟩
  have f0 : wd 0 = 4 := rfl
  have f1 : wd 1 = 8 := rfl
  have f2 : wd 2 = 16 := rfl
  have f3 : wd 3 = 32 := rfl
  have f4 : wd 4 = 64 := rfl
  rcases fo_cases x with ⟨h | h, e⟩ | ⟨l0, l1, e⟩ | ⟨l0, l1, e⟩ | ⟨l0, l1, e⟩ | ⟨l0, l1, e⟩ | ⟨l0, l1, e⟩
  · omega
  · have e2 : wst x = 0 := by unfold wst; rw [e]; rfl
    go_enter Try.func5, Try.ntmps5
    go_wp2_with (first | (go_at_call 10; ((with_reducible refine (of_c _ ?_ ?_ _).mono ?_); (first | with_reducible assumption | omega); (first | with_reducible assumption | omega); rintro e w' ⟨rfl, rfl⟩)) | (go_at_call 12; ((with_reducible refine (words_c _ ?_ ?_ _).mono ?_); (first | with_reducible assumption | omega); (first | with_reducible assumption | omega); rintro e w' ⟨rfl, rfl⟩)) | (go_at_call 11; ((with_reducible refine (waste_c _ ?_ ?_ _).mono ?_); (first | with_reducible assumption | omega); (first | with_reducible assumption | omega); rintro e w' ⟨rfl, rfl⟩)) | (go_at_call 9; ((with_reducible refine (known_c _).mono ?_); rintro e w' ⟨rfl, hb⟩; replace hg := Gr.trans (by (repeat' (first | with_reducible assumption | exact Gr.refl _ | (refine Gr.drew ?_) | (refine Gr.drewN ?_ _) | (refine Gr.alloc ?_ _)))) hb; clear hb)))
    go_ret
    exact ⟨rfl, hg⟩
  · have e2 : wst x = 4 - x - 2 := by unfold wst; rw [e]; rfl
    go_enter Try.func5, Try.ntmps5
    go_wp2_with (first | (go_at_call 10; ((with_reducible refine (of_c _ ?_ ?_ _).mono ?_); (first | with_reducible assumption | omega); (first | with_reducible assumption | omega); rintro e w' ⟨rfl, rfl⟩)) | (go_at_call 12; ((with_reducible refine (words_c _ ?_ ?_ _).mono ?_); (first | with_reducible assumption | omega); (first | with_reducible assumption | omega); rintro e w' ⟨rfl, rfl⟩)) | (go_at_call 11; ((with_reducible refine (waste_c _ ?_ ?_ _).mono ?_); (first | with_reducible assumption | omega); (first | with_reducible assumption | omega); rintro e w' ⟨rfl, rfl⟩)) | (go_at_call 9; ((with_reducible refine (known_c _).mono ?_); rintro e w' ⟨rfl, hb⟩; replace hg := Gr.trans (by (repeat' (first | with_reducible assumption | exact Gr.refl _ | (refine Gr.drew ?_) | (refine Gr.drewN ?_ _) | (refine Gr.alloc ?_ _)))) hb; clear hb)))
    go_ret
    exact ⟨rfl, hg⟩
  · have e2 : wst x = 8 - x - 2 := by unfold wst; rw [e]; rfl
    go_enter Try.func5, Try.ntmps5
    go_wp2_with (first | (go_at_call 10; ((with_reducible refine (of_c _ ?_ ?_ _).mono ?_); (first | with_reducible assumption | omega); (first | with_reducible assumption | omega); rintro e w' ⟨rfl, rfl⟩)) | (go_at_call 12; ((with_reducible refine (words_c _ ?_ ?_ _).mono ?_); (first | with_reducible assumption | omega); (first | with_reducible assumption | omega); rintro e w' ⟨rfl, rfl⟩)) | (go_at_call 11; ((with_reducible refine (waste_c _ ?_ ?_ _).mono ?_); (first | with_reducible assumption | omega); (first | with_reducible assumption | omega); rintro e w' ⟨rfl, rfl⟩)) | (go_at_call 9; ((with_reducible refine (known_c _).mono ?_); rintro e w' ⟨rfl, hb⟩; replace hg := Gr.trans (by (repeat' (first | with_reducible assumption | exact Gr.refl _ | (refine Gr.drew ?_) | (refine Gr.drewN ?_ _) | (refine Gr.alloc ?_ _)))) hb; clear hb)))
    go_ret
    exact ⟨rfl, hg⟩
  · have e2 : wst x = 16 - x - 2 := by unfold wst; rw [e]; rfl
    go_enter Try.func5, Try.ntmps5
    go_wp2_with (first | (go_at_call 10; ((with_reducible refine (of_c _ ?_ ?_ _).mono ?_); (first | with_reducible assumption | omega); (first | with_reducible assumption | omega); rintro e w' ⟨rfl, rfl⟩)) | (go_at_call 12; ((with_reducible refine (words_c _ ?_ ?_ _).mono ?_); (first | with_reducible assumption | omega); (first | with_reducible assumption | omega); rintro e w' ⟨rfl, rfl⟩)) | (go_at_call 11; ((with_reducible refine (waste_c _ ?_ ?_ _).mono ?_); (first | with_reducible assumption | omega); (first | with_reducible assumption | omega); rintro e w' ⟨rfl, rfl⟩)) | (go_at_call 9; ((with_reducible refine (known_c _).mono ?_); rintro e w' ⟨rfl, hb⟩; replace hg := Gr.trans (by (repeat' (first | with_reducible assumption | exact Gr.refl _ | (refine Gr.drew ?_) | (refine Gr.drewN ?_ _) | (refine Gr.alloc ?_ _)))) hb; clear hb)))
    go_ret
    exact ⟨rfl, hg⟩
  · have e2 : wst x = 32 - x - 2 := by unfold wst; rw [e]; rfl
    go_enter Try.func5, Try.ntmps5
    go_wp2_with (first | (go_at_call 10; ((with_reducible refine (of_c _ ?_ ?_ _).mono ?_); (first | with_reducible assumption | omega); (first | with_reducible assumption | omega); rintro e w' ⟨rfl, rfl⟩)) | (go_at_call 12; ((with_reducible refine (words_c _ ?_ ?_ _).mono ?_); (first | with_reducible assumption | omega); (first | with_reducible assumption | omega); rintro e w' ⟨rfl, rfl⟩)) | (go_at_call 11; ((with_reducible refine (waste_c _ ?_ ?_ _).mono ?_); (first | with_reducible assumption | omega); (first | with_reducible assumption | omega); rintro e w' ⟨rfl, rfl⟩)) | (go_at_call 9; ((with_reducible refine (known_c _).mono ?_); rintro e w' ⟨rfl, hb⟩; replace hg := Gr.trans (by (repeat' (first | with_reducible assumption | exact Gr.refl _ | (refine Gr.drew ?_) | (refine Gr.drewN ?_ _) | (refine Gr.alloc ?_ _)))) hb; clear hb)))
    go_ret
    exact ⟨rfl, hg⟩
  · have e2 : wst x = 64 - x - 2 := by unfold wst; rw [e]; rfl
    go_enter Try.func5, Try.ntmps5
    go_wp2_with (first | (go_at_call 10; ((with_reducible refine (of_c _ ?_ ?_ _).mono ?_); (first | with_reducible assumption | omega); (first | with_reducible assumption | omega); rintro e w' ⟨rfl, rfl⟩)) | (go_at_call 12; ((with_reducible refine (words_c _ ?_ ?_ _).mono ?_); (first | with_reducible assumption | omega); (first | with_reducible assumption | omega); rintro e w' ⟨rfl, rfl⟩)) | (go_at_call 11; ((with_reducible refine (waste_c _ ?_ ?_ _).mono ?_); (first | with_reducible assumption | omega); (first | with_reducible assumption | omega); rintro e w' ⟨rfl, rfl⟩)) | (go_at_call 9; ((with_reducible refine (known_c _).mono ?_); rintro e w' ⟨rfl, hb⟩; replace hg := Gr.trans (by (repeat' (first | with_reducible assumption | exact Gr.refl _ | (refine Gr.drew ?_) | (refine Gr.drewN ?_ _) | (refine Gr.alloc ?_ _)))) hb; clear hb)))
    go_ret
    exact ⟨rfl, hg⟩
end Wd
end Go.Proofs.Ytlmdcdpaelblmaa
