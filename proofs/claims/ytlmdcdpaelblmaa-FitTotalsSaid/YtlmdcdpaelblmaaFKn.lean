/- known: the chapter's runs. -/
import Derived.Test.YtlmdcdpaelblmaaFKnown
namespace Go.Proofs.Ytlmdcdpaelblmaa
open Go.RowKit
namespace Wd
set_option maxHeartbeats 16000000 in
set_option maxRecDepth 100000 in
theorem known_c (w : World) :
    Calls Try.prog 9 #[] w fun r w' => r = .returned (.bool true) ∧ Gr w w' := by
  have f1 : fo 2 = 0 := by decide
  have f2 : fo 3 = 1 := by decide
  have f3 : fo 62 = 4 := by decide
  have f4 : fo 63 = -1 := by decide
  have f5 : fo (-1) = -1 := by decide
  have f6 : wst 3 = 3 := by decide
  have f7 : wd 4 = 64 := by decide
  have f8 : wd 5 = 0 := by decide
  have f9 : rt 0 0 0 0 0 0 = 18 := by decide
  have f10 : rt 1 0 0 0 0 1 = 0 := by decide
  have f11 : tot 1 1 0 0 0 1 = 12 := by decide
  have f12 : rt 1 0 0 0 0 0 = 1 := by decide
  go_enter Try.func9, Try.ntmps9
  try simp only [List.append_eq, List.cons_append, List.nil_append]
  go_wp2_with (first | (go_at_call 12; ((with_reducible refine (words_c _ ?_ ?_ _).mono ?_); (first | with_reducible assumption | omega); (first | with_reducible assumption | omega); rintro e w' ⟨rfl, rfl⟩)) | (go_at_call 10; ((with_reducible refine (of_c _ ?_ ?_ _).mono ?_); (first | with_reducible assumption | omega); (first | with_reducible assumption | omega); rintro e w' ⟨rfl, rfl⟩)) | (go_at_call 11; ((with_reducible refine (waste_c _ ?_ ?_ _).mono ?_); (first | with_reducible assumption | omega); (first | with_reducible assumption | omega); rintro e w' ⟨rfl, rfl⟩)) | (go_at_call 13; ((with_reducible refine (right_c _ _ _ _ _ _ ?_ ?_ ?_ ?_ ?_ ?_ ?_ ?_ ?_ ?_ ?_ ?_ _).mono ?_); (first | with_reducible assumption | omega); (first | with_reducible assumption | omega); (first | with_reducible assumption | omega); (first | with_reducible assumption | omega); (first | with_reducible assumption | omega); (first | with_reducible assumption | omega); (first | with_reducible assumption | omega); (first | with_reducible assumption | omega); (first | with_reducible assumption | omega); (first | with_reducible assumption | omega); (first | with_reducible assumption | omega); (first | with_reducible assumption | omega); rintro e w' ⟨rfl, rfl⟩)) | (go_at_call 14; ((with_reducible refine (total_c _ _ _ _ _ _ ?_ ?_ ?_ ?_ ?_ ?_ ?_ ?_ ?_ ?_ ?_ ?_ _).mono ?_); (first | with_reducible assumption | omega); (first | with_reducible assumption | omega); (first | with_reducible assumption | omega); (first | with_reducible assumption | omega); (first | with_reducible assumption | omega); (first | with_reducible assumption | omega); (first | with_reducible assumption | omega); (first | with_reducible assumption | omega); (first | with_reducible assumption | omega); (first | with_reducible assumption | omega); (first | with_reducible assumption | omega); (first | with_reducible assumption | omega); rintro e w' ⟨rfl, rfl⟩)))
  go_ret
  exact ⟨rfl, by (repeat' (first | with_reducible assumption | exact Gr.refl _ | (refine Gr.drew ?_) | (refine Gr.drewN ?_ _) | (refine Gr.alloc ?_ _)))⟩
end Wd
end Go.Proofs.Ytlmdcdpaelblmaa
