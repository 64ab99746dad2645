/- The laws' walks. -/
import Derived.Test.YtlmdcdpaelblmaaFKn
import Derived.OpenShut
import Derived.Deep.RegionHeld
namespace Go.Proofs.Ytlmdcdpaelblmaa
open Go.RowKit
namespace Wd
theorem wst_nn (n : Int) : 0 ≤ wst n := by
  rcases wst_cases n with ⟨_, _, e⟩ | ⟨_, _, _, _, e, h, _⟩ <;> omega
theorem fo_mono (m n : Int) (h0 : 0 ≤ m) (h : m ≤ n) (h1 : n ≤ 62) : fo m ≤ fo n ∧ wd (fo m) ≤ wd (fo n) := by
  rcases fo_cases m with ⟨a, e⟩ | ⟨a, b, e⟩ | ⟨a, b, e⟩ | ⟨a, b, e⟩ | ⟨a, b, e⟩ | ⟨a, b, e⟩ <;>
  rcases fo_cases n with ⟨c, f⟩ | ⟨c, d, f⟩ | ⟨c, d, f⟩ | ⟨c, d, f⟩ | ⟨c, d, f⟩ | ⟨c, d, f⟩ <;> first | (exfalso; omega) | (rw [e, f]; exact ⟨by decide, by decide⟩)
set_option maxHeartbeats 16000000 in
set_option maxRecDepth 100000 in
theorem order_any (a0 : Int) (a1 : Int) (w0 : (Lit.int .i64 a0).wf = true) (w1 : (Lit.int .i64 a1).wf = true) (w : World) :
    Calls Try.prog 7 #[.int .i64 a0, .int .i64 a1] w fun e w' => e = .returned (.bool true) ∧ Gr w w' := by
  obtain ⟨p0, q0⟩ := bounds_i64 w0
  obtain ⟨p1, q1⟩ := bounds_i64 w1
  clear w0 w1
  have hg := Gr.refl w
  obtain ⟨x, hx, x0, x1⟩ : ∃ x : Int, bits .and .i64 a0 63 = x ∧ 0 ≤ x ∧ x ≤ 63 := ⟨_, rfl, by rw [i64_and63]; omega, by rw [i64_and63]; omega⟩
  obtain ⟨y, hy, y0, y1⟩ : ∃ x : Int, bits .and .i64 a1 63 = x ∧ 0 ≤ x ∧ x ≤ 63 := ⟨_, rfl, by rw [i64_and63]; omega, by rw [i64_and63]; omega⟩
  have f0 : wd 0 = 4 := rfl
  have f1 : wd 1 = 8 := rfl
  have f2 : wd 2 = 16 := rfl
  have f3 : wd 3 = 32 := rfl
  have f4 : wd 4 = 64 := rfl
  have n1 := wst_nn x
  have n2 := (wst_bd x).2
  rcases Int.lt_trichotomy x y with hm | rfl | hm
  · by_cases h6 : 62 < y
    · have e : fo y = -1 := by rcases fo_cases y with ⟨a, e⟩ | ⟨a, b, e⟩ | ⟨a, b, e⟩ | ⟨a, b, e⟩ | ⟨a, b, e⟩ | ⟨a, b, e⟩ <;> first | exact e | omega
      go_enter Try.func7, Try.ntmps7
      go_wp2_with (first | (go_at_call 10; ((with_reducible refine (of_c _ ?_ ?_ _).mono ?_); (first | with_reducible assumption | omega); (first | with_reducible assumption | omega); rintro e w' ⟨rfl, rfl⟩)) | (go_at_call 12; ((with_reducible refine (words_c _ ?_ ?_ _).mono ?_); (first | with_reducible assumption | omega); (first | with_reducible assumption | omega); rintro e w' ⟨rfl, rfl⟩)) | (go_at_call 11; ((with_reducible refine (waste_c _ ?_ ?_ _).mono ?_); (first | with_reducible assumption | omega); (first | with_reducible assumption | omega); rintro e w' ⟨rfl, rfl⟩)) | (go_at_call 9; ((with_reducible refine (known_c _).mono ?_); rintro e w' ⟨rfl, hb⟩; replace hg := Gr.trans (by (repeat' (first | with_reducible assumption | exact Gr.refl _ | (refine Gr.drew ?_) | (refine Gr.drewN ?_ _) | (refine Gr.alloc ?_ _)))) hb; clear hb)))
      go_ret
      exact ⟨rfl, hg⟩
    · obtain ⟨m1, m2⟩ := fo_mono x y x0 (by omega) (by omega)
      have m3 := (fo_bd y).2
      rcases fo_cases x with ⟨h | h, e⟩ | ⟨l0, l1, e⟩ | ⟨l0, l1, e⟩ | ⟨l0, l1, e⟩ | ⟨l0, l1, e⟩ | ⟨l0, l1, e⟩
      · omega
      · omega
      all_goals
        rw [e] at m1 m2
        first | rw [f0] at m2 | rw [f1] at m2 | rw [f2] at m2 | rw [f3] at m2 | rw [f4] at m2
        go_enter Try.func7, Try.ntmps7
        go_wp2_with (first | (go_at_call 10; ((with_reducible refine (of_c _ ?_ ?_ _).mono ?_); (first | with_reducible assumption | omega); (first | with_reducible assumption | omega); rintro e w' ⟨rfl, rfl⟩)) | (go_at_call 12; ((with_reducible refine (words_c _ ?_ ?_ _).mono ?_); (first | with_reducible assumption | omega); (first | with_reducible assumption | omega); rintro e w' ⟨rfl, rfl⟩)) | (go_at_call 11; ((with_reducible refine (waste_c _ ?_ ?_ _).mono ?_); (first | with_reducible assumption | omega); (first | with_reducible assumption | omega); rintro e w' ⟨rfl, rfl⟩)) | (go_at_call 9; ((with_reducible refine (known_c _).mono ?_); rintro e w' ⟨rfl, hb⟩; replace hg := Gr.trans (by (repeat' (first | with_reducible assumption | exact Gr.refl _ | (refine Gr.drew ?_) | (refine Gr.drewN ?_ _) | (refine Gr.alloc ?_ _)))) hb; clear hb)))
        go_ret
        exact ⟨rfl, hg⟩
  · skip
    by_cases h6 : 62 < x
    · have e : fo x = -1 := by rcases fo_cases x with ⟨a, e⟩ | ⟨a, b, e⟩ | ⟨a, b, e⟩ | ⟨a, b, e⟩ | ⟨a, b, e⟩ | ⟨a, b, e⟩ <;> first | exact e | omega
      go_enter Try.func7, Try.ntmps7
      go_wp2_with (first | (go_at_call 10; ((with_reducible refine (of_c _ ?_ ?_ _).mono ?_); (first | with_reducible assumption | omega); (first | with_reducible assumption | omega); rintro e w' ⟨rfl, rfl⟩)) | (go_at_call 12; ((with_reducible refine (words_c _ ?_ ?_ _).mono ?_); (first | with_reducible assumption | omega); (first | with_reducible assumption | omega); rintro e w' ⟨rfl, rfl⟩)) | (go_at_call 11; ((with_reducible refine (waste_c _ ?_ ?_ _).mono ?_); (first | with_reducible assumption | omega); (first | with_reducible assumption | omega); rintro e w' ⟨rfl, rfl⟩)) | (go_at_call 9; ((with_reducible refine (known_c _).mono ?_); rintro e w' ⟨rfl, hb⟩; replace hg := Gr.trans (by (repeat' (first | with_reducible assumption | exact Gr.refl _ | (refine Gr.drew ?_) | (refine Gr.drewN ?_ _) | (refine Gr.alloc ?_ _)))) hb; clear hb)))
      go_ret
      exact ⟨rfl, hg⟩
    · obtain ⟨m1, m2⟩ := fo_mono x x x0 (by omega) (by omega)
      have m3 := (fo_bd x).2
      rcases fo_cases x with ⟨h | h, e⟩ | ⟨l0, l1, e⟩ | ⟨l0, l1, e⟩ | ⟨l0, l1, e⟩ | ⟨l0, l1, e⟩ | ⟨l0, l1, e⟩
      · omega
      · omega
      all_goals
        clear m1 m2 m3
        go_enter Try.func7, Try.ntmps7
        go_wp2_with (first | (go_at_call 10; ((with_reducible refine (of_c _ ?_ ?_ _).mono ?_); (first | with_reducible assumption | omega); (first | with_reducible assumption | omega); rintro e w' ⟨rfl, rfl⟩)) | (go_at_call 12; ((with_reducible refine (words_c _ ?_ ?_ _).mono ?_); (first | with_reducible assumption | omega); (first | with_reducible assumption | omega); rintro e w' ⟨rfl, rfl⟩)) | (go_at_call 11; ((with_reducible refine (waste_c _ ?_ ?_ _).mono ?_); (first | with_reducible assumption | omega); (first | with_reducible assumption | omega); rintro e w' ⟨rfl, rfl⟩)) | (go_at_call 9; ((with_reducible refine (known_c _).mono ?_); rintro e w' ⟨rfl, hb⟩; replace hg := Gr.trans (by (repeat' (first | with_reducible assumption | exact Gr.refl _ | (refine Gr.drew ?_) | (refine Gr.drewN ?_ _) | (refine Gr.alloc ?_ _)))) hb; clear hb)))
        go_ret
        exact ⟨rfl, hg⟩
  · by_cases h6 : 62 < x
    · have e : fo x = -1 := by rcases fo_cases x with ⟨a, e⟩ | ⟨a, b, e⟩ | ⟨a, b, e⟩ | ⟨a, b, e⟩ | ⟨a, b, e⟩ | ⟨a, b, e⟩ <;> first | exact e | omega
      go_enter Try.func7, Try.ntmps7
      go_wp2_with (first | (go_at_call 10; ((with_reducible refine (of_c _ ?_ ?_ _).mono ?_); (first | with_reducible assumption | omega); (first | with_reducible assumption | omega); rintro e w' ⟨rfl, rfl⟩)) | (go_at_call 12; ((with_reducible refine (words_c _ ?_ ?_ _).mono ?_); (first | with_reducible assumption | omega); (first | with_reducible assumption | omega); rintro e w' ⟨rfl, rfl⟩)) | (go_at_call 11; ((with_reducible refine (waste_c _ ?_ ?_ _).mono ?_); (first | with_reducible assumption | omega); (first | with_reducible assumption | omega); rintro e w' ⟨rfl, rfl⟩)) | (go_at_call 9; ((with_reducible refine (known_c _).mono ?_); rintro e w' ⟨rfl, hb⟩; replace hg := Gr.trans (by (repeat' (first | with_reducible assumption | exact Gr.refl _ | (refine Gr.drew ?_) | (refine Gr.drewN ?_ _) | (refine Gr.alloc ?_ _)))) hb; clear hb)))
      go_ret
      exact ⟨rfl, hg⟩
    · obtain ⟨m1, m2⟩ := fo_mono y x y0 (by omega) (by omega)
      have m3 := (fo_bd x).2
      rcases fo_cases y with ⟨h | h, e⟩ | ⟨l0, l1, e⟩ | ⟨l0, l1, e⟩ | ⟨l0, l1, e⟩ | ⟨l0, l1, e⟩ | ⟨l0, l1, e⟩
      · omega
      · omega
      all_goals
        rw [e] at m1 m2
        first | rw [f0] at m2 | rw [f1] at m2 | rw [f2] at m2 | rw [f3] at m2 | rw [f4] at m2
        go_enter Try.func7, Try.ntmps7
        go_wp2_with (first | (go_at_call 10; ((with_reducible refine (of_c _ ?_ ?_ _).mono ?_); (first | with_reducible assumption | omega); (first | with_reducible assumption | omega); rintro e w' ⟨rfl, rfl⟩)) | (go_at_call 12; ((with_reducible refine (words_c _ ?_ ?_ _).mono ?_); (first | with_reducible assumption | omega); (first | with_reducible assumption | omega); rintro e w' ⟨rfl, rfl⟩)) | (go_at_call 11; ((with_reducible refine (waste_c _ ?_ ?_ _).mono ?_); (first | with_reducible assumption | omega); (first | with_reducible assumption | omega); rintro e w' ⟨rfl, rfl⟩)) | (go_at_call 9; ((with_reducible refine (known_c _).mono ?_); rintro e w' ⟨rfl, hb⟩; replace hg := Gr.trans (by (repeat' (first | with_reducible assumption | exact Gr.refl _ | (refine Gr.drew ?_) | (refine Gr.drewN ?_ _) | (refine Gr.alloc ?_ _)))) hb; clear hb)))
        go_ret
        exact ⟨rfl, hg⟩
end Wd
end Go.Proofs.Ytlmdcdpaelblmaa
