/- What each function of the package fit, and of the document's own answer, returns. -/
import Derived.Test.YtlmdcdpaelblmaaRows
import Derived.Test.YtlmdcdpaelblmaaFPure
import Derived.WalkKit
import Derived.WalkSpells
import Derived.WalkLawsBesides
import Derived.Handy
import Derived.Lib.Hide
import Derived.BigQuiet
import Derived.LoopN
namespace Go.Proofs.Ytlmdcdpaelblmaa
open Go.RowKit
namespace Wd
set_option maxHeartbeats 4000000 in
theorem words_c (n : Int) (h1 : -9223372036854775808 ≤ n) (h2 : n ≤ 9223372036854775807) (w : World) :
    Calls Try.prog 12 #[.int .i64 n] w fun e w' => e = .returned (.int .i64 (wd n)) ∧ w' = w := by
  rcases wd_cases n with ⟨h | h, e⟩ | ⟨rfl, e⟩ | ⟨rfl, e⟩ | ⟨rfl, e⟩ | ⟨rfl, e⟩ | ⟨rfl, e⟩
  all_goals
    rw [e]; clear e
    go_enter Try.func12, Try.ntmps12
    go_wp2
    go_ret
    exact ⟨rfl, rfl⟩
set_option maxHeartbeats 4000000 in
theorem rwords_c (n : Int) (h1 : -9223372036854775808 ≤ n) (h2 : n ≤ 9223372036854775807) (w : World) :
    Calls Try.prog 16 #[.int .i64 n] w fun e w' => e = .returned (.int .i64 (wd n)) ∧ w' = w := by
  rcases wd_cases n with ⟨h | h, e⟩ | ⟨rfl, e⟩ | ⟨rfl, e⟩ | ⟨rfl, e⟩ | ⟨rfl, e⟩ | ⟨rfl, e⟩
  all_goals
    rw [e]; clear e
    go_enter Try.func16, Try.ntmps16
    go_wp2
    go_ret
    exact ⟨rfl, rfl⟩
set_option maxHeartbeats 16000000 in
theorem of_c (n : Int) (h1 : -9223372036854775808 ≤ n) (h2 : n ≤ 9223372036854775807) (w : World) :
    Calls Try.prog 10 #[.int .i64 n] w fun e w' => e = .returned (.int .i64 (fo n)) ∧ w' = w := by
  have f0 : wd 0 = 4 := rfl
  have f1 : wd 1 = 8 := rfl
  have f2 : wd 2 = 16 := rfl
  have f3 : wd 3 = 32 := rfl
  have f4 : wd 4 = 64 := rfl
  rcases fo_cases n with ⟨h | h, e⟩ | ⟨l0, l1, e⟩ | ⟨l0, l1, e⟩ | ⟨l0, l1, e⟩ | ⟨l0, l1, e⟩ | ⟨l0, l1, e⟩
  · rw [e]; clear e
    go_enter Try.func10, Try.ntmps10
    go_wp2_with (first | (go_at_call 12; ((with_reducible refine (words_c _ ?_ ?_ _).mono ?_); (first | with_reducible assumption | omega); (first | with_reducible assumption | omega); rintro e w' ⟨rfl, rfl⟩)))
    go_ret
    exact ⟨rfl, rfl⟩
  · rw [e]; clear e
    go_enter Try.func10, Try.ntmps10
    go_wp2_with (first | (go_at_call 12; ((with_reducible refine (words_c _ ?_ ?_ _).mono ?_); (first | with_reducible assumption | omega); (first | with_reducible assumption | omega); rintro e w' ⟨rfl, rfl⟩)))
    go_ret
    exact ⟨rfl, rfl⟩
  · rw [e]; clear e
    go_enter Try.func10, Try.ntmps10
    go_wp2_with (first | (go_at_call 12; ((with_reducible refine (words_c _ ?_ ?_ _).mono ?_); (first | with_reducible assumption | omega); (first | with_reducible assumption | omega); rintro e w' ⟨rfl, rfl⟩)))
    refine wp_loop_rounds 1 ?_
    rw [rounds_succ]
    go_wp2_with (first | (go_at_call 12; ((with_reducible refine (words_c _ ?_ ?_ _).mono ?_); (first | with_reducible assumption | omega); (first | with_reducible assumption | omega); rintro e w' ⟨rfl, rfl⟩)))
    go_ret
    exact ⟨rfl, rfl⟩
  · rw [e]; clear e
    go_enter Try.func10, Try.ntmps10
    go_wp2_with (first | (go_at_call 12; ((with_reducible refine (words_c _ ?_ ?_ _).mono ?_); (first | with_reducible assumption | omega); (first | with_reducible assumption | omega); rintro e w' ⟨rfl, rfl⟩)))
    refine wp_loop_rounds 2 ?_
    rw [rounds_succ]
    go_wp2_with (first | (go_at_call 12; ((with_reducible refine (words_c _ ?_ ?_ _).mono ?_); (first | with_reducible assumption | omega); (first | with_reducible assumption | omega); rintro e w' ⟨rfl, rfl⟩)))
    rw [rounds_succ]
    go_wp2_with (first | (go_at_call 12; ((with_reducible refine (words_c _ ?_ ?_ _).mono ?_); (first | with_reducible assumption | omega); (first | with_reducible assumption | omega); rintro e w' ⟨rfl, rfl⟩)))
    go_ret
    exact ⟨rfl, rfl⟩
  · rw [e]; clear e
    go_enter Try.func10, Try.ntmps10
    go_wp2_with (first | (go_at_call 12; ((with_reducible refine (words_c _ ?_ ?_ _).mono ?_); (first | with_reducible assumption | omega); (first | with_reducible assumption | omega); rintro e w' ⟨rfl, rfl⟩)))
    refine wp_loop_rounds 3 ?_
    rw [rounds_succ]
    go_wp2_with (first | (go_at_call 12; ((with_reducible refine (words_c _ ?_ ?_ _).mono ?_); (first | with_reducible assumption | omega); (first | with_reducible assumption | omega); rintro e w' ⟨rfl, rfl⟩)))
    rw [rounds_succ]
    go_wp2_with (first | (go_at_call 12; ((with_reducible refine (words_c _ ?_ ?_ _).mono ?_); (first | with_reducible assumption | omega); (first | with_reducible assumption | omega); rintro e w' ⟨rfl, rfl⟩)))
    rw [rounds_succ]
    go_wp2_with (first | (go_at_call 12; ((with_reducible refine (words_c _ ?_ ?_ _).mono ?_); (first | with_reducible assumption | omega); (first | with_reducible assumption | omega); rintro e w' ⟨rfl, rfl⟩)))
    go_ret
    exact ⟨rfl, rfl⟩
  · rw [e]; clear e
    go_enter Try.func10, Try.ntmps10
    go_wp2_with (first | (go_at_call 12; ((with_reducible refine (words_c _ ?_ ?_ _).mono ?_); (first | with_reducible assumption | omega); (first | with_reducible assumption | omega); rintro e w' ⟨rfl, rfl⟩)))
    refine wp_loop_rounds 4 ?_
    rw [rounds_succ]
    go_wp2_with (first | (go_at_call 12; ((with_reducible refine (words_c _ ?_ ?_ _).mono ?_); (first | with_reducible assumption | omega); (first | with_reducible assumption | omega); rintro e w' ⟨rfl, rfl⟩)))
    rw [rounds_succ]
    go_wp2_with (first | (go_at_call 12; ((with_reducible refine (words_c _ ?_ ?_ _).mono ?_); (first | with_reducible assumption | omega); (first | with_reducible assumption | omega); rintro e w' ⟨rfl, rfl⟩)))
    rw [rounds_succ]
    go_wp2_with (first | (go_at_call 12; ((with_reducible refine (words_c _ ?_ ?_ _).mono ?_); (first | with_reducible assumption | omega); (first | with_reducible assumption | omega); rintro e w' ⟨rfl, rfl⟩)))
    rw [rounds_succ]
    go_wp2_with (first | (go_at_call 12; ((with_reducible refine (words_c _ ?_ ?_ _).mono ?_); (first | with_reducible assumption | omega); (first | with_reducible assumption | omega); rintro e w' ⟨rfl, rfl⟩)))
    go_ret
    exact ⟨rfl, rfl⟩
  · rw [e]; clear e
    go_enter Try.func10, Try.ntmps10
    go_wp2_with (first | (go_at_call 12; ((with_reducible refine (words_c _ ?_ ?_ _).mono ?_); (first | with_reducible assumption | omega); (first | with_reducible assumption | omega); rintro e w' ⟨rfl, rfl⟩)))
    refine wp_loop_rounds 5 ?_
    rw [rounds_succ]
    go_wp2_with (first | (go_at_call 12; ((with_reducible refine (words_c _ ?_ ?_ _).mono ?_); (first | with_reducible assumption | omega); (first | with_reducible assumption | omega); rintro e w' ⟨rfl, rfl⟩)))
    rw [rounds_succ]
    go_wp2_with (first | (go_at_call 12; ((with_reducible refine (words_c _ ?_ ?_ _).mono ?_); (first | with_reducible assumption | omega); (first | with_reducible assumption | omega); rintro e w' ⟨rfl, rfl⟩)))
    rw [rounds_succ]
    go_wp2_with (first | (go_at_call 12; ((with_reducible refine (words_c _ ?_ ?_ _).mono ?_); (first | with_reducible assumption | omega); (first | with_reducible assumption | omega); rintro e w' ⟨rfl, rfl⟩)))
    rw [rounds_succ]
    go_wp2_with (first | (go_at_call 12; ((with_reducible refine (words_c _ ?_ ?_ _).mono ?_); (first | with_reducible assumption | omega); (first | with_reducible assumption | omega); rintro e w' ⟨rfl, rfl⟩)))
    rw [rounds_succ]
    go_wp2_with (first | (go_at_call 12; ((with_reducible refine (words_c _ ?_ ?_ _).mono ?_); (first | with_reducible assumption | omega); (first | with_reducible assumption | omega); rintro e w' ⟨rfl, rfl⟩)))
    go_ret
    exact ⟨rfl, rfl⟩
set_option maxHeartbeats 16000000 in
theorem rfit_c (n : Int) (h1 : -9223372036854775808 ≤ n) (h2 : n ≤ 9223372036854775807) (w : World) :
    Calls Try.prog 15 #[.int .i64 n] w fun e w' => e = .returned (.int .i64 (fo n)) ∧ w' = w := by
  have f0 : wd 0 = 4 := rfl
  have f1 : wd 1 = 8 := rfl
  have f2 : wd 2 = 16 := rfl
  have f3 : wd 3 = 32 := rfl
  have f4 : wd 4 = 64 := rfl
  rcases fo_cases n with ⟨h | h, e⟩ | ⟨l0, l1, e⟩ | ⟨l0, l1, e⟩ | ⟨l0, l1, e⟩ | ⟨l0, l1, e⟩ | ⟨l0, l1, e⟩
  · rw [e]; clear e
    go_enter Try.func15, Try.ntmps15
    go_wp2_with (first | (go_at_call 16; ((with_reducible refine (rwords_c _ ?_ ?_ _).mono ?_); (first | with_reducible assumption | omega); (first | with_reducible assumption | omega); rintro e w' ⟨rfl, rfl⟩)))
    refine wp_loop_rounds 1 ?_; rw [rounds_succ]
    go_wp2
    go_ret
    exact ⟨rfl, rfl⟩
  · rw [e]; clear e
    go_enter Try.func15, Try.ntmps15
    go_wp2_with (first | (go_at_call 16; ((with_reducible refine (rwords_c _ ?_ ?_ _).mono ?_); (first | with_reducible assumption | omega); (first | with_reducible assumption | omega); rintro e w' ⟨rfl, rfl⟩)))
    refine wp_loop_rounds 1 ?_; rw [rounds_succ]
    go_wp2
    go_ret
    exact ⟨rfl, rfl⟩
  · rw [e]; clear e
    go_enter Try.func15, Try.ntmps15
    go_wp2_with (first | (go_at_call 16; ((with_reducible refine (rwords_c _ ?_ ?_ _).mono ?_); (first | with_reducible assumption | omega); (first | with_reducible assumption | omega); rintro e w' ⟨rfl, rfl⟩)))
    refine wp_loop_rounds 1 ?_
    rw [rounds_succ]
    go_wp2_with (first | (go_at_call 16; ((with_reducible refine (rwords_c _ ?_ ?_ _).mono ?_); (first | with_reducible assumption | omega); (first | with_reducible assumption | omega); rintro e w' ⟨rfl, rfl⟩)))
    go_ret
    exact ⟨rfl, rfl⟩
  · rw [e]; clear e
    go_enter Try.func15, Try.ntmps15
    go_wp2_with (first | (go_at_call 16; ((with_reducible refine (rwords_c _ ?_ ?_ _).mono ?_); (first | with_reducible assumption | omega); (first | with_reducible assumption | omega); rintro e w' ⟨rfl, rfl⟩)))
    refine wp_loop_rounds 2 ?_
    rw [rounds_succ]
    go_wp2_with (first | (go_at_call 16; ((with_reducible refine (rwords_c _ ?_ ?_ _).mono ?_); (first | with_reducible assumption | omega); (first | with_reducible assumption | omega); rintro e w' ⟨rfl, rfl⟩)))
    rw [rounds_succ]
    go_wp2_with (first | (go_at_call 16; ((with_reducible refine (rwords_c _ ?_ ?_ _).mono ?_); (first | with_reducible assumption | omega); (first | with_reducible assumption | omega); rintro e w' ⟨rfl, rfl⟩)))
    go_ret
    exact ⟨rfl, rfl⟩
  · rw [e]; clear e
    go_enter Try.func15, Try.ntmps15
    go_wp2_with (first | (go_at_call 16; ((with_reducible refine (rwords_c _ ?_ ?_ _).mono ?_); (first | with_reducible assumption | omega); (first | with_reducible assumption | omega); rintro e w' ⟨rfl, rfl⟩)))
    refine wp_loop_rounds 3 ?_
    rw [rounds_succ]
    go_wp2_with (first | (go_at_call 16; ((with_reducible refine (rwords_c _ ?_ ?_ _).mono ?_); (first | with_reducible assumption | omega); (first | with_reducible assumption | omega); rintro e w' ⟨rfl, rfl⟩)))
    rw [rounds_succ]
    go_wp2_with (first | (go_at_call 16; ((with_reducible refine (rwords_c _ ?_ ?_ _).mono ?_); (first | with_reducible assumption | omega); (first | with_reducible assumption | omega); rintro e w' ⟨rfl, rfl⟩)))
    rw [rounds_succ]
    go_wp2_with (first | (go_at_call 16; ((with_reducible refine (rwords_c _ ?_ ?_ _).mono ?_); (first | with_reducible assumption | omega); (first | with_reducible assumption | omega); rintro e w' ⟨rfl, rfl⟩)))
    go_ret
    exact ⟨rfl, rfl⟩
  · rw [e]; clear e
    go_enter Try.func15, Try.ntmps15
    go_wp2_with (first | (go_at_call 16; ((with_reducible refine (rwords_c _ ?_ ?_ _).mono ?_); (first | with_reducible assumption | omega); (first | with_reducible assumption | omega); rintro e w' ⟨rfl, rfl⟩)))
    refine wp_loop_rounds 4 ?_
    rw [rounds_succ]
    go_wp2_with (first | (go_at_call 16; ((with_reducible refine (rwords_c _ ?_ ?_ _).mono ?_); (first | with_reducible assumption | omega); (first | with_reducible assumption | omega); rintro e w' ⟨rfl, rfl⟩)))
    rw [rounds_succ]
    go_wp2_with (first | (go_at_call 16; ((with_reducible refine (rwords_c _ ?_ ?_ _).mono ?_); (first | with_reducible assumption | omega); (first | with_reducible assumption | omega); rintro e w' ⟨rfl, rfl⟩)))
    rw [rounds_succ]
    go_wp2_with (first | (go_at_call 16; ((with_reducible refine (rwords_c _ ?_ ?_ _).mono ?_); (first | with_reducible assumption | omega); (first | with_reducible assumption | omega); rintro e w' ⟨rfl, rfl⟩)))
    rw [rounds_succ]
    go_wp2_with (first | (go_at_call 16; ((with_reducible refine (rwords_c _ ?_ ?_ _).mono ?_); (first | with_reducible assumption | omega); (first | with_reducible assumption | omega); rintro e w' ⟨rfl, rfl⟩)))
    go_ret
    exact ⟨rfl, rfl⟩
  · rw [e]; clear e
    go_enter Try.func15, Try.ntmps15
    go_wp2_with (first | (go_at_call 16; ((with_reducible refine (rwords_c _ ?_ ?_ _).mono ?_); (first | with_reducible assumption | omega); (first | with_reducible assumption | omega); rintro e w' ⟨rfl, rfl⟩)))
    refine wp_loop_rounds 5 ?_
    rw [rounds_succ]
    go_wp2_with (first | (go_at_call 16; ((with_reducible refine (rwords_c _ ?_ ?_ _).mono ?_); (first | with_reducible assumption | omega); (first | with_reducible assumption | omega); rintro e w' ⟨rfl, rfl⟩)))
    rw [rounds_succ]
    go_wp2_with (first | (go_at_call 16; ((with_reducible refine (rwords_c _ ?_ ?_ _).mono ?_); (first | with_reducible assumption | omega); (first | with_reducible assumption | omega); rintro e w' ⟨rfl, rfl⟩)))
    rw [rounds_succ]
    go_wp2_with (first | (go_at_call 16; ((with_reducible refine (rwords_c _ ?_ ?_ _).mono ?_); (first | with_reducible assumption | omega); (first | with_reducible assumption | omega); rintro e w' ⟨rfl, rfl⟩)))
    rw [rounds_succ]
    go_wp2_with (first | (go_at_call 16; ((with_reducible refine (rwords_c _ ?_ ?_ _).mono ?_); (first | with_reducible assumption | omega); (first | with_reducible assumption | omega); rintro e w' ⟨rfl, rfl⟩)))
    rw [rounds_succ]
    go_wp2_with (first | (go_at_call 16; ((with_reducible refine (rwords_c _ ?_ ?_ _).mono ?_); (first | with_reducible assumption | omega); (first | with_reducible assumption | omega); rintro e w' ⟨rfl, rfl⟩)))
    go_ret
    exact ⟨rfl, rfl⟩
set_option maxHeartbeats 16000000 in
theorem waste_c (n : Int) (h1 : -9223372036854775808 ≤ n) (h2 : n ≤ 9223372036854775807) (w : World) :
    Calls Try.prog 11 #[.int .i64 n] w fun e w' => e = .returned (.int .i64 (wst n)) ∧ w' = w := by
  have f0 : wd 0 = 4 := rfl
  have f1 : wd 1 = 8 := rfl
  have f2 : wd 2 = 16 := rfl
  have f3 : wd 3 = 32 := rfl
  have f4 : wd 4 = 64 := rfl
  rcases fo_cases n with ⟨h, e⟩ | ⟨l0, l1, e⟩ | ⟨l0, l1, e⟩ | ⟨l0, l1, e⟩ | ⟨l0, l1, e⟩ | ⟨l0, l1, e⟩
  all_goals
    have ev : wst n = wst n := rfl
    conv at ev => rhs; unfold wst; rw [e]
    rw [ev]; clear ev
    go_enter Try.func11, Try.ntmps11
    go_wp2_with (first | (go_at_call 10; ((with_reducible refine (of_c _ ?_ ?_ _).mono ?_); (first | with_reducible assumption | omega); (first | with_reducible assumption | omega); rintro e w' ⟨rfl, rfl⟩)) | (go_at_call 12; ((with_reducible refine (words_c _ ?_ ?_ _).mono ?_); (first | with_reducible assumption | omega); (first | with_reducible assumption | omega); rintro e w' ⟨rfl, rfl⟩)))
    go_ret
    exact ⟨rfl, rfl⟩
end Wd
end Go.Proofs.Ytlmdcdpaelblmaa
