/- What Pack, Open, Class, Size return. -/
import Derived.Test.YtldfgjbbdpfdnaaHLeaf
namespace Go.Proofs.Ytldfgjbbdpfdnaa
open Go.RowKit
namespace Wd
theorem Class_c (a : Int) (h0 : 0 ≤ a) (h1 : a ≤ 4294967295) (w : World) :
    Calls Try.prog 13 #[.int .u32 a] w fun e w' => e = .returned (.int .i64 (hc a)) ∧ w' = w.drew := by
  go_enter Try.func13, Try.ntmps13
  go_wp2_with (first | (go_at_call 17; ((with_reducible refine (part_c _ _ _ _ _ ?_ ?_ (by first | exact Or.inl ⟨rfl, rfl, rfl, rfl⟩ | exact Or.inr (Or.inl ⟨rfl, rfl, rfl, rfl⟩) | exact Or.inr (Or.inr (Or.inl ⟨rfl, rfl, rfl, rfl⟩)) | exact Or.inr (Or.inr (Or.inr ⟨rfl, rfl, rfl, rfl⟩))) _).mono ?_); (first | with_reducible assumption | omega); (first | with_reducible assumption | omega); rintro e w' ⟨rfl, rfl⟩)))
  go_ret
  refine ⟨congrArg Ending.returned (congrArg (Value.int .i64) ?_), rfl⟩
  unfold hc; omega
theorem Size_c (a : Int) (h0 : 0 ≤ a) (h1 : a ≤ 4294967295) (w : World) :
    Calls Try.prog 14 #[.int .u32 a] w fun e w' => e = .returned (.int .i64 (hs a)) ∧ w' = w.drew := by
  go_enter Try.func14, Try.ntmps14
  go_wp2_with (first | (go_at_call 17; ((with_reducible refine (part_c _ _ _ _ _ ?_ ?_ (by first | exact Or.inl ⟨rfl, rfl, rfl, rfl⟩ | exact Or.inr (Or.inl ⟨rfl, rfl, rfl, rfl⟩) | exact Or.inr (Or.inr (Or.inl ⟨rfl, rfl, rfl, rfl⟩)) | exact Or.inr (Or.inr (Or.inr ⟨rfl, rfl, rfl, rfl⟩))) _).mono ?_); (first | with_reducible assumption | omega); (first | with_reducible assumption | omega); rintro e w' ⟨rfl, rfl⟩)))
  go_ret
  refine ⟨congrArg Ending.returned (congrArg (Value.int .i64) ?_), rfl⟩
  rfl
theorem Pack_c (a b c : Int) (ha : -9223372036854775808 ≤ a) (ha' : a ≤ 9223372036854775807) (hb : -9223372036854775808 ≤ b) (hb' : b ≤ 9223372036854775807) (hc : -9223372036854775808 ≤ c) (hc' : c ≤ 9223372036854775807) (w : World) :
    Calls Try.prog 11 #[.agg #[.int .i64 a, .int .i64 b, .int .i64 c]] w fun e w' => e = .returned (.tuple #[.int .u32 (pk a b c), .bool (hok a b c)]) ∧ w' = w.alloc (.cells #[.int .i64 a, .int .i64 b, .int .i64 c] 30) := by
  rcases hok_cases a b c with ⟨h, e⟩ | ⟨⟨h1, h2, h3, h4, h5, h6⟩, e⟩
  · have ev : pk a b c = 0 := by simp [pk, e]
    have key : decide (0 ≤ a ∧ a < 4096) = false ∨ decide (0 ≤ a ∧ a < 4096) = true ∧ decide (0 ≤ b ∧ b < 256) = false ∨ decide (0 ≤ a ∧ a < 4096) = true ∧ decide (0 ≤ b ∧ b < 256) = true ∧ decide (0 ≤ c ∧ c < 16) = false := by
      simp only [decide_eq_true_eq, decide_eq_false_iff_not]; omega
    rw [e, ev]; clear e ev h
    rcases key with k1 | ⟨k1, k2⟩ | ⟨k1, k2, k3⟩ <;>
    · go_enter Try.func11, Try.ntmps11
      go_wp2_with (first | (go_at_call 16; ((with_reducible refine (fits_c _ _ _ (by first | exact Or.inl ⟨rfl, rfl⟩ | exact Or.inr (Or.inl ⟨rfl, rfl⟩) | exact Or.inr (Or.inr ⟨rfl, rfl⟩)) ?_ ?_ _).mono ?_); (first | with_reducible assumption | omega); (first | with_reducible assumption | omega); rintro e w' ⟨rfl, rfl⟩)))
      go_ret2
      exact ⟨rfl, rfl⟩
  · have ev : pk a b c = a * 1048576 + b * 4096 + c * 256 + 1 := by simp [pk, e]
    have k1 : decide (0 ≤ a ∧ a < 4096) = true := by simp; omega
    have k2 : decide (0 ≤ b ∧ b < 256) = true := by simp; omega
    have k3 : decide (0 ≤ c ∧ c < 16) = true := by simp; omega
    have k := Lib.hid (pack_eq a b c h1 h2 h3 h4 h5 h6)
    rw [e, ev]; clear e ev h1 h2 h3 h4 h5 h6
    go_enter Try.func11, Try.ntmps11
    go_wp2_with (first | (go_at_call 16; ((with_reducible refine (fits_c _ _ _ (by first | exact Or.inl ⟨rfl, rfl⟩ | exact Or.inr (Or.inl ⟨rfl, rfl⟩) | exact Or.inr (Or.inr ⟨rfl, rfl⟩)) ?_ ?_ _).mono ?_); (first | with_reducible assumption | omega); (first | with_reducible assumption | omega); rintro e w' ⟨rfl, rfl⟩)))
    go_ret2
    rw [← k.out]
    exact ⟨rfl, rfl⟩
theorem Open_c (a : Int) (h0 : 0 ≤ a) (h1 : a ≤ 4294967295) (w : World) :
    Calls Try.prog 12 #[.int .u32 a] w fun e w' => e = .returned (.tuple #[.agg #[.int .i64 (oc a), .int .i64 (os a), .int .i64 (ok a)], .bool (isH a)]) ∧ ∃ n, w' = (w.alloc (.cells #[.int .i64 (oc a), .int .i64 (os a), .int .i64 (ok a)] 30)).drewN n := by
  cases h : isH a
  · have e1 : (a / 1 % 256 != 1) = true := by simp [isH] at h; simp; omega
    rw [show oc a = 0 by simp [oc, h], show os a = 0 by simp [os, h], show ok a = 0 by simp [ok, h]]
    clear h
    go_enter Try.func12, Try.ntmps12
    go_wp2_with (first | (go_at_call 17; ((with_reducible refine (part_c _ _ _ _ _ ?_ ?_ (by first | exact Or.inl ⟨rfl, rfl, rfl, rfl⟩ | exact Or.inr (Or.inl ⟨rfl, rfl, rfl, rfl⟩) | exact Or.inr (Or.inr (Or.inl ⟨rfl, rfl, rfl, rfl⟩)) | exact Or.inr (Or.inr (Or.inr ⟨rfl, rfl, rfl, rfl⟩))) _).mono ?_); (first | with_reducible assumption | omega); (first | with_reducible assumption | omega); rintro e w' ⟨rfl, rfl⟩)))
    go_returns
    exact ⟨rfl, 1, rfl⟩
  · have e1 : (a / 1 % 256 != 1) = false := by simp [isH] at h; simp; omega
    rw [show oc a = hc a by simp [oc, h], show os a = hs a by simp [os, h], show ok a = hk a by simp [ok, h]]
    clear h
    go_enter Try.func12, Try.ntmps12
    go_wp2_with (first | (go_at_call 17; ((with_reducible refine (part_c _ _ _ _ _ ?_ ?_ (by first | exact Or.inl ⟨rfl, rfl, rfl, rfl⟩ | exact Or.inr (Or.inl ⟨rfl, rfl, rfl, rfl⟩) | exact Or.inr (Or.inr (Or.inl ⟨rfl, rfl, rfl, rfl⟩)) | exact Or.inr (Or.inr (Or.inr ⟨rfl, rfl, rfl, rfl⟩))) _).mono ?_); (first | with_reducible assumption | omega); (first | with_reducible assumption | omega); rintro e w' ⟨rfl, rfl⟩)) | (go_at_call 13; ((with_reducible refine (Class_c _ ?_ ?_ _).mono ?_); (first | with_reducible assumption | omega); (first | with_reducible assumption | omega); rintro e w' ⟨rfl, rfl⟩)) | (go_at_call 14; ((with_reducible refine (Size_c _ ?_ ?_ _).mono ?_); (first | with_reducible assumption | omega); (first | with_reducible assumption | omega); rintro e w' ⟨rfl, rfl⟩)))
    go_returns
    exact ⟨rfl, 4, rfl⟩
end Wd
end Go.Proofs.Ytldfgjbbdpfdnaa
