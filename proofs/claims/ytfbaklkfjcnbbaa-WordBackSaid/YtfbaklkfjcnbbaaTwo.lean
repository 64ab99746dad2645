/- What the laws' own small functions return. -/
import Derived.Test.YtfbaklkfjcnbbaaDiv
namespace Go.Proofs.Ytfbaklkfjcnbbaa
open Go.RowKit
namespace Wd

theorem Dr.refl (w : World) : Dr w w := ⟨0, rfl⟩
theorem Dr.step {w : World} (n : Nat) : Dr w (w.drewN n) := ⟨n, rfl⟩
theorem Dr.grown {w w' : World} (h : Dr w w') : Grown w w' := by
  obtain ⟨n, rfl⟩ := h
  induction n with
  | zero => exact Grown.refl w
  | succ n ih => exact Grown.drew ih

theorem known_c (w : World) :
    Calls Try.prog 12 #[] w fun e w' => e = .returned (.bool true) ∧ Dr w w' := by
  have e1 : iv (-1) = 4294967295 := by decide
  have e2 : fits (-1) = true := by decide
  have e3 : fits 1073741824 = false := by decide
  have e4 : iv (-7) = 4294967283 := by decide
  have e5 : iv 2 = 5 := by decide
  have e6 : divv 4294967283 5 = 4294967289 := by decide
  have e7 : divok 4294967283 5 = true := by decide
  have e8 : nv 4294967289 = -4 := by decide
  have e9 : isN 4294967289 = true := by decide
  have e10 : ov 9 = 18 := by decide
  have e11 : dv 18 = 9 := by decide
  have e12 : isD 18 = true := by decide
  have e13 : lessv 4294967283 5 = true := by decide
  have e14 : both 4294967283 5 = true := by decide
  go_enter Try.func12, Try.ntmps12
  go_wp2_with (first | (go_at_call 13; ((with_reducible refine (Int_c _ _).mono ?_); rintro e w' ⟨rfl, rfl⟩)) | (go_at_call 14; ((with_reducible refine (Num_c _ ?_ ?_ _).mono ?_); omega; omega; rintro e w' ⟨rfl, rfl⟩)) | (go_at_call 19; ((with_reducible refine (ID_c _ ?_ ?_ _).mono ?_); omega; omega; rintro e w' ⟨rfl, rfl⟩)) | (go_at_call 20; ((with_reducible refine (Oop_c _ _).mono ?_); rintro e w' ⟨rfl, rfl⟩)) | (go_at_call 15; ((with_reducible refine (Add_c _ _ ?_ ?_ ?_ ?_ _).mono ?_); omega; omega; omega; omega; rintro e w' ⟨rfl, rfl⟩)) | (go_at_call 16; ((with_reducible refine (Sub_c _ _ ?_ ?_ ?_ ?_ _).mono ?_); omega; omega; omega; omega; rintro e w' ⟨rfl, rfl⟩)) | (go_at_call 17; ((with_reducible refine (Mul_c _ _ ?_ ?_ ?_ ?_ _).mono ?_); omega; omega; omega; omega; rintro e w' ⟨rfl, rfl⟩)) | (go_at_call 18; ((with_reducible refine (Div_c _ _ ?_ ?_ ?_ ?_ _).mono ?_); omega; omega; omega; omega; rintro e w' ⟨rfl, n, rfl⟩)) | (go_at_call 21; ((with_reducible refine (Less_c _ _ ?_ ?_ ?_ ?_ _).mono ?_); omega; omega; omega; omega; rintro e w' ⟨rfl, rfl⟩)))
  go_ret
  exact ⟨rfl, Dr.step _⟩

theorem one_c (n a : Int) (h0 : 0 ≤ a) (h1 : a ≤ 4294967295) (w : World) :
    Calls Try.prog 9 #[.int .i64 n, .int .u32 a] w fun e w' => e = .returned (.bool true) ∧ w = w' := by
  go_enter Try.func9, Try.ntmps9
  go_wp2_with (first | (go_at_call 13; ((with_reducible refine (Int_c _ _).mono ?_); rintro e w' ⟨rfl, rfl⟩)) | (go_at_call 14; ((with_reducible refine (Num_c _ ?_ ?_ _).mono ?_); omega; omega; rintro e w' ⟨rfl, rfl⟩)) | (go_at_call 19; ((with_reducible refine (ID_c _ ?_ ?_ _).mono ?_); omega; omega; rintro e w' ⟨rfl, rfl⟩)) | (go_at_call 20; ((with_reducible refine (Oop_c _ _).mono ?_); rintro e w' ⟨rfl, rfl⟩)) | (go_at_call 10; ((with_reducible refine (refInt_c _ _).mono ?_); rintro e w' ⟨rfl, rfl⟩)) | (go_at_call 22; ((with_reducible refine (refNum_c _ ?_ ?_ _).mono ?_); omega; omega; rintro e w' ⟨rfl, rfl⟩)) | (go_at_call 23; ((with_reducible refine (refID_c _ ?_ ?_ _).mono ?_); omega; omega; rintro e w' ⟨rfl, rfl⟩)) | (go_at_call 24; ((with_reducible refine (refOop_c _ _).mono ?_); rintro e w' ⟨rfl, rfl⟩)))
  go_ret
  exact ⟨rfl, rfl⟩

theorem two_c (a b : Int) (h0 : 0 ≤ a) (h1 : a ≤ 4294967295) (h2 : 0 ≤ b) (h3 : b ≤ 4294967295) (w : World) :
    Calls Try.prog 11 #[.int .u32 a, .int .u32 b] w fun e w' => e = .returned (.bool true) ∧ Dr w w' := by
  go_enter Try.func11, Try.ntmps11
  go_wp2_with (first | (go_at_call 15; ((with_reducible refine (Add_c _ _ ?_ ?_ ?_ ?_ _).mono ?_); omega; omega; omega; omega; rintro e w' ⟨rfl, rfl⟩)) | (go_at_call 16; ((with_reducible refine (Sub_c _ _ ?_ ?_ ?_ ?_ _).mono ?_); omega; omega; omega; omega; rintro e w' ⟨rfl, rfl⟩)) | (go_at_call 17; ((with_reducible refine (Mul_c _ _ ?_ ?_ ?_ ?_ _).mono ?_); omega; omega; omega; omega; rintro e w' ⟨rfl, rfl⟩)) | (go_at_call 18; ((with_reducible refine (Div_c _ _ ?_ ?_ ?_ ?_ _).mono ?_); omega; omega; omega; omega; rintro e w' ⟨rfl, n, rfl⟩)) | (go_at_call 21; ((with_reducible refine (Less_c _ _ ?_ ?_ ?_ ?_ _).mono ?_); omega; omega; omega; omega; rintro e w' ⟨rfl, rfl⟩)) | (go_at_call 25; ((with_reducible refine (refAdd_c _ _ ?_ ?_ ?_ ?_ _).mono ?_); omega; omega; omega; omega; rintro e w' ⟨rfl, rfl⟩)) | (go_at_call 26; ((with_reducible refine (refSub_c _ _ ?_ ?_ ?_ ?_ _).mono ?_); omega; omega; omega; omega; rintro e w' ⟨rfl, rfl⟩)) | (go_at_call 27; ((with_reducible refine (refMul_c _ _ ?_ ?_ ?_ ?_ _).mono ?_); omega; omega; omega; omega; rintro e w' ⟨rfl, rfl⟩)) | (go_at_call 28; ((with_reducible refine (refDiv_c _ _ ?_ ?_ ?_ ?_ _).mono ?_); omega; omega; omega; omega; rintro e w' ⟨rfl, n, rfl⟩)) | (go_at_call 29; ((with_reducible refine (refLess_c _ _ ?_ ?_ ?_ ?_ _).mono ?_); omega; omega; omega; omega; rintro e w' ⟨rfl, rfl⟩)))
  go_ret
  exact ⟨rfl, Dr.step _⟩
end Wd
end Go.Proofs.Ytfbaklkfjcnbbaa
