/- What each function of the package word, and of the document's own answer, returns: those that call others. -/
import Derived.Test.YtfbaklkfjcnbbaaLeaf
namespace Go.Proofs.Ytfbaklkfjcnbbaa
open Go.RowKit
namespace Wd

theorem ret_u32b {m n : Int} {x y : Bool} (h : m = n) (k : x = y) : Ending.returned (.tuple #[.int .u32 m, .bool x]) = .returned (.tuple #[.int .u32 n, .bool y]) := by rw [h, k]
theorem ret_i64b {m n : Int} {x y : Bool} (h : m = n) (k : x = y) : Ending.returned (.tuple #[.int .i64 m, .bool x]) = .returned (.tuple #[.int .i64 n, .bool y]) := by rw [h, k]
theorem ret_bb {m n : Bool} {x y : Bool} (h : m = n) (k : x = y) : Ending.returned (.tuple #[.bool m, .bool x]) = .returned (.tuple #[.bool n, .bool y]) := by rw [h, k]
theorem ret_b {m n : Bool} (h : m = n) : Ending.returned (.bool m) = .returned (.bool n) := by rw [h]
theorem ret_u32 {m n : Int} (h : m = n) : Ending.returned (.int .u32 m) = .returned (.int .u32 n) := by rw [h]

theorem Int_c (n : Int) (w : World) :
    Calls Try.prog 13 #[.int .i64 n] w fun e w' => e = .returned (.tuple #[.int .u32 (iv n), .bool (fits n)]) ∧ w = w' := by
  go_enter Try.func13, Try.ntmps13
  go_wp2_with (first | (go_at_call 30; ((with_reducible refine (wordOf_c _ _).mono ?_); rintro e w' ⟨rfl, rfl⟩)))
  go_ret2
  exact ⟨rfl, rfl⟩

theorem areNumbers_c (a b : Int) (h0 : 0 ≤ a) (h1 : a ≤ 4294967295) (h2 : 0 ≤ b) (h3 : b ≤ 4294967295) (w : World) :
    Calls Try.prog 33 #[.int .u32 a, .int .u32 b] w fun e w' => e = .returned (.bool (both a b)) ∧ w = w' := by
  cases ha : isN a <;>
  · go_enter Try.func33, Try.ntmps33
    go_wp2_with (first | (go_at_call 31; ((with_reducible refine (isNumber_c _ ?_ ?_ _).mono ?_); omega; omega; rintro e w' ⟨rfl, rfl⟩)))
    go_ret
    exact ⟨ret_b (by simp [both, ha]), rfl⟩

theorem Num_c (a : Int) (h0 : 0 ≤ a) (h1 : a ≤ 4294967295) (w : World) :
    Calls Try.prog 14 #[.int .u32 a] w fun e w' => e = .returned (.tuple #[.int .i64 (nv a), .bool (isN a)]) ∧ w = w' := by
  obtain ⟨b1, b2⟩ := nu_bd a h0 h1
  cases ha : isN a <;>
  · go_enter Try.func14, Try.ntmps14
    go_wp2_with (first | (go_at_call 31; ((with_reducible refine (isNumber_c _ ?_ ?_ _).mono ?_); omega; omega; rintro e w' ⟨rfl, rfl⟩)) | (go_at_call 32; ((with_reducible refine (number_c _ ?_ ?_ _).mono ?_); omega; omega; rintro e w' ⟨rfl, rfl⟩)))
    go_ret2
    exact ⟨ret_i64b (by simp [nv, ha]) rfl, rfl⟩

theorem ID_c (a : Int) (h0 : 0 ≤ a) (h1 : a ≤ 4294967295) (w : World) :
    Calls Try.prog 19 #[.int .u32 a] w fun e w' => e = .returned (.tuple #[.int .i64 (dv a), .bool (isD a)]) ∧ w = w' := by
  cases ha : isN a
  · by_cases hz : a = 0
    · subst hz
      go_enter Try.func19, Try.ntmps19
      go_wp2_with (first | (go_at_call 31; ((with_reducible refine (isNumber_c _ ?_ ?_ _).mono ?_); omega; omega; rintro e w' ⟨rfl, rfl⟩)))
      go_ret2
      exact ⟨ret_i64b (by decide) (by decide), rfl⟩
    · have hb : (a == 0) = false := by simp [hz]
      go_enter Try.func19, Try.ntmps19
      go_wp2_with (first | (go_at_call 31; ((with_reducible refine (isNumber_c _ ?_ ?_ _).mono ?_); omega; omega; rintro e w' ⟨rfl, rfl⟩)))
      go_ret2
      have hd : isD a = true := by simp only [isN] at ha; simp [isD, ha, hz]
      exact ⟨ret_i64b (by simp [dv, hd]) hd.symm, rfl⟩
  · go_enter Try.func19, Try.ntmps19
    go_wp2_with (first | (go_at_call 31; ((with_reducible refine (isNumber_c _ ?_ ?_ _).mono ?_); omega; omega; rintro e w' ⟨rfl, rfl⟩)))
    go_ret2
    have hd : isD a = false := by simp only [isN] at ha; simp [isD, ha]
    exact ⟨ret_i64b (by simp [dv, hd]) hd.symm, rfl⟩

theorem Oop_c (a : Int) (w : World) :
    Calls Try.prog 20 #[.int .i64 a] w fun e w' => e = .returned (.int .u32 (ov a)) ∧ w = w' := by
  by_cases h1 : a < 1
  · go_enter Try.func20, Try.ntmps20
    go_wp2
    go_ret
    exact ⟨ret_u32 (by simp [ov, isO]; omega), rfl⟩
  · by_cases h2 : 2147483647 < a
    · have h1' : 1 ≤ a := by omega
      go_enter Try.func20, Try.ntmps20
      go_wp2
      go_ret
      exact ⟨ret_u32 (by simp [ov, isO]; omega), rfl⟩
    · have h1' : 1 ≤ a := by omega
      have h2' : a ≤ 2147483647 := by omega
      go_enter Try.func20, Try.ntmps20
      go_wp2
      go_ret
      exact ⟨ret_u32 (by simp [ov, isO]; omega), rfl⟩

theorem refOop_c (a : Int) (w : World) :
    Calls Try.prog 24 #[.int .i64 a] w fun e w' => e = .returned (.int .u32 (ov a)) ∧ w = w' := by
  by_cases h1 : a < 1
  · go_enter Try.func24, Try.ntmps24
    go_wp2
    go_ret
    exact ⟨ret_u32 (by simp [ov, isO]; omega), rfl⟩
  · by_cases h2 : 2147483647 < a
    · have h1' : 1 ≤ a := by omega
      go_enter Try.func24, Try.ntmps24
      go_wp2
      go_ret
      exact ⟨ret_u32 (by simp [ov, isO]; omega), rfl⟩
    · have h1' : 1 ≤ a := by omega
      have h2' : a ≤ 2147483647 := by omega
      go_enter Try.func24, Try.ntmps24
      go_wp2
      go_ret
      exact ⟨ret_u32 (by simp [ov, isO]; omega), rfl⟩
end Wd
end Go.Proofs.Ytfbaklkfjcnbbaa
