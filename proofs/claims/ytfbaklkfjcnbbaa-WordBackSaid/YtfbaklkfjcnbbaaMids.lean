/- What each function of the package word, and of the document's own answer, returns: reckoning. -/
import Derived.Test.YtfbaklkfjcnbbaaMid
namespace Go.Proofs.Ytfbaklkfjcnbbaa
open Go.RowKit
namespace Wd

theorem and1_no {a : Int} (h0 : 0 ≤ a) (h1 : a ≤ 4294967295) (h : isN a = false) : bits .and .u32 a 1 = 0 := by
  rw [and1 a h0 h1]; simp [isN] at h; omega
theorem and1_yes {a : Int} (h0 : 0 ≤ a) (h1 : a ≤ 4294967295) (h : isN a = true) : bits .and .u32 a 1 = 1 := by
  rw [and1 a h0 h1]; simp [isN] at h; omega

theorem refNum_c (a : Int) (h0 : 0 ≤ a) (h1 : a ≤ 4294967295) (w : World) :
    Calls Try.prog 22 #[.int .u32 a] w fun e w' => e = .returned (.tuple #[.int .i64 (nv a), .bool (isN a)]) ∧ w = w' := by
  obtain ⟨b1, b2⟩ := nu_bd a h0 h1
  have hw := nu_eq a h0 h1
  cases ha : isN a
  · have k := and1_no h0 h1 ha
    go_enter Try.func22, Try.ntmps22
    go_wp2
    go_ret2
    exact ⟨ret_i64b (by simp [nv, ha]) rfl, rfl⟩
  · have k := and1_yes h0 h1 ha
    go_enter Try.func22, Try.ntmps22
    go_wp2
    go_ret2
    exact ⟨ret_i64b (by simp [nv, ha]) rfl, rfl⟩

theorem refID_c (a : Int) (h0 : 0 ≤ a) (h1 : a ≤ 4294967295) (w : World) :
    Calls Try.prog 23 #[.int .u32 a] w fun e w' => e = .returned (.tuple #[.int .i64 (dv a), .bool (isD a)]) ∧ w = w' := by
  cases ha : isN a
  · have k := and1_no h0 h1 ha
    by_cases hz : a = 0
    · subst hz
      go_enter Try.func23, Try.ntmps23
      go_wp2
      go_ret2
      exact ⟨ret_i64b (by decide) (by decide), rfl⟩
    · have hb : (a == 0) = false := by simp [hz]
      go_enter Try.func23, Try.ntmps23
      go_wp2
      go_ret2
      have hd : isD a = true := by simp only [isN] at ha; simp [isD, ha, hz]
      exact ⟨ret_i64b (by simp [dv, hd]) hd.symm, rfl⟩
  · have k := and1_yes h0 h1 ha
    go_enter Try.func23, Try.ntmps23
    go_wp2
    go_ret2
    have hd : isD a = false := by simp only [isN] at ha; simp [isD, ha]
    exact ⟨ret_i64b (by simp [dv, hd]) hd.symm, rfl⟩

theorem both_c (a b : Int) (h0 : 0 ≤ a) (h1 : a ≤ 4294967295) (h2 : 0 ≤ b) (h3 : b ≤ 4294967295) (w : World) :
    Calls Try.prog 35 #[.int .u32 a, .int .u32 b] w fun e w' => e = .returned (.tuple #[.int .i64 (nv a), .int .i64 (nv b), .bool (both a b)]) ∧ w = w' := by
  cases ha : isN a <;>
  · go_enter Try.func35, Try.ntmps35
    go_wp2_with (first | (go_at_call 22; ((with_reducible refine (refNum_c _ ?_ ?_ _).mono ?_); omega; omega; rintro e w' ⟨rfl, rfl⟩)))
    go_ret3
    exact ⟨by simp [both, ha], rfl⟩

theorem Add_c (a b : Int) (h0 : 0 ≤ a) (h1 : a ≤ 4294967295) (h2 : 0 ≤ b) (h3 : b ≤ 4294967295) (w : World) :
    Calls Try.prog 15 #[.int .u32 a, .int .u32 b] w fun e w' => e = .returned (.tuple #[.int .u32 (addv a b), .bool (addok a b)]) ∧ w = w' := by
  obtain ⟨b1, b2⟩ := nu_bd a h0 h1
  obtain ⟨b3, b4⟩ := nu_bd b h2 h3
  cases hh : both a b
  · go_enter Try.func15, Try.ntmps15
    go_wp2_with (first | (go_at_call 33; ((with_reducible refine (areNumbers_c _ _ ?_ ?_ ?_ ?_ _).mono ?_); omega; omega; omega; omega; rintro e w' ⟨rfl, rfl⟩)) | (go_at_call 32; ((with_reducible refine (number_c _ ?_ ?_ _).mono ?_); omega; omega; rintro e w' ⟨rfl, rfl⟩)) | (go_at_call 30; ((with_reducible refine (wordOf_c _ _).mono ?_); rintro e w' ⟨rfl, rfl⟩)))
    go_ret2
    exact ⟨ret_u32b (by simp [addv, hh]) (by simp [addok, hh]), rfl⟩
  · have hab : isN a = true ∧ isN b = true := by simpa [both] using hh
    clear hab
    go_enter Try.func15, Try.ntmps15
    go_wp2_with (first | (go_at_call 33; ((with_reducible refine (areNumbers_c _ _ ?_ ?_ ?_ ?_ _).mono ?_); omega; omega; omega; omega; rintro e w' ⟨rfl, rfl⟩)) | (go_at_call 32; ((with_reducible refine (number_c _ ?_ ?_ _).mono ?_); omega; omega; rintro e w' ⟨rfl, rfl⟩)) | (go_at_call 30; ((with_reducible refine (wordOf_c _ _).mono ?_); rintro e w' ⟨rfl, rfl⟩)))
    go_ret2
    exact ⟨ret_u32b (by simp [addv, hh]) (by simp [addok, hh]), rfl⟩

theorem Sub_c (a b : Int) (h0 : 0 ≤ a) (h1 : a ≤ 4294967295) (h2 : 0 ≤ b) (h3 : b ≤ 4294967295) (w : World) :
    Calls Try.prog 16 #[.int .u32 a, .int .u32 b] w fun e w' => e = .returned (.tuple #[.int .u32 (subv a b), .bool (subok a b)]) ∧ w = w' := by
  obtain ⟨b1, b2⟩ := nu_bd a h0 h1
  obtain ⟨b3, b4⟩ := nu_bd b h2 h3
  cases hh : both a b
  · go_enter Try.func16, Try.ntmps16
    go_wp2_with (first | (go_at_call 33; ((with_reducible refine (areNumbers_c _ _ ?_ ?_ ?_ ?_ _).mono ?_); omega; omega; omega; omega; rintro e w' ⟨rfl, rfl⟩)) | (go_at_call 32; ((with_reducible refine (number_c _ ?_ ?_ _).mono ?_); omega; omega; rintro e w' ⟨rfl, rfl⟩)) | (go_at_call 30; ((with_reducible refine (wordOf_c _ _).mono ?_); rintro e w' ⟨rfl, rfl⟩)))
    go_ret2
    exact ⟨ret_u32b (by simp [subv, hh]) (by simp [subok, hh]), rfl⟩
  · have hab : isN a = true ∧ isN b = true := by simpa [both] using hh
    clear hab
    go_enter Try.func16, Try.ntmps16
    go_wp2_with (first | (go_at_call 33; ((with_reducible refine (areNumbers_c _ _ ?_ ?_ ?_ ?_ _).mono ?_); omega; omega; omega; omega; rintro e w' ⟨rfl, rfl⟩)) | (go_at_call 32; ((with_reducible refine (number_c _ ?_ ?_ _).mono ?_); omega; omega; rintro e w' ⟨rfl, rfl⟩)) | (go_at_call 30; ((with_reducible refine (wordOf_c _ _).mono ?_); rintro e w' ⟨rfl, rfl⟩)))
    go_ret2
    exact ⟨ret_u32b (by simp [subv, hh]) (by simp [subok, hh]), rfl⟩

theorem Mul_c (a b : Int) (h0 : 0 ≤ a) (h1 : a ≤ 4294967295) (h2 : 0 ≤ b) (h3 : b ≤ 4294967295) (w : World) :
    Calls Try.prog 17 #[.int .u32 a, .int .u32 b] w fun e w' => e = .returned (.tuple #[.int .u32 (mulv a b), .bool (mulok a b)]) ∧ w = w' := by
  obtain ⟨b1, b2⟩ := nu_bd a h0 h1
  obtain ⟨b3, b4⟩ := nu_bd b h2 h3
  have hm := mul_bd (nu a) (nu b) (by omega) (by omega) (by omega) (by omega)
  obtain ⟨m1, m2⟩ := hm
  cases hh : both a b
  · go_enter Try.func17, Try.ntmps17
    go_wp2_with (first | (go_at_call 33; ((with_reducible refine (areNumbers_c _ _ ?_ ?_ ?_ ?_ _).mono ?_); omega; omega; omega; omega; rintro e w' ⟨rfl, rfl⟩)) | (go_at_call 32; ((with_reducible refine (number_c _ ?_ ?_ _).mono ?_); omega; omega; rintro e w' ⟨rfl, rfl⟩)) | (go_at_call 30; ((with_reducible refine (wordOf_c _ _).mono ?_); rintro e w' ⟨rfl, rfl⟩)))
    go_ret2
    exact ⟨ret_u32b (by simp [mulv, hh]) (by simp [mulok, hh]), rfl⟩
  · have hab : isN a = true ∧ isN b = true := by simpa [both] using hh
    clear hab
    go_enter Try.func17, Try.ntmps17
    go_wp2_with (first | (go_at_call 33; ((with_reducible refine (areNumbers_c _ _ ?_ ?_ ?_ ?_ _).mono ?_); omega; omega; omega; omega; rintro e w' ⟨rfl, rfl⟩)) | (go_at_call 32; ((with_reducible refine (number_c _ ?_ ?_ _).mono ?_); omega; omega; rintro e w' ⟨rfl, rfl⟩)) | (go_at_call 30; ((with_reducible refine (wordOf_c _ _).mono ?_); rintro e w' ⟨rfl, rfl⟩)))
    go_ret2
    exact ⟨ret_u32b (by simp [mulv, hh]) (by simp [mulok, hh]), rfl⟩

theorem Less_c (a b : Int) (h0 : 0 ≤ a) (h1 : a ≤ 4294967295) (h2 : 0 ≤ b) (h3 : b ≤ 4294967295) (w : World) :
    Calls Try.prog 21 #[.int .u32 a, .int .u32 b] w fun e w' => e = .returned (.tuple #[.bool (lessv a b), .bool (both a b)]) ∧ w = w' := by
  cases hh : both a b
  · go_enter Try.func21, Try.ntmps21
    go_wp2_with (first | (go_at_call 33; ((with_reducible refine (areNumbers_c _ _ ?_ ?_ ?_ ?_ _).mono ?_); omega; omega; omega; omega; rintro e w' ⟨rfl, rfl⟩)) | (go_at_call 32; ((with_reducible refine (number_c _ ?_ ?_ _).mono ?_); omega; omega; rintro e w' ⟨rfl, rfl⟩)))
    go_ret2
    exact ⟨ret_bb (by simp [lessv, hh]) rfl, rfl⟩
  · have hab : isN a = true ∧ isN b = true := by simpa [both] using hh
    clear hab
    go_enter Try.func21, Try.ntmps21
    go_wp2_with (first | (go_at_call 33; ((with_reducible refine (areNumbers_c _ _ ?_ ?_ ?_ ?_ _).mono ?_); omega; omega; omega; omega; rintro e w' ⟨rfl, rfl⟩)) | (go_at_call 32; ((with_reducible refine (number_c _ ?_ ?_ _).mono ?_); omega; omega; rintro e w' ⟨rfl, rfl⟩)))
    go_ret2
    exact ⟨ret_bb (by simp [lessv, hh]) rfl, rfl⟩

theorem refAdd_c (a b : Int) (h0 : 0 ≤ a) (h1 : a ≤ 4294967295) (h2 : 0 ≤ b) (h3 : b ≤ 4294967295) (w : World) :
    Calls Try.prog 25 #[.int .u32 a, .int .u32 b] w fun e w' => e = .returned (.tuple #[.int .u32 (addv a b), .bool (addok a b)]) ∧ w = w' := by
  obtain ⟨b1, b2⟩ := nu_bd a h0 h1
  obtain ⟨b3, b4⟩ := nu_bd b h2 h3
  cases hh : both a b
  · go_enter Try.func25, Try.ntmps25
    go_wp2_with (first | (go_at_call 35; ((with_reducible refine (both_c _ _ ?_ ?_ ?_ ?_ _).mono ?_); omega; omega; omega; omega; rintro e w' ⟨rfl, rfl⟩)) | (go_at_call 10; ((with_reducible refine (refInt_c _ _).mono ?_); rintro e w' ⟨rfl, rfl⟩)))
    go_ret2
    exact ⟨ret_u32b (by simp [addv, hh]) (by simp [addok, hh]), rfl⟩
  · have hab : isN a = true ∧ isN b = true := by simpa [both] using hh
    have na : nv a = nu a := by simp [nv, hab.1]
    have nb : nv b = nu b := by simp [nv, hab.2]
    clear hab
    go_enter Try.func25, Try.ntmps25
    go_wp2_with (first | (go_at_call 35; ((with_reducible refine (both_c _ _ ?_ ?_ ?_ ?_ _).mono ?_); omega; omega; omega; omega; rintro e w' ⟨rfl, rfl⟩)) | (go_at_call 10; ((with_reducible refine (refInt_c _ _).mono ?_); rintro e w' ⟨rfl, rfl⟩)))
    go_ret2
    exact ⟨ret_u32b (by simp [addv, hh]) (by simp [addok, hh]), rfl⟩

theorem refSub_c (a b : Int) (h0 : 0 ≤ a) (h1 : a ≤ 4294967295) (h2 : 0 ≤ b) (h3 : b ≤ 4294967295) (w : World) :
    Calls Try.prog 26 #[.int .u32 a, .int .u32 b] w fun e w' => e = .returned (.tuple #[.int .u32 (subv a b), .bool (subok a b)]) ∧ w = w' := by
  obtain ⟨b1, b2⟩ := nu_bd a h0 h1
  obtain ⟨b3, b4⟩ := nu_bd b h2 h3
  cases hh : both a b
  · go_enter Try.func26, Try.ntmps26
    go_wp2_with (first | (go_at_call 35; ((with_reducible refine (both_c _ _ ?_ ?_ ?_ ?_ _).mono ?_); omega; omega; omega; omega; rintro e w' ⟨rfl, rfl⟩)) | (go_at_call 10; ((with_reducible refine (refInt_c _ _).mono ?_); rintro e w' ⟨rfl, rfl⟩)))
    go_ret2
    exact ⟨ret_u32b (by simp [subv, hh]) (by simp [subok, hh]), rfl⟩
  · have hab : isN a = true ∧ isN b = true := by simpa [both] using hh
    have na : nv a = nu a := by simp [nv, hab.1]
    have nb : nv b = nu b := by simp [nv, hab.2]
    clear hab
    go_enter Try.func26, Try.ntmps26
    go_wp2_with (first | (go_at_call 35; ((with_reducible refine (both_c _ _ ?_ ?_ ?_ ?_ _).mono ?_); omega; omega; omega; omega; rintro e w' ⟨rfl, rfl⟩)) | (go_at_call 10; ((with_reducible refine (refInt_c _ _).mono ?_); rintro e w' ⟨rfl, rfl⟩)))
    go_ret2
    exact ⟨ret_u32b (by simp [subv, hh]) (by simp [subok, hh]), rfl⟩

theorem refMul_c (a b : Int) (h0 : 0 ≤ a) (h1 : a ≤ 4294967295) (h2 : 0 ≤ b) (h3 : b ≤ 4294967295) (w : World) :
    Calls Try.prog 27 #[.int .u32 a, .int .u32 b] w fun e w' => e = .returned (.tuple #[.int .u32 (mulv a b), .bool (mulok a b)]) ∧ w = w' := by
  obtain ⟨b1, b2⟩ := nu_bd a h0 h1
  obtain ⟨b3, b4⟩ := nu_bd b h2 h3
  have hm := mul_bd (nu a) (nu b) (by omega) (by omega) (by omega) (by omega)
  obtain ⟨m1, m2⟩ := hm
  cases hh : both a b
  · go_enter Try.func27, Try.ntmps27
    go_wp2_with (first | (go_at_call 35; ((with_reducible refine (both_c _ _ ?_ ?_ ?_ ?_ _).mono ?_); omega; omega; omega; omega; rintro e w' ⟨rfl, rfl⟩)) | (go_at_call 10; ((with_reducible refine (refInt_c _ _).mono ?_); rintro e w' ⟨rfl, rfl⟩)))
    go_ret2
    exact ⟨ret_u32b (by simp [mulv, hh]) (by simp [mulok, hh]), rfl⟩
  · have hab : isN a = true ∧ isN b = true := by simpa [both] using hh
    have na : nv a = nu a := by simp [nv, hab.1]
    have nb : nv b = nu b := by simp [nv, hab.2]
    clear hab
    go_enter Try.func27, Try.ntmps27
    go_wp2_with (first | (go_at_call 35; ((with_reducible refine (both_c _ _ ?_ ?_ ?_ ?_ _).mono ?_); omega; omega; omega; omega; rintro e w' ⟨rfl, rfl⟩)) | (go_at_call 10; ((with_reducible refine (refInt_c _ _).mono ?_); rintro e w' ⟨rfl, rfl⟩)))
    go_ret2
    exact ⟨ret_u32b (by simp [mulv, hh]) (by simp [mulok, hh]), rfl⟩

theorem refLess_c (a b : Int) (h0 : 0 ≤ a) (h1 : a ≤ 4294967295) (h2 : 0 ≤ b) (h3 : b ≤ 4294967295) (w : World) :
    Calls Try.prog 29 #[.int .u32 a, .int .u32 b] w fun e w' => e = .returned (.tuple #[.bool (lessv a b), .bool (both a b)]) ∧ w = w' := by
  cases hh : both a b
  · go_enter Try.func29, Try.ntmps29
    go_wp2_with (first | (go_at_call 35; ((with_reducible refine (both_c _ _ ?_ ?_ ?_ ?_ _).mono ?_); omega; omega; omega; omega; rintro e w' ⟨rfl, rfl⟩)))
    go_ret2
    exact ⟨ret_bb (by simp [lessv, hh]) rfl, rfl⟩
  · have hab : isN a = true ∧ isN b = true := by simpa [both] using hh
    have na : nv a = nu a := by simp [nv, hab.1]
    have nb : nv b = nu b := by simp [nv, hab.2]
    clear hab
    go_enter Try.func29, Try.ntmps29
    go_wp2_with (first | (go_at_call 35; ((with_reducible refine (both_c _ _ ?_ ?_ ?_ ?_ _).mono ?_); omega; omega; omega; omega; rintro e w' ⟨rfl, rfl⟩)))
    go_ret2
    exact ⟨ret_bb (by simp [lessv, hh]) rfl, rfl⟩
end Wd
end Go.Proofs.Ytfbaklkfjcnbbaa
