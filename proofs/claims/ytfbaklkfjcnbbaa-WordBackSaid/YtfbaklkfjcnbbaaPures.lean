/- Plain facts on words that are made of numbers: no program is named here. -/
import Derived.Test.YtfbaklkfjcnbbaaPure
namespace Go.Proofs.Ytfbaklkfjcnbbaa
open Go.RowKit
namespace Wd

theorem fits_yes {n : Int} (h : -1073741824 ≤ n) (h2 : n ≤ 1073741823) : fits n = true := by simp [fits, h, h2]
theorem fits_no {n : Int} (h : n < -1073741824 ∨ 1073741823 < n) : fits n = false := by simp [fits]; omega
theorem iv_yes {n : Int} (h : fits n = true) : iv n = wd n := by simp [iv, h]
theorem iv_no {n : Int} (h : fits n = false) : iv n = 0 := by simp [iv, h]
theorem isN_iv {n : Int} (h : fits n = true) : isN (iv n) = true := by rw [iv_yes h]; exact isN_wd n
theorem nu_iv {n : Int} (h : fits n = true) : nu (iv n) = n := by
  rw [iv_yes h]; have := (fits_iff n).1 h; exact nu_wd n this.1 this.2
theorem nv_iv {n : Int} (h : fits n = true) : nv (iv n) = n := by simp [nv, isN_iv h, nu_iv h]
theorem both_iv {n m : Int} (h : fits n = true) (k : fits m = true) : both (iv n) (iv m) = true := by simp [both, isN_iv h, isN_iv k]
theorem addok_iv {n m : Int} (h : fits n = true) (k : fits m = true) : addok (iv n) (iv m) = fits (n + m) := by simp [addok, both_iv h k, nu_iv h, nu_iv k]
theorem addv_iv {n m : Int} (h : fits n = true) (k : fits m = true) : addv (iv n) (iv m) = iv (n + m) := by simp [addv, both_iv h k, nu_iv h, nu_iv k]
theorem subok_iv {n m : Int} (h : fits n = true) (k : fits m = true) : subok (iv n) (iv m) = fits (n - m) := by simp [subok, both_iv h k, nu_iv h, nu_iv k]
theorem subv_iv {n m : Int} (h : fits n = true) (k : fits m = true) : subv (iv n) (iv m) = iv (n - m) := by simp [subv, both_iv h k, nu_iv h, nu_iv k]
theorem mulok_iv {n m : Int} (h : fits n = true) (k : fits m = true) : mulok (iv n) (iv m) = fits (n * m) := by simp [mulok, both_iv h k, nu_iv h, nu_iv k]
theorem mulv_iv {n m : Int} (h : fits n = true) (k : fits m = true) : mulv (iv n) (iv m) = iv (n * m) := by simp [mulv, both_iv h k, nu_iv h, nu_iv k]
theorem divok_iv {n m : Int} (h : fits n = true) (k : fits m = true) (hz : m ≠ 0) : divok (iv n) (iv m) = fits (fl n m) := by simp [divok, divs, both_iv h k, nu_iv h, nu_iv k, hz]
theorem divv_iv {n m : Int} (h : fits n = true) (k : fits m = true) (hz : m ≠ 0) : divv (iv n) (iv m) = iv (fl n m) := by simp [divv, divs, both_iv h k, nu_iv h, nu_iv k, hz]
theorem divok_0 (n : Int) : divok (iv n) (iv 0) = false := by
  have h : nu (iv 0) = 0 := by decide
  simp [divok, divs, h]
theorem lessv_iv {n m : Int} (h : fits n = true) (k : fits m = true) : lessv (iv n) (iv m) = decide (n < m) := by simp [lessv, both_iv h k, nu_iv h, nu_iv k]
theorem addv_bd (a b : Int) : 0 ≤ addv a b ∧ addv a b ≤ 4294967295 := by unfold addv; split; exact iv_bd _; omega
theorem subv_bd (a b : Int) : 0 ≤ subv a b ∧ subv a b ≤ 4294967295 := by unfold subv; split; exact iv_bd _; omega
theorem mulv_bd (a b : Int) : 0 ≤ mulv a b ∧ mulv a b ≤ 4294967295 := by unfold mulv; split; exact iv_bd _; omega
theorem divv_bd (a b : Int) : 0 ≤ divv a b ∧ divv a b ≤ 4294967295 := by unfold divv; split; exact iv_bd _; omega
theorem u32_side (a : Int) : (∃ op x y, a = bits op .u32 x y) ∨ (∃ n, a = iv n) → 0 ≤ a ∧ a ≤ 4294967295 := by
  rintro (⟨op, x, y, rfl⟩ | ⟨n, rfl⟩)
  · exact bits_bd _ _ _
  · exact iv_bd _
theorem both_two (a : Int) : both a 2 = false := by simp [both, isN]
theorem ov_yes {n : Int} (h : 1 ≤ n) (h2 : n ≤ 2147483647) : ov n = 2 * n ∧ isD (ov n) = true ∧ dv (ov n) = n := by
  have e : ov n = 2 * n := by simp [ov, isO, h, h2]
  have d : isD (2 * n) = true := by simp [isD]; omega
  refine ⟨e, by rw [e]; exact d, ?_⟩
  rw [e]; simp [dv, d]
theorem ov_no {n : Int} (h : n < 1 ∨ 2147483647 < n) : isD (ov n) = false := by
  have e : ov n = 0 := by simp [ov, isO]; omega
  rw [e]; decide
theorem isD_num {a : Int} (h : isN a = true) : isD a = false := by simp only [isN] at h; simp [isD, h]
theorem isD_obj {a : Int} (h : isN a = false) (hz : a ≠ 0) : isD a = true := by simp only [isN] at h; simp [isD, h, hz]
theorem ov_dv {a : Int} (h0 : 0 ≤ a) (h1 : a ≤ 4294967295) (h : isN a = false) (hz : a ≠ 0) : ov (dv a) = a := by
  have d := isD_obj h hz
  simp [isN] at h
  have e : dv a = a / 2 := by simp [dv, d]
  rw [e]; simp [ov, isO]; omega
/-- a number goes into a word, or is too small, or is too great -/
theorem in_or_out (n : Int) : (fits n = true ∧ isN (iv n) = true ∧ nv (iv n) = n ∧ -1073741824 ≤ n ∧ n < 1073741824) ∨ (fits n = false ∧ iv n = 0 ∧ n < -1073741824) ∨ (fits n = false ∧ iv n = 0 ∧ -1073741824 ≤ n ∧ 1073741824 ≤ n) := by
  by_cases h1 : n < -1073741824
  · have f := fits_no (Or.inl h1)
    exact Or.inr (Or.inl ⟨f, iv_no f, h1⟩)
  · by_cases h2 : 1073741823 < n
    · have f := fits_no (Or.inr h2)
      exact Or.inr (Or.inr ⟨f, iv_no f, by omega, by omega⟩)
    · have f := fits_yes (n := n) (by omega) (by omega)
      exact Or.inl ⟨f, isN_iv f, nv_iv f, by omega, by omega⟩
theorem tmod_bd (n m : Int) (hm : 0 < m) : -m < n.tmod m ∧ n.tmod m < m := by
  have h := Int.natAbs_tmod n m
  have h2 : n.natAbs % m.natAbs < m.natAbs := Nat.mod_lt _ (by omega)
  omega
end Wd
end Go.Proofs.Ytfbaklkfjcnbbaa
