/- What each function of the package word, and of the document's own answer, returns: the leaves. -/
import Derived.Test.YtfbaklkfjcnbbaaRows
import Derived.Test.YtfbaklkfjcnbbaaPure
import Derived.WalkKit
import Derived.WalkSpells
import Derived.WalkLawsBesides
import Derived.Handy
import Derived.Lib.Hide
import Derived.BigQuiet
namespace Go.Proofs.Ytfbaklkfjcnbbaa
open Go.RowKit
namespace Wd

theorem isNumber_c (a : Int) (h0 : 0 ≤ a) (h1 : a ≤ 4294967295) (w : World) :
    Calls Try.prog 31 #[.int .u32 a] w fun e w' => e = .returned (.bool (isN a)) ∧ w = w' := by
  go_enter Try.func31, Try.ntmps31
  go_wp2
  go_ret
  refine ⟨?_, rfl⟩
  show Ending.returned (Value.bool (bits BinOp.and IntKind.u32 a 1 == 1)) = _
  rw [and1 a h0 h1]; rfl

theorem number_c (a : Int) (h0 : 0 ≤ a) (h1 : a ≤ 4294967295) (w : World) :
    Calls Try.prog 32 #[.int .u32 a] w fun e w' => e = .returned (.int .i64 (nu a)) ∧ w = w' := by
  go_enter Try.func32, Try.ntmps32
  go_wp2
  go_ret
  refine ⟨?_, rfl⟩
  show Ending.returned (Value.int IntKind.i64 (wrap64 (wrap32 a / 2))) = _
  have e := nu_eq a h0 h1
  have b := nu_bd a h0 h1
  rw [e, IntWalk.wrap64_in _ (by omega)]

theorem wordOf_c (n : Int) (w : World) :
    Calls Try.prog 30 #[.int .i64 n] w fun e w' => e = .returned (.tuple #[.int .u32 (iv n), .bool (fits n)]) ∧ w = w' := by
  by_cases h1 : n < -1073741824
  · have hf : fits n = false := by simp [fits]; omega
    have hv : iv n = 0 := by simp [iv, hf]
    rw [hf, hv]; clear hf hv
    go_enter Try.func30, Try.ntmps30
    go_wp2
    go_ret2
    exact ⟨rfl, rfl⟩
  · by_cases h2 : 1073741823 < n
    · have hf : fits n = false := by simp [fits]; omega
      have hv : iv n = 0 := by simp [iv, hf]
      rw [hf, hv]; clear hf hv
      have h1' : -1073741824 ≤ n := by omega
      go_enter Try.func30, Try.ntmps30
      go_wp2
      go_ret2
      exact ⟨rfl, rfl⟩
    · have hf : fits n = true := by simp [fits]; omega
      have hv : iv n = wd n := by simp [iv, hf]
      rw [hf, hv]; clear hf hv
      have h1' : -1073741824 ≤ n := by omega
      have h2' : n ≤ 1073741823 := by omega
      have k := Lib.hid (or_shl n)
      go_enter Try.func30, Try.ntmps30
      go_wp2
      go_ret2
      rw [← k.out]
      exact ⟨rfl, rfl⟩

theorem refInt_c (n : Int) (w : World) :
    Calls Try.prog 10 #[.int .i64 n] w fun e w' => e = .returned (.tuple #[.int .u32 (iv n), .bool (fits n)]) ∧ w = w' := by
  by_cases h1 : n < -1073741824
  · have hf : fits n = false := by simp [fits]; omega
    have hv : iv n = 0 := by simp [iv, hf]
    rw [hf, hv]; clear hf hv
    go_enter Try.func10, Try.ntmps10
    go_wp2
    go_ret2
    exact ⟨rfl, rfl⟩
  · by_cases h2 : 1073741823 < n
    · have hf : fits n = false := by simp [fits]; omega
      have hv : iv n = 0 := by simp [iv, hf]
      rw [hf, hv]; clear hf hv
      have h1' : -1073741824 ≤ n := by omega
      go_enter Try.func10, Try.ntmps10
      go_wp2
      go_ret2
      exact ⟨rfl, rfl⟩
    · have hf : fits n = true := by simp [fits]; omega
      have hv : iv n = wd n := by simp [iv, hf]
      rw [hf, hv]; clear hf hv
      have h1' : -1073741824 ≤ n := by omega
      have h2' : n ≤ 1073741823 := by omega
      have k := Lib.hid (or_shl n)
      go_enter Try.func10, Try.ntmps10
      go_wp2
      go_ret2
      rw [← k.out]
      exact ⟨rfl, rfl⟩

theorem ret_i64 {m n : Int} (h : m = n) : Ending.returned (.int .i64 m) = .returned (.int .i64 n) := by rw [h]
theorem floor_c (a b : Int) (ha : -1073741824 ≤ a) (ha' : a ≤ 1073741823) (h : ¬ b = 0) (w : World) :
    Calls Try.prog 34 #[.int .i64 a, .int .i64 b] w fun e w' => e = .returned (.int .i64 (fl a b)) ∧ w.drew = w' := by
  have hq := tdiv_bd a b 1073741824 (by omega) (by omega)
  obtain ⟨hq1, hq2⟩ := hq
  go_enter Try.func34, Try.ntmps34
  go_wp2
  go_region
  all_goals go_wp2
  all_goals go_ret
  · rename_i e
    exact ⟨ret_i64 (by simp [fl, e]), rfl⟩
  · rename_i e1 e2
    exact ⟨ret_i64 (by simp only [bne_iff_ne, ne_eq] at e2; simp [fl, e1]; simp at e2; simp [e2]), rfl⟩
  · rename_i e1 e2
    exact ⟨ret_i64 (by simp [e1] at e2; simp [fl, e2]), rfl⟩
end Wd
end Go.Proofs.Ytfbaklkfjcnbbaa
