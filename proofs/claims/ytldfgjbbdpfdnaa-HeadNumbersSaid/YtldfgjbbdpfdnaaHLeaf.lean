/- What each function of the package head, and of the document's own answer, returns. -/
import Derived.Test.YtldfgjbbdpfdnaaRows
import Derived.Test.YtldfgjbbdpfdnaaHPure
import Derived.WalkKit
import Derived.WalkSpells
import Derived.WalkLawsBesides
import Derived.Handy
import Derived.Lib.Hide
import Derived.BigQuiet
namespace Go.Proofs.Ytldfgjbbdpfdnaa
open Go.RowKit
namespace Wd

theorem fits_c (n b m : Int) (hb : (b = 12 ∧ m = 4096) ∨ (b = 8 ∧ m = 256) ∨ (b = 4 ∧ m = 16)) (h1 : -9223372036854775808 ≤ n) (h2 : n ≤ 9223372036854775807) (w : World) :
    Calls Try.prog 16 #[.int .i64 n, .int .i64 b] w fun e w' => e = .returned (.bool (decide (0 ≤ n ∧ n < m))) ∧ w = w' := by
  have hw : (n % 18446744073709551616 / m == 0) = decide (0 ≤ n ∧ n < m) := by
    rw [Bool.eq_iff_iff, beq_iff_eq, decide_eq_true_iff]
    exact wrap_fit n m h1 h2 (by omega) (by omega)
  rcases hb with ⟨rfl, rfl⟩ | ⟨rfl, rfl⟩ | ⟨rfl, rfl⟩ <;>
  · rw [← hw]; clear hw
    go_enter Try.func16, Try.ntmps16
    go_wp2
    go_ret
    exact ⟨rfl, rfl⟩
def Dr (w w' : World) : Prop := ∃ n, w' = w.drewN n
theorem part_c (a t b m l : Int) (h0 : 0 ≤ a) (h1 : a ≤ 4294967295) (hb : (t = 0 ∧ b = 8 ∧ l = 1 ∧ m = 256) ∨ (t = 8 ∧ b = 4 ∧ l = 256 ∧ m = 16) ∨ (t = 12 ∧ b = 8 ∧ l = 4096 ∧ m = 256) ∨ (t = 20 ∧ b = 12 ∧ l = 1048576 ∧ m = 4096)) (w : World) :
    Calls Try.prog 17 #[.int .u32 a, .int .i64 t, .int .i64 b] w fun e w' => e = .returned (.int .i64 (a / l % m)) ∧ w' = w.drew := by
  have k8 := fun x h h' => and255 x h h'
  have k4 := fun x h h' => and15 x h h'
  have k12 := fun x h h' => and4095 x h h'
  rcases hb with ⟨rfl, rfl, rfl, rfl⟩ | ⟨rfl, rfl, rfl, rfl⟩ | ⟨rfl, rfl, rfl, rfl⟩ | ⟨rfl, rfl, rfl, rfl⟩ <;>
  · go_enter Try.func17, Try.ntmps17
    go_wp2
    go_region
    all_goals go_wp2
    all_goals go_ret
    exact ⟨by
      first
      | (refine congrArg Ending.returned (congrArg (Value.int .i64) ?_); show a % 256 = a / 1 % 256; omega)
      | (refine congrArg Ending.returned (congrArg (Value.int .i64) ?_); show wrap64 (bits _ _ _ _) = _; (first | rw [k8 _ (by omega) (by omega)] | rw [k4 _ (by omega) (by omega)] | rw [k12 _ (by omega) (by omega)]); rw [IntWalk.wrap64_in _ (by omega)]), rfl⟩
theorem ropen_c (a : Int) (h0 : 0 ≤ a) (h1 : a ≤ 4294967295) (w : World) :
    Calls Try.prog 15 #[.int .u32 a] w fun e w' => e = .returned (.tuple #[.int .i64 (oc a), .int .i64 (os a), .int .i64 (ok a), .bool (isH a)]) ∧ w = w' := by
  have k := and255 a h0 h1
  have ka := and255 (a / 4096) (by omega) (by omega)
  have kb := and15 (a / 256) (by omega) (by omega)
  cases h : isH a
  · have e1 : (bits .and .u32 a 255 != 1) = true := by rw [k]; simpa [isH] using h
    rw [show oc a = 0 by simp [oc, h], show os a = 0 by simp [os, h], show ok a = 0 by simp [ok, h]]
    clear h k ka kb
    go_enter Try.func15, Try.ntmps15
    go_wp2
    go_returns
    exact ⟨rfl, rfl⟩
  · have e1 : (bits .and .u32 a 255 != 1) = false := by rw [k]; simpa [isH] using h
    rw [show oc a = a / 1048576 by simp [oc, h, hc], show os a = bits .and .u32 (a / 4096) 255 by simp [os, h, hs, ka], show ok a = bits .and .u32 (a / 256) 15 by simp [ok, h, hk, kb]]
    clear h k ka kb
    go_enter Try.func15, Try.ntmps15
    go_wp2
    go_returns
    rw [IntWalk.wrap64_in (bits .and .u32 (a / 4096) 255) (by have := bits_bd .and (a / 4096) 255; omega), IntWalk.wrap64_in (bits .and .u32 (a / 256) 15) (by have := bits_bd .and (a / 256) 15; omega)]
    exact ⟨rfl, rfl⟩
theorem rpack_c (a b c : Int) (w : World) :
    Calls Try.prog 8 #[.int .i64 a, .int .i64 b, .int .i64 c] w fun e w' => e = .returned (.tuple #[.int .u32 (pk a b c), .bool (hok a b c)]) ∧ w = w' := by
  have key := hok_cases a b c
  rcases key with ⟨h, e⟩ | ⟨⟨h1, h2, h3, h4, h5, h6⟩, e⟩
  · have ev : pk a b c = 0 := by simp [pk, e]
    rw [e, ev]; clear e ev
    go_enter Try.func8, Try.ntmps8
    rcases h with h | h | h | h | h | h <;>
    · go_wp2
      all_goals (go_ret2; exact ⟨rfl, rfl⟩)
  · have ev : pk a b c = a * 1048576 + b * 4096 + c * 256 + 1 := by simp [pk, e]
    have k := Lib.hid (pack_eq2 a b c h1 h2 h3 h4 h5 h6)
    rw [e, ev]; clear e ev
    go_enter Try.func8, Try.ntmps8
    go_wp2
    go_ret2
    rw [← k.out]
    exact ⟨rfl, rfl⟩
end Wd
end Go.Proofs.Ytldfgjbbdpfdnaa
