/- Plain facts on sizes, chapter 3: no program is named here. -/
import Derived.Laws.BitsAllLaws
import Derived.Laws.BitsLemmas
import Derived.RowKit
namespace Go.Proofs.Ytafogggfiopcgaa
open Go.RowKit
set_option linter.unusedVariables false
namespace Wd

/-- the words of a cell of that size -/
def wd (n : Int) : Int := if n = 0 then 4 else if n = 1 then 8 else if n = 2 then 16 else if n = 3 then 32 else if n = 4 then 64 else 0
/-- the least size that takes so many fields -/
def fo (n : Int) : Int := if n < 0 then -1 else if n ≤ 2 then 0 else if n ≤ 6 then 1 else if n ≤ 14 then 2 else if n ≤ 30 then 3 else if n ≤ 62 then 4 else -1
/-- the words that are left over -/
def wst (n : Int) : Int := if fo n < 0 then 0 else wd (fo n) - n - 2
/-- is the memory right, as an error's number -/
def rt (a b c d e p : Int) : Int :=
  if 0 ≤ a ∧ a ≤ 512 ∧ 0 ≤ b ∧ b ≤ 512 ∧ 0 ≤ c ∧ c ≤ 512 ∧ 0 ≤ d ∧ d ≤ 512 ∧ 0 ≤ e ∧ e ≤ 512 ∧ 1 ≤ a + b + c + d + e ∧ a + b + c + d + e ≤ 1020 then (if 1 ≤ p ∧ p ≤ 16 then 0 else 1) else 18
/-- all words of a memory -/
def tot (a b c d e p : Int) : Int := if rt a b c d e p = 0 then a * 4 + b * 8 + c * 16 + d * 32 + e * 64 else 0
theorem rt_cases (a b c d e p : Int) :
    (((a < 0 ∨ 512 < a) ∨ (0 ≤ a ∧ a ≤ 512 ∧ (b < 0 ∨ 512 < b)) ∨ (0 ≤ a ∧ a ≤ 512 ∧ 0 ≤ b ∧ b ≤ 512 ∧ (c < 0 ∨ 512 < c)) ∨ (0 ≤ a ∧ a ≤ 512 ∧ 0 ≤ b ∧ b ≤ 512 ∧ 0 ≤ c ∧ c ≤ 512 ∧ (d < 0 ∨ 512 < d))
      ∨ (0 ≤ a ∧ a ≤ 512 ∧ 0 ≤ b ∧ b ≤ 512 ∧ 0 ≤ c ∧ c ≤ 512 ∧ 0 ≤ d ∧ d ≤ 512 ∧ (e < 0 ∨ 512 < e))
      ∨ (0 ≤ a ∧ a ≤ 512 ∧ 0 ≤ b ∧ b ≤ 512 ∧ 0 ≤ c ∧ c ≤ 512 ∧ 0 ≤ d ∧ d ≤ 512 ∧ 0 ≤ e ∧ e ≤ 512 ∧ (a + b + c + d + e < 1 ∨ 1020 < a + b + c + d + e))) ∧ rt a b c d e p = 18)
    ∨ ((0 ≤ a ∧ a ≤ 512 ∧ 0 ≤ b ∧ b ≤ 512 ∧ 0 ≤ c ∧ c ≤ 512 ∧ 0 ≤ d ∧ d ≤ 512 ∧ 0 ≤ e ∧ e ≤ 512 ∧ 1 ≤ a + b + c + d + e ∧ a + b + c + d + e ≤ 1020) ∧
        (((p < 1 ∨ 16 < p) ∧ rt a b c d e p = 1) ∨ (1 ≤ p ∧ p ≤ 16 ∧ rt a b c d e p = 0))) := by
  unfold rt
  split
  · rename_i h
    refine Or.inr ⟨h, ?_⟩
    split <;> omega
  · exact Or.inl ⟨by omega, rfl⟩
theorem rt_zero (a b c d e p : Int) : rt a b c d e p = 0 ↔ (0 ≤ a ∧ a ≤ 512 ∧ 0 ≤ b ∧ b ≤ 512 ∧ 0 ≤ c ∧ c ≤ 512 ∧ 0 ≤ d ∧ d ≤ 512 ∧ 0 ≤ e ∧ e ≤ 512 ∧ 1 ≤ a + b + c + d + e ∧ a + b + c + d + e ≤ 1020) ∧ 1 ≤ p ∧ p ≤ 16 := by
  rcases rt_cases a b c d e p with ⟨h, e⟩ | ⟨h, ⟨h1, e⟩ | ⟨h1, h2, e⟩⟩ <;> rw [e] <;> omega
theorem fo_bd (n : Int) : -1 ≤ fo n ∧ fo n ≤ 4 := by unfold fo; repeat' split <;> omega
theorem wd_bd (n : Int) : 0 ≤ wd n ∧ wd n ≤ 64 := by unfold wd; repeat' split <;> omega
theorem wst_bd (n : Int) : -1 ≤ wst n ∧ wst n ≤ 64 := by
  unfold wst wd fo
  split
  · omega
  · repeat' split <;> omega
theorem fo_cases (n : Int) : ((n < 0 ∨ 62 < n) ∧ fo n = -1) ∨ (0 ≤ n ∧ n ≤ 2 ∧ fo n = 0) ∨ (3 ≤ n ∧ n ≤ 6 ∧ fo n = 1) ∨ (7 ≤ n ∧ n ≤ 14 ∧ fo n = 2) ∨ (15 ≤ n ∧ n ≤ 30 ∧ fo n = 3) ∨ (31 ≤ n ∧ n ≤ 62 ∧ fo n = 4) := by
  unfold fo; repeat' split <;> omega
theorem wd_cases (n : Int) : ((n < 0 ∨ 5 ≤ n) ∧ wd n = 0) ∨ (n = 0 ∧ wd n = 4) ∨ (n = 1 ∧ wd n = 8) ∨ (n = 2 ∧ wd n = 16) ∨ (n = 3 ∧ wd n = 32) ∨ (n = 4 ∧ wd n = 64) := by
  unfold wd; repeat' split <;> omega
theorem wst_cases (n : Int) : ((n < 0 ∨ 62 < n) ∧ fo n = -1 ∧ wst n = 0) ∨ (0 ≤ n ∧ n ≤ 62 ∧ 0 ≤ fo n ∧ fo n ≤ 4 ∧ wst n = wd (fo n) - n - 2 ∧ 0 ≤ wd (fo n) - n - 2 ∧ wd (fo n) ≤ 64) := by
  rcases fo_cases n with ⟨h, e⟩ | ⟨h0, h1, e⟩ | ⟨h0, h1, e⟩ | ⟨h0, h1, e⟩ | ⟨h0, h1, e⟩ | ⟨h0, h1, e⟩
  · exact Or.inl ⟨h, e, by unfold wst; rw [e]; rfl⟩
  all_goals
    refine Or.inr ?_
    have ew : wst n = wd (fo n) - n - 2 := by unfold wst; rw [if_neg (by omega)]
    rw [ew, e]
    refine ⟨by omega, by omega, by omega, by omega, rfl, ?_, ?_⟩ <;> simp [wd] <;> omega
theorem bits64_bd (op : BinOp) (a b : Int) : -9223372036854775808 ≤ bits op .i64 a b ∧ bits op .i64 a b ≤ 9223372036854775807 := by
  unfold bits
  split <;> simp only [IntKind.wrap_i64] <;> omega
theorem i64_and15 (n : Int) : bits .and .i64 n 15 = n % 16 := by
  have h127 : (BitVec.ofInt 64 15).toNat = 2 ^ 4 - 1 := by decide
  have key : (BitVec.ofInt 64 n &&& BitVec.ofInt 64 15).toNat = (n % ((2 ^ 64 : Nat) : Int)).toNat % 2 ^ 4 := by
    rw [BitVec.toNat_and, BitVec.toNat_ofInt, h127, Nat.and_two_pow_sub_one_eq_mod]
  show IntKind.i64.wrap ((BitVec.ofInt 64 n &&& BitVec.ofInt 64 15).toNat : Nat) = n % 16
  rw [key, IntKind.wrap_i64]
  omega
theorem i64_and31 (n : Int) : bits .and .i64 n 31 = n % 32 := by
  have h127 : (BitVec.ofInt 64 31).toNat = 2 ^ 5 - 1 := by decide
  have key : (BitVec.ofInt 64 n &&& BitVec.ofInt 64 31).toNat = (n % ((2 ^ 64 : Nat) : Int)).toNat % 2 ^ 5 := by
    rw [BitVec.toNat_and, BitVec.toNat_ofInt, h127, Nat.and_two_pow_sub_one_eq_mod]
  show IntKind.i64.wrap ((BitVec.ofInt 64 n &&& BitVec.ofInt 64 31).toNat : Nat) = n % 32
  rw [key, IntKind.wrap_i64]
  omega
theorem i64_and63 (n : Int) : bits .and .i64 n 63 = n % 64 := by
  have h127 : (BitVec.ofInt 64 63).toNat = 2 ^ 6 - 1 := by decide
  have key : (BitVec.ofInt 64 n &&& BitVec.ofInt 64 63).toNat = (n % ((2 ^ 64 : Nat) : Int)).toNat % 2 ^ 6 := by
    rw [BitVec.toNat_and, BitVec.toNat_ofInt, h127, Nat.and_two_pow_sub_one_eq_mod]
  show IntKind.i64.wrap ((BitVec.ofInt 64 n &&& BitVec.ofInt 64 63).toNat : Nat) = n % 64
  rw [key, IntKind.wrap_i64]
  omega
theorem i64_and127 (n : Int) : bits .and .i64 n 127 = n % 128 := by
  have h127 : (BitVec.ofInt 64 127).toNat = 2 ^ 7 - 1 := by decide
  have key : (BitVec.ofInt 64 n &&& BitVec.ofInt 64 127).toNat = (n % ((2 ^ 64 : Nat) : Int)).toNat % 2 ^ 7 := by
    rw [BitVec.toNat_and, BitVec.toNat_ofInt, h127, Nat.and_two_pow_sub_one_eq_mod]
  show IntKind.i64.wrap ((BitVec.ofInt 64 n &&& BitVec.ofInt 64 127).toNat : Nat) = n % 128
  rw [key, IntKind.wrap_i64]
  omega
theorem i64_and255 (n : Int) : bits .and .i64 n 255 = n % 256 := by
  have h127 : (BitVec.ofInt 64 255).toNat = 2 ^ 8 - 1 := by decide
  have key : (BitVec.ofInt 64 n &&& BitVec.ofInt 64 255).toNat = (n % ((2 ^ 64 : Nat) : Int)).toNat % 2 ^ 8 := by
    rw [BitVec.toNat_and, BitVec.toNat_ofInt, h127, Nat.and_two_pow_sub_one_eq_mod]
  show IntKind.i64.wrap ((BitVec.ofInt 64 n &&& BitVec.ofInt 64 255).toNat : Nat) = n % 256
  rw [key, IntKind.wrap_i64]
  omega
theorem i64_and511 (n : Int) : bits .and .i64 n 511 = n % 512 := by
  have h127 : (BitVec.ofInt 64 511).toNat = 2 ^ 9 - 1 := by decide
  have key : (BitVec.ofInt 64 n &&& BitVec.ofInt 64 511).toNat = (n % ((2 ^ 64 : Nat) : Int)).toNat % 2 ^ 9 := by
    rw [BitVec.toNat_and, BitVec.toNat_ofInt, h127, Nat.and_two_pow_sub_one_eq_mod]
  show IntKind.i64.wrap ((BitVec.ofInt 64 n &&& BitVec.ofInt 64 511).toNat : Nat) = n % 512
  rw [key, IntKind.wrap_i64]
  omega
end Wd
end Go.Proofs.Ytafogggfiopcgaa
