/- Plain facts on heads, chapter 2: no program is named here. -/
import Derived.Laws.BitsAllLaws
import Derived.Laws.BitsLemmas
import Derived.RowKit
namespace Go.Proofs.Ytldfgjbbdpfdnaa
open Go.RowKit
namespace Wd

/-- do the parts go into their bits -/
def hok (a b c : Int) : Bool := decide (0 ≤ a) && decide (a ≤ 4095) && decide (0 ≤ b) && decide (b ≤ 255) && decide (0 ≤ c) && decide (c ≤ 15)
/-- the word of a head -/
def pk (a b c : Int) : Int := if hok a b c then a * 1048576 + b * 4096 + c * 256 + 1 else 0
/-- is it a head -/
def isH (w : Int) : Bool := w % 256 == 1
def hc (w : Int) : Int := w / 1048576
def hs (w : Int) : Int := w / 4096 % 256
def hk (w : Int) : Int := w / 256 % 16
def oc (w : Int) : Int := if isH w then hc w else 0
def os (w : Int) : Int := if isH w then hs w else 0
def ok (w : Int) : Int := if isH w then hk w else 0

theorem or_add (x y : Int) (i : Nat) (hx : 0 ≤ x) (hx' : x ≤ 4294967295) (hy : 0 ≤ y) (hy' : y < 2 ^ i) (hd : x % 2 ^ i = 0) (hy2 : y ≤ 4294967295) : bits .or .u32 x y = x + y := by
  rw [u32_or x y hx (by omega) hy (by omega)]
  obtain ⟨k, hk⟩ : ∃ k : Nat, x = 2 ^ i * k := by
    refine ⟨(x / 2 ^ i).toNat, ?_⟩
    have h1 := Int.mul_ediv_add_emod x (2 ^ i)
    have h2 : 0 ≤ x / 2 ^ i := Int.ediv_nonneg hx (Int.pow_nonneg (by omega))
    rw [Int.toNat_of_nonneg h2]; omega
  have hxn : x.toNat = 2 ^ i * k := by
    have : ((2 : Int) ^ i * k) = ((2 ^ i * k : Nat) : Int) := by simp
    rw [hk, this]; omega
  have hyn : y.toNat < 2 ^ i := by
    have : ((2 ^ i : Nat) : Int) = (2 : Int) ^ i := by simp
    omega
  have := Nat.two_pow_add_eq_or_of_lt hyn k
  rw [hxn, ← this, ← hxn]; omega
theorem and_mod (x : Int) (i : Nat) (m : Int) (hm : m = 2 ^ i - 1) (hx : 0 ≤ x) (hx' : x ≤ 4294967295) (hm' : m ≤ 4294967295) : bits .and .u32 x m = x % 2 ^ i := by
  have hp : ((2 ^ i : Nat) : Int) = (2 : Int) ^ i := by simp
  have h1 : 1 ≤ 2 ^ i := Nat.one_le_two_pow
  rw [u32_and x m hx (by omega) (by omega) (by omega)]
  have : m.toNat = 2 ^ i - 1 := by omega
  rw [this, Nat.and_two_pow_sub_one_eq_mod, ← hp]
  have e : ((x.toNat : Nat) : Int) = x := Int.toNat_of_nonneg hx
  rw [Int.natCast_emod, e]
theorem bits_bd (op : BinOp) (a b : Int) : 0 ≤ bits op .u32 a b ∧ bits op .u32 a b ≤ 4294967295 := by
  unfold bits
  have := IntKind.wrap_u32' 
  split <;> simp only [IntKind.wrap_u32'] <;> omega
theorem and255 (x : Int) (hx : 0 ≤ x) (hx' : x ≤ 4294967295) : bits .and .u32 x 255 = x % 256 := and_mod x 8 255 rfl hx hx' (by omega)
theorem and15 (x : Int) (hx : 0 ≤ x) (hx' : x ≤ 4294967295) : bits .and .u32 x 15 = x % 16 := and_mod x 4 15 rfl hx hx' (by omega)
theorem and4095 (x : Int) (hx : 0 ≤ x) (hx' : x ≤ 4294967295) : bits .and .u32 x 4095 = x % 4096 := and_mod x 12 4095 rfl hx hx' (by omega)
theorem hok_iff (a b c : Int) : hok a b c = true ↔ (0 ≤ a ∧ a ≤ 4095) ∧ (0 ≤ b ∧ b ≤ 255) ∧ (0 ≤ c ∧ c ≤ 15) := by simp [hok]; omega
theorem pk_bd (a b c : Int) : 0 ≤ pk a b c ∧ pk a b c ≤ 4294967295 := by
  unfold pk; split
  · rename_i h; rw [hok_iff] at h; omega
  · omega
/-- what Pack makes of shifts -/
theorem pack_eq (a b c : Int) (ha : 0 ≤ a) (ha' : a ≤ 4095) (hb : 0 ≤ b) (hb' : b ≤ 255) (hc : 0 ≤ c) (hc' : c ≤ 15) :
    bits .or .u32 (bits .or .u32 (bits .or .u32 (a % 4294967296 * 1048576 % 4294967296) (b % 4294967296 * 4096 % 4294967296)) (c % 4294967296 * 256 % 4294967296)) 1 = a * 1048576 + b * 4096 + c * 256 + 1 := by
  rw [show a % 4294967296 * 1048576 % 4294967296 = a * 1048576 by omega, show b % 4294967296 * 4096 % 4294967296 = b * 4096 by omega, show c % 4294967296 * 256 % 4294967296 = c * 256 by omega]
  rw [or_add (a * 1048576) (b * 4096) 20 (by omega) (by omega) (by omega) (by omega) (by omega) (by omega)]
  rw [or_add (a * 1048576 + b * 4096) (c * 256) 12 (by omega) (by omega) (by omega) (by omega) (by omega) (by omega)]
  rw [or_add (a * 1048576 + b * 4096 + c * 256) 1 8 (by omega) (by omega) (by omega) (by omega) (by omega) (by omega)]
theorem pack_eq2 (a b c : Int) (ha : 0 ≤ a) (ha' : a ≤ 4095) (hb : 0 ≤ b) (hb' : b ≤ 255) (hc : 0 ≤ c) (hc' : c ≤ 15) :
    bits .or .u32 (bits .or .u32 (bits .or .u32 (a * 1048576) (b * 4096)) (c * 256)) 1 = a * 1048576 + b * 4096 + c * 256 + 1 := by
  have := pack_eq a b c ha ha' hb hb' hc hc'
  rwa [show a % 4294967296 * 1048576 % 4294967296 = a * 1048576 by omega, show b % 4294967296 * 4096 % 4294967296 = b * 4096 by omega, show c % 4294967296 * 256 % 4294967296 = c * 256 by omega] at this
theorem hok_cases (a b c : Int) : ((a < 0 ∨ 4095 < a ∨ b < 0 ∨ 255 < b ∨ c < 0 ∨ 15 < c) ∧ hok a b c = false) ∨ ((0 ≤ a ∧ a ≤ 4095 ∧ 0 ≤ b ∧ b ≤ 255 ∧ 0 ≤ c ∧ c ≤ 15) ∧ hok a b c = true) := by
  by_cases h : (0 ≤ a ∧ a ≤ 4095) ∧ (0 ≤ b ∧ b ≤ 255) ∧ (0 ≤ c ∧ c ≤ 15)
  · exact Or.inr ⟨by omega, (hok_iff a b c).2 h⟩
  · refine Or.inl ⟨by omega, ?_⟩
    cases e : hok a b c
    · rfl
    · exact absurd ((hok_iff a b c).1 e) h
theorem bits64_bd (op : BinOp) (a b : Int) : -9223372036854775808 ≤ bits op .i64 a b ∧ bits op .i64 a b ≤ 9223372036854775807 := by
  unfold bits
  split <;> simp only [IntKind.wrap_i64] <;> omega
theorem i64_and7 (n : Int) : bits .and .i64 n 7 = n % 8 := by
  have h127 : (BitVec.ofInt 64 7).toNat = 2 ^ 3 - 1 := by decide
  have key : (BitVec.ofInt 64 n &&& BitVec.ofInt 64 7).toNat = (n % ((2 ^ 64 : Nat) : Int)).toNat % 2 ^ 3 := by
    rw [BitVec.toNat_and, BitVec.toNat_ofInt, h127, Nat.and_two_pow_sub_one_eq_mod]
  show IntKind.i64.wrap ((BitVec.ofInt 64 n &&& BitVec.ofInt 64 7).toNat : Nat) = n % 8
  rw [key, IntKind.wrap_i64]
  omega
theorem i64_and15 (n : Int) : bits .and .i64 n 15 = n % 16 := by
  have h127 : (BitVec.ofInt 64 15).toNat = 2 ^ 4 - 1 := by decide
  have key : (BitVec.ofInt 64 n &&& BitVec.ofInt 64 15).toNat = (n % ((2 ^ 64 : Nat) : Int)).toNat % 2 ^ 4 := by
    rw [BitVec.toNat_and, BitVec.toNat_ofInt, h127, Nat.and_two_pow_sub_one_eq_mod]
  show IntKind.i64.wrap ((BitVec.ofInt 64 n &&& BitVec.ofInt 64 15).toNat : Nat) = n % 16
  rw [key, IntKind.wrap_i64]
  omega
theorem i64_and31 (n : Int) : bits .and .i64 n 31 = n % 32 := by
  have h127 : (BitVec.ofInt 64 31).toNat = 2 ^ 5 - 1 := by decide
  have key : (BitVec.ofInt 64 n &&& BitVec.ofInt 64 31).toNat = (n % ((2 ^ 64 : Nat) : Int)).toNat % 2 ^ 5 := by
    rw [BitVec.toNat_and, BitVec.toNat_ofInt, h127, Nat.and_two_pow_sub_one_eq_mod]
  show IntKind.i64.wrap ((BitVec.ofInt 64 n &&& BitVec.ofInt 64 31).toNat : Nat) = n % 32
  rw [key, IntKind.wrap_i64]
  omega
theorem i64_and255 (n : Int) : bits .and .i64 n 255 = n % 256 := by
  have h127 : (BitVec.ofInt 64 255).toNat = 2 ^ 8 - 1 := by decide
  have key : (BitVec.ofInt 64 n &&& BitVec.ofInt 64 255).toNat = (n % ((2 ^ 64 : Nat) : Int)).toNat % 2 ^ 8 := by
    rw [BitVec.toNat_and, BitVec.toNat_ofInt, h127, Nat.and_two_pow_sub_one_eq_mod]
  show IntKind.i64.wrap ((BitVec.ofInt 64 n &&& BitVec.ofInt 64 255).toNat : Nat) = n % 256
  rw [key, IntKind.wrap_i64]
  omega
theorem i64_and511 (n : Int) : bits .and .i64 n 511 = n % 512 := by
  have h127 : (BitVec.ofInt 64 511).toNat = 2 ^ 9 - 1 := by decide
  have key : (BitVec.ofInt 64 n &&& BitVec.ofInt 64 511).toNat = (n % ((2 ^ 64 : Nat) : Int)).toNat % 2 ^ 9 := by
    rw [BitVec.toNat_and, BitVec.toNat_ofInt, h127, Nat.and_two_pow_sub_one_eq_mod]
  show IntKind.i64.wrap ((BitVec.ofInt 64 n &&& BitVec.ofInt 64 511).toNat : Nat) = n % 512
  rw [key, IntKind.wrap_i64]
  omega
theorem i64_and4095 (n : Int) : bits .and .i64 n 4095 = n % 4096 := by
  have h127 : (BitVec.ofInt 64 4095).toNat = 2 ^ 12 - 1 := by decide
  have key : (BitVec.ofInt 64 n &&& BitVec.ofInt 64 4095).toNat = (n % ((2 ^ 64 : Nat) : Int)).toNat % 2 ^ 12 := by
    rw [BitVec.toNat_and, BitVec.toNat_ofInt, h127, Nat.and_two_pow_sub_one_eq_mod]
  show IntKind.i64.wrap ((BitVec.ofInt 64 n &&& BitVec.ofInt 64 4095).toNat : Nat) = n % 4096
  rw [key, IntKind.wrap_i64]
  omega
theorem i64_and8191 (n : Int) : bits .and .i64 n 8191 = n % 8192 := by
  have h127 : (BitVec.ofInt 64 8191).toNat = 2 ^ 13 - 1 := by decide
  have key : (BitVec.ofInt 64 n &&& BitVec.ofInt 64 8191).toNat = (n % ((2 ^ 64 : Nat) : Int)).toNat % 2 ^ 13 := by
    rw [BitVec.toNat_and, BitVec.toNat_ofInt, h127, Nat.and_two_pow_sub_one_eq_mod]
  show IntKind.i64.wrap ((BitVec.ofInt 64 n &&& BitVec.ofInt 64 8191).toNat : Nat) = n % 8192
  rw [key, IntKind.wrap_i64]
  omega
theorem wrap_fit (n m : Int) (h1 : -9223372036854775808 ≤ n) (h2 : n ≤ 9223372036854775807) (hm : 1 ≤ m) (hm' : m ≤ 4294967296) : (n % 18446744073709551616 / m = 0) ↔ (0 ≤ n ∧ n < m) := by
  rw [Int.ediv_eq_iff_of_pos (by omega)]
  omega
/-- what is packed is opened -/
theorem pk_open (a b c : Int) (h : hok a b c = true) : isH (pk a b c) = true ∧ hc (pk a b c) = a ∧ hs (pk a b c) = b ∧ hk (pk a b c) = c := by
  have h' := (hok_iff a b c).1 h
  simp only [pk, h, if_true, isH, hc, hs, hk, beq_iff_eq]
  refine ⟨?_, ?_, ?_, ?_⟩ <;> omega
/-- what is opened is packed -/
theorem open_pk (w : Int) (h0 : 0 ≤ w) (h1 : w ≤ 4294967295) (h : isH w = true) : hok (hc w) (hs w) (hk w) = true ∧ pk (hc w) (hs w) (hk w) = w := by
  simp only [isH, beq_iff_eq] at h
  have e : hok (hc w) (hs w) (hk w) = true := by
    rw [hok_iff]; unfold hc hs hk; omega
  refine ⟨e, ?_⟩
  simp only [pk, e, if_true]; unfold hc hs hk; omega
/-- a word that one bit of the lowest eight is turned in -/
theorem xor_bit (w m : Int) (i : Nat) (hm : m = 2 ^ i) (hi : i < 8) (h0 : 0 ≤ w) (h1 : w ≤ 4294967295) (h : isH w = true) : isH (bits .xor .u32 w m) = false := by
  have hp : ((2 ^ i : Nat) : Int) = (2 : Int) ^ i := by simp
  have h2 : 2 ^ i < 2 ^ 8 := Nat.pow_lt_pow_right (by omega) hi
  have h3 : 0 < 2 ^ i := Nat.two_pow_pos i
  rw [u32_xor w m h0 (by omega) (by omega) (by omega)]
  simp only [isH, beq_iff_eq] at h
  simp only [isH, beq_eq_false_iff_ne, ne_eq]
  have e : m.toNat = 2 ^ i := by omega
  intro hh
  have e2 : (w.toNat ^^^ 2 ^ i) % 2 ^ 8 = 1 := by rw [e] at hh; omega
  have e3 : w.toNat % 2 ^ 8 = 1 := by omega
  have e4 : ((w.toNat ^^^ 2 ^ i) % 2 ^ 8).testBit i = (w.toNat % 2 ^ 8).testBit i := by rw [e2, e3]
  rw [Nat.testBit_mod_two_pow, Nat.testBit_mod_two_pow, Nat.testBit_xor, Nat.testBit_two_pow_self] at e4
  cases hb : w.toNat.testBit i <;> rw [hb] at e4 <;> simp [hi] at e4
end Wd
end Go.Proofs.Ytldfgjbbdpfdnaa
