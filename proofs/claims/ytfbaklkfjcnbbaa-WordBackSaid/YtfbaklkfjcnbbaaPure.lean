/- Plain facts on numbers, for the words of chapter 1: no program is named here. -/
import Derived.Laws.BitsAllLaws
import Derived.RowKit
namespace Go.Proofs.Ytfbaklkfjcnbbaa
open Go.RowKit
namespace Wd

/-- the number of a word that bears the mark -/
def nu (w : Int) : Int := if w < 2147483648 then w / 2 else w / 2 - 2147483648
/-- the mark -/
def isN (w : Int) : Bool := w % 2 == 1
/-- the word of a number -/
def wd (n : Int) : Int := (2 * n + 1) % 4294967296
def fits (n : Int) : Bool := decide (-1073741824 ≤ n) && decide (n ≤ 1073741823)
def iv (n : Int) : Int := if fits n then wd n else 0
def nv (w : Int) : Int := if isN w then nu w else 0
def isD (w : Int) : Bool := !(w % 2 == 1) && !(w == 0)
def dv (w : Int) : Int := if isD w then w / 2 else 0
def isO (n : Int) : Bool := decide (1 ≤ n) && decide (n ≤ 2147483647)
def ov (n : Int) : Int := if isO n then 2 * n else 0
def both (a b : Int) : Bool := isN a && isN b
def addok (a b : Int) : Bool := both a b && fits (nu a + nu b)
def addv (a b : Int) : Int := if both a b then iv (nu a + nu b) else 0
def subok (a b : Int) : Bool := both a b && fits (nu a - nu b)
def subv (a b : Int) : Int := if both a b then iv (nu a - nu b) else 0
def mulok (a b : Int) : Bool := both a b && fits (nu a * nu b)
def mulv (a b : Int) : Int := if both a b then iv (nu a * nu b) else 0
def divs (a b : Int) : Bool := both a b && !(nu b == 0)
/-- the quotient, rounded toward less -/
def fl (a b : Int) : Int := if !(a.tmod b == 0) && (decide (a.tmod b < 0) != decide (b < 0)) then a.tdiv b - 1 else a.tdiv b
def divok (a b : Int) : Bool := divs a b && fits (fl (nu a) (nu b))
def divv (a b : Int) : Int := if divs a b then iv (fl (nu a) (nu b)) else 0
def lessv (a b : Int) : Bool := both a b && decide (nu a < nu b)

theorem nu_eq (a : Int) (h0 : 0 ≤ a) (h1 : a ≤ 4294967295) : wrap32 a / 2 = nu a := by
  unfold nu wrap32; split <;> omega
theorem nu_bd (a : Int) (h0 : 0 ≤ a) (h1 : a ≤ 4294967295) : -1073741824 ≤ nu a ∧ nu a ≤ 1073741823 := by
  unfold nu; split <;> omega
theorem wd_bd (n : Int) : 0 ≤ wd n ∧ wd n ≤ 4294967295 := by unfold wd; omega
theorem iv_bd (n : Int) : 0 ≤ iv n ∧ iv n ≤ 4294967295 := by
  have := wd_bd n; unfold iv; split <;> omega
theorem ov_bd (n : Int) : 0 ≤ ov n ∧ ov n ≤ 4294967295 := by
  unfold ov; split
  · rename_i h; simp [isO] at h; omega
  · omega

theorem and1 (a : Int) (h0 : 0 ≤ a) (h1 : a ≤ 4294967295) : bits .and .u32 a 1 = a % 2 := by
  rw [u32_and a 1 h0 (by omega) (by decide) (by decide)]
  rw [show (1 : Int).toNat = 1 from rfl, Nat.and_one_is_mod]
  omega
theorem or1 (a : Int) (h0 : 0 ≤ a) (h1 : a ≤ 4294967295) (h2 : a % 2 = 0) : bits .or .u32 a 1 = a + 1 := by
  rw [u32_or a 1 h0 (by omega) (by decide) (by decide)]
  obtain ⟨k, hk⟩ : ∃ k : Nat, a.toNat = 2 * k := ⟨a.toNat / 2, by omega⟩
  have : a.toNat ||| (1 : Int).toNat = 2 * k + 1 := by
    rw [hk, show (1 : Int).toNat = 1 from rfl]
    have := Nat.two_pow_add_eq_or_of_lt (i := 1) (b := 1) (by decide) k
    simp at this
    omega
  rw [this]; omega
theorem or_shl (n : Int) : bits .or .u32 (n % 4294967296 * 2 % 4294967296) 1 = wd n := by
  rw [or1 _ (by omega) (by omega) (by omega)]; unfold wd; omega
theorem bits_bd (op : BinOp) (a b : Int) : 0 ≤ bits op .u32 a b ∧ bits op .u32 a b ≤ 4294967295 := by
  unfold bits
  have := IntKind.wrap_u32' 
  split <;> simp only [IntKind.wrap_u32'] <;> omega

theorem nu_wd (n : Int) (h : -1073741824 ≤ n) (h2 : n ≤ 1073741823) : nu (wd n) = n := by
  unfold nu wd; split <;> omega
theorem isN_wd (n : Int) : isN (wd n) = true := by
  simp only [isN, wd, beq_iff_eq]; omega
theorem fits_iff (n : Int) : fits n = true ↔ -1073741824 ≤ n ∧ n ≤ 1073741823 := by simp [fits]

/-- what Go's quotient and rest are: the sum, and the rest's bounds and sign -/
theorem quo_facts (a b : Int) (hb : b ≠ 0) : b * a.tdiv b + a.tmod b = a ∧ (a.tmod b).natAbs < b.natAbs ∧ (0 ≤ a → 0 ≤ a.tmod b) ∧ (a ≤ 0 → a.tmod b ≤ 0) := by
  refine ⟨Int.mul_tdiv_add_tmod a b, ?_, fun h => Int.tmod_nonneg b h, fun h => ?_⟩
  · have := Int.natAbs_tmod a b
    rw [this]; exact Nat.mod_lt _ (by omega)
  · have := Int.tmod_nonneg b (a := -a) (by omega)
    rw [Int.neg_tmod] at this; omega
theorem tdiv_bd (a b : Int) (m : Int) (h1 : -m ≤ a) (h2 : a ≤ m) : -m ≤ a.tdiv b ∧ a.tdiv b ≤ m := by
  have h : (a.tdiv b).natAbs ≤ a.natAbs := by rw [Int.natAbs_tdiv]; exact Nat.div_le_self _ _
  omega
/-- a product of two words' numbers goes into 64 bits -/
theorem mul_bd (a b : Int) (h1 : -1073741824 ≤ a) (h2 : a ≤ 1073741824) (h3 : -1073741824 ≤ b) (h4 : b ≤ 1073741824) : -1152921504606846976 ≤ a * b ∧ a * b ≤ 1152921504606846976 := by
  have h : (a * b).natAbs = a.natAbs * b.natAbs := Int.natAbs_mul a b
  have h5 : a.natAbs * b.natAbs ≤ 1073741824 * 1073741824 := Nat.mul_le_mul (by omega) (by omega)
  omega
theorem fl_spec (a b : Int) (hb : b ≠ 0) : (0 < b → 0 ≤ a - fl a b * b ∧ a - fl a b * b < b) ∧ (b < 0 → a - fl a b * b ≤ 0 ∧ b < a - fl a b * b) := by
  obtain ⟨h1, h2, h3, h4⟩ := quo_facts a b hb
  unfold fl
  generalize a.tdiv b = q at *
  generalize a.tmod b = r at *
  have e : b * q = q * b := Int.mul_comm b q
  split
  · rename_i h
    simp at h
    have e2 : (q - 1) * b = q * b - b := by rw [Int.sub_mul]; omega
    rw [e2]
    generalize q * b = p at *
    obtain ⟨h5, h6⟩ := h
    by_cases hr : r < 0 <;> by_cases hbb : b < 0 <;> simp [hr, hbb] at h6 <;> omega
  · rename_i h
    simp at h
    generalize q * b = p at *
    by_cases hr0 : r = 0
    · omega
    · have h6 := h hr0
      by_cases hr : r < 0 <;> by_cases hbb : b < 0 <;> simp [hr, hbb] at h6 <;> omega
/-- the same by the sign of what is divided, as the document's own answer has it -/
theorem fl_signs (a b : Int) (hb : b ≠ 0) : fl a b = if !(a.tmod b == 0) && (decide (a < 0) != decide (b < 0)) then a.tdiv b - 1 else a.tdiv b := by
  obtain ⟨h1, h2, h3, h4⟩ := quo_facts a b hb
  unfold fl
  generalize a.tdiv b = q at *
  generalize a.tmod b = r at *
  by_cases hr0 : r = 0
  · simp [hr0]
  · have : (decide (r < 0)) = decide (a < 0) := by
      by_cases ha : a < 0
      · have : r < 0 := by omega
        simp [ha, this]
      · have : ¬ r < 0 := by omega
        simp [ha, this]
    rw [this]
theorem fl_bd (a b : Int) (m : Int) (h1 : -m ≤ a) (h2 : a ≤ m) : -m - 1 ≤ fl a b ∧ fl a b ≤ m := by
  have := tdiv_bd a b m h1 h2
  unfold fl; split <;> omega
end Wd
end Go.Proofs.Ytfbaklkfjcnbbaa
