/- Plain facts on sums, differences and products of words that are made of numbers: no program is named here. -/
import Derived.Test.YtfbaklkfjcnbbaaPures
import Derived.WalkKit
namespace Go.Proofs.Ytfbaklkfjcnbbaa
open Go.RowKit
namespace Wd

/-- what a sum's word, and the two answers that go with it, come to: one of three cases -/
def Three (A J : Bool) (I n : Int) : Prop :=
  (A = true ∧ J = true ∧ I = n ∧ -1073741824 ≤ n ∧ n < 1073741824) ∨ (A = false ∧ n < -1073741824) ∨ (A = false ∧ -1073741824 ≤ n ∧ decide (n < 1073741824) = false)
theorem three_iv (n : Int) : Three (fits n) (isN (iv n)) (nv (iv n)) n := by
  rcases in_or_out n with ⟨a, b, c, d, e⟩ | ⟨a, _, c⟩ | ⟨a, _, c, d⟩
  · exact Or.inl ⟨a, b, c, d, e⟩
  · exact Or.inr (Or.inl ⟨a, c⟩)
  · exact Or.inr (Or.inr ⟨a, c, by simp; omega⟩)
theorem add_facts {x y : Int} (h : fits x = true) (k : fits y = true) : Three (addok (iv x) (iv y)) (isN (addv (iv x) (iv y))) (nv (addv (iv x) (iv y))) (x + y) := by
  rw [addok_iv h k, addv_iv h k]; exact three_iv _
theorem sub_facts {x y : Int} (h : fits x = true) (k : fits y = true) : Three (subok (iv x) (iv y)) (isN (subv (iv x) (iv y))) (nv (subv (iv x) (iv y))) (x - y) := by
  rw [subok_iv h k, subv_iv h k]; exact three_iv _
theorem mul_facts {x y : Int} (h : fits x = true) (k : fits y = true) : Three (mulok (iv x) (iv y)) (isN (mulv (iv x) (iv y))) (nv (mulv (iv x) (iv y))) (x * y) := by
  rw [mulok_iv h k, mulv_iv h k]; exact three_iv _
/-- for a split in the midst of a region: the operation that writes slot d -/
theorem at_op (d : Nat) {P : Program} {ops : Array Oper} {Q : Exit → Act → World → Prop} {rest : List Oper} {op : Op} {t : TypeId} {p : String} {af : Array Edge} {g : Option (Nat × Bool)} {a : Act} {w : World}
    (h : wpList P ops Q (⟨some d, op, t, p, af, g⟩ :: rest) a w) : wpList P ops Q (⟨some d, op, t, p, af, g⟩ :: rest) a w := h
end Wd
end Go.Proofs.Ytfbaklkfjcnbbaa
