/- Keys against one another. -/
import Derived.Test.YtbefmkkmkjogcaaIRef
import Derived.Deep.DeepCutAuto
import Derived.DeepKeys
namespace Go.Proofs.Ytbefmkkmkjogcaa
open Go.RowKit
set_option linter.unusedVariables false
set_option maxRecDepth 20000
namespace Wd
theorem key_step (xs ys : Array Value) (k : Nat) (R : List Nat) (a b : Int) (w : World) (hx : xs[k]? = some (.int .u8 a)) (hy : ys[k]? = some (.int .u8 b)) :
    (Op.eqItems 9999 5 1 xs ys (k :: R)).run Try.prog w = if (a == b) = true then (Op.eqItems 9999 5 1 xs ys R).run Try.prog w else .ok false w := by
  have h8 : Try.prog.underlying 5 = some (.int .u8) := rfl
  have he : (Op.equalIn 9999 5 (.int .u8 a) (.int .u8 b)).run Try.prog w = .ok (a == b) w := run_equalIn_int w 9998 5 .u8 .u8 a b h8
  have px := run_part_plain (P := Try.prog) w (e := 5) rfl (off := k * 1) (by rw [Nat.mul_one]; exact hx)
  have py := run_part_plain (P := Try.prog) w (e := 5) rfl (off := k * 1) (by rw [Nat.mul_one]; exact hy)
  simp only [Op.eqItems, Sem.run_bind, px, py, he, Result.andThen_ok]
  cases (a == b) <;> simp
theorem key_eq (x0 x1 x2 x3 x4 x5 x6 x7 x8 x9 x10 x11 x12 x13 x14 x15 y0 y1 y2 y3 y4 y5 y6 y7 y8 y9 y10 y11 y12 y13 y14 y15 : Int) (w : World) : (Op.equalIn 10000 33 (.agg #[.int .u8 x0, .int .u8 x1, .int .u8 x2, .int .u8 x3, .int .u8 x4, .int .u8 x5, .int .u8 x6, .int .u8 x7, .int .u8 x8, .int .u8 x9, .int .u8 x10, .int .u8 x11, .int .u8 x12, .int .u8 x13, .int .u8 x14, .int .u8 x15]) (.agg #[.int .u8 y0, .int .u8 y1, .int .u8 y2, .int .u8 y3, .int .u8 y4, .int .u8 y5, .int .u8 y6, .int .u8 y7, .int .u8 y8, .int .u8 y9, .int .u8 y10, .int .u8 y11, .int .u8 y12, .int .u8 y13, .int .u8 y14, .int .u8 y15])).run Try.prog w = .ok ((x0 == y0) && ((x1 == y1) && ((x2 == y2) && ((x3 == y3) && ((x4 == y4) && ((x5 == y5) && ((x6 == y6) && ((x7 == y7) && ((x8 == y8) && ((x9 == y9) && ((x10 == y10) && ((x11 == y11) && ((x12 == y12) && ((x13 == y13) && ((x14 == y14) && ((x15 == y15))))))))))))))))) w := by
  have hu : Try.prog.underlying 33 = some (.array 16 5) := rfl
  obtain ⟨i, hi⟩ : ∃ i, Try.prog.info? 5 = some i := ⟨_, rfl⟩
  have hr : List.range 16 = [0, 1, 2, 3, 4, 5, 6, 7, 8, 9, 10, 11, 12, 13, 14, 15] := rfl
  have hc : Try.prog.cellsOf 5 = 1 := rfl
  have fin : ∀ (p q : Bool) (w : World), (if p = true then Result.ok q w else Result.ok false w) = Result.ok (p && q) w := fun p q w => by cases p <;> rfl
  have last : ∀ p : Bool, (p && true) = p := fun p => by cases p <;> rfl
  rw [show (10000 : Nat) = 9999 + 1 from rfl, run_equalIn_array w 9999 _ _ hu hi, hr, hc]
  rw [key_step _ _ 0 _ x0 y0 w rfl rfl, key_step _ _ 1 _ x1 y1 w rfl rfl, key_step _ _ 2 _ x2 y2 w rfl rfl, key_step _ _ 3 _ x3 y3 w rfl rfl, key_step _ _ 4 _ x4 y4 w rfl rfl, key_step _ _ 5 _ x5 y5 w rfl rfl, key_step _ _ 6 _ x6 y6 w rfl rfl, key_step _ _ 7 _ x7 y7 w rfl rfl, key_step _ _ 8 _ x8 y8 w rfl rfl, key_step _ _ 9 _ x9 y9 w rfl rfl, key_step _ _ 10 _ x10 y10 w rfl rfl, key_step _ _ 11 _ x11 y11 w rfl rfl, key_step _ _ 12 _ x12 y12 w rfl rfl, key_step _ _ 13 _ x13 y13 w rfl rfl, key_step _ _ 14 _ x14 y14 w rfl rfl, key_step _ _ 15 _ x15 y15 w rfl rfl]
  simp only [Op.eqItems, Sem.run_pure, fin, last]
end Wd
end Go.Proofs.Ytbefmkkmkjogcaa
