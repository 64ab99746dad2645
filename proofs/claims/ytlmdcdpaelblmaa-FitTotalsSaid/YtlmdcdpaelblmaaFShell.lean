/- An array of five integers, as the form reads it: opened and shut. -/
import Derived.Test.YtlmdcdpaelblmaaRows
import Derived.WalkKit
import Derived.ProofKit
import Derived.OpenShut
namespace Go.Proofs.Ytlmdcdpaelblmaa
open Go.ChangeShapes Go.WideShapes Go.ChangeAt Go.RowKit
namespace Wd
theorem cellsI : Try.prog.cellsOf 3 = 1 := by kernel_rfl
theorem cellsA : Try.prog.cellsOf 22 = 5 := by kernel_rfl
theorem list5 {α : Type} (l : List α) (h : (⟨l⟩ : Array α).size = 5) : ∃ a b c d e, l = [a, b, c, d, e] := by
  match l, h with
  | [a, b, c, d, e], _ => exact ⟨a, b, c, d, e, rfl⟩
theorem list5' {α : Type} (l : List α) (h : l.length = 5) : ∃ a b c d e, l = [a, b, c, d, e] := by
  match l, h with
  | [a, b, c, d, e], _ => exact ⟨a, b, c, d, e, rfl⟩
theorem open5 {H : Type} {enc : TypeId × Value → H} {W : World} {base b' : Nat} {sp : Nat → Bool} {held : Bool} {v : Value} {d : DataW H} {p : List MemPlace}
    (hv : Value.okWide Try.prog W .any base 22 v) (h : DataW.Trod enc Try.prog W b' sp held 22 v d p) :
    ∃ x0 x1 x2 x3 x4 : Int, v = .agg #[.int .i64 x0, .int .i64 x1, .int .i64 x2, .int .i64 x3, .int .i64 x4] ∧ d = .agg [.lit (.int .i64 x0), .lit (.int .i64 x1), .lit (.int .i64 x2), .lit (.int .i64 x3), .lit (.int .i64 x4)] ∧ p = [] ∧
      (Lit.int .i64 x0).wf = true ∧ (Lit.int .i64 x1).wf = true ∧ (Lit.int .i64 x2).wf = true ∧ (Lit.int .i64 x3).wf = true ∧ (Lit.int .i64 x4).wf = true := by
  obtain ⟨cs, rfl, hsz, _⟩ : ∃ cs, v = .agg cs ∧ cs.size = Try.prog.cellsOf 22 ∧ Row.okWide Try.prog W .any base 22 cs := by
    simpa [Value.okWide, Try.underlying22] using hv
  rw [cellsA] at hsz
  obtain ⟨l⟩ := cs
  obtain ⟨c0, c1, c2, c3, c4, rfl⟩ := list5 l hsz
  obtain ⟨fuel, hf⟩ := h
  obtain ⟨xs, m, _, hx, _, hl, hg⟩ := DataW.trod_array Try.underlying22 hf
  obtain ⟨y0, y1, y2, y3, y4, rfl⟩ := list5' xs hl
  have g0 := hg 0 (by omega)
  have g1 := hg 1 (by omega)
  have g2 := hg 2 (by omega)
  have g3 := hg 3 (by omega)
  have g4 := hg 4 (by omega)
  rw [cellsI] at g0 g1 g2 g3 g4
  obtain ⟨x0, e0, rfl, w0⟩ := DataW.trod_int Try.underlying3 g0
  obtain ⟨x1, e1, rfl, w1⟩ := DataW.trod_int Try.underlying3 g1
  obtain ⟨x2, e2, rfl, w2⟩ := DataW.trod_int Try.underlying3 g2
  obtain ⟨x3, e3, rfl, w3⟩ := DataW.trod_int Try.underlying3 g3
  obtain ⟨x4, e4, rfl, w4⟩ := DataW.trod_int Try.underlying3 g4
  simp [Value.cells] at e0 e1 e2 e3 e4
  subst e0 e1 e2 e3 e4
  simp only [Prod.mk.injEq] at hx
  obtain ⟨rfl, rfl⟩ := hx
  exact ⟨x0, x1, x2, x3, x4, rfl, rfl, rfl, w0, w1, w2, w3, w4⟩
theorem shut5 {H : Type} {enc : TypeId × Value → H} {W : World} {b' : Nat} {sp : Nat → Bool} {held : Bool} {x0 x1 x2 x3 x4 : Int}
    (w0 : (Lit.int .i64 x0).wf = true) (w1 : (Lit.int .i64 x1).wf = true) (w2 : (Lit.int .i64 x2).wf = true) (w3 : (Lit.int .i64 x3).wf = true) (w4 : (Lit.int .i64 x4).wf = true) :
    DataW.Trod enc Try.prog W b' sp held 22 (.agg #[.int .i64 x0, .int .i64 x1, .int .i64 x2, .int .i64 x3, .int .i64 x4]) (.agg [.lit (.int .i64 x0), .lit (.int .i64 x1), .lit (.int .i64 x2), .lit (.int .i64 x3), .lit (.int .i64 x4)]) [] :=
  ⟨2, by simp [DataW.trod, Value.cells, Try.underlying22, Try.underlying3, cellsA, cellsI, w0, w1, w2, w3, w4, show List.range 5 = [0, 1, 2, 3, 4] from rfl]⟩
end Wd
end Go.Proofs.Ytlmdcdpaelblmaa
