/- What came in, as the form reads it, opened: a slice of asks. -/
import Derived.Test.YtpilbpofikdkmaaYPlays
import Derived.SizedLaws
import Derived.ProofKit
import Derived.OpenShut
import Derived.Carry
namespace Go.Proofs.Ytpilbpofikdkmaa
open Go.ChangeShapes Go.WideShapes Go.ChangeAt Go.RowKit
set_option linter.unusedVariables false
set_option maxRecDepth 100000
namespace Wd
theorem laidOut : laidOutB Try.prog = true := by kernel_rfl
theorem cellsI9 : Try.prog.cellsOf 3 = 1 := by kernel_rfl
theorem cellsA9 : Try.prog.cellsOf 24 = 4 := by kernel_rfl
theorem bytesAsk : Try.prog.bytesOf 24 = 32 := by kernel_rfl
theorem list4 {α : Type} (l : List α) (h : l.length = 4) : ∃ a b c d, l = [a, b, c, d] := by
  match l, h with
  | [a, b, c, d], _ => exact ⟨a, b, c, d, rfl⟩
variable {H : Type} {enc : TypeId × Value → H} {W : World}
theorem asks_raw {n : Nat} {c : Value} {y : DataW H × List MemPlace} (h : DataW.trod enc Try.prog W 0 (fun _ => true) true n 22 [c] = some y) : ∃ ad len cap, c = .slice ad len cap ∧ AskV W ad len := by
  rcases DataW.trod_slice Try.underlying22 h with ⟨hcs, hx⟩ | ⟨a, len, cap, elems, rest, m, _, hcs, hx, hb, hl, hm, hlen, hel, _, _⟩
  · simp at hcs
    exact ⟨none, 0, 0, hcs, fun k hk => absurd hk (by omega)⟩
  · simp at hcs
    have hsp : 0 < len → a.spot = none := fun h0 => by
      obtain ⟨z, hz⟩ : ∃ z, elems[0]? = some z := ⟨elems[0]'(by omega), by simp⟩
      have hk1 := hel 0 h0
      rw [hz, cellsA9, Option.bind_eq_some_iff] at hk1
      obtain ⟨cs, hc, ht⟩ := hk1
      obtain ⟨_, hcl, hcc⟩ := World.cells?_some hc
      obtain ⟨c0, c1, c2, c3, rfl⟩ := list4 cs hcl
      have hs := World.cell?_spot ((hcc 0 (by omega)).trans (show [c0, c1, c2, c3][0]? = some c0 from rfl))
      simpa [Addr.add] using hs
    refine ⟨some a, len, cap, hcs, fun k hk => ?_⟩
    obtain ⟨z, hz⟩ : ∃ z, elems[k]? = some z := ⟨elems[k]'(by omega), by simp⟩
    have hk1 := hel k hk
    rw [hz, cellsA9, Option.bind_eq_some_iff] at hk1
    obtain ⟨cs, hc, ht⟩ := hk1
    obtain ⟨_, hcl, hcc⟩ := World.cells?_some hc
    obtain ⟨xs, n', _, _, _, hxl, hg⟩ := DataW.trod_struct Try.underlying24 ht
    obtain ⟨y0, y1, y2, y3, rfl⟩ := list4 xs hxl
    obtain ⟨c0, c1, c2, c3, rfl⟩ := list4 cs hcl
    have g0 : DataW.trod enc Try.prog W 0 (fun _ => true) true n' 3 (([c0, c1, c2, c3].drop 0).take (Try.prog.cellsOf 3)) = some y0 := hg 0 _ rfl
    have g1 : DataW.trod enc Try.prog W 0 (fun _ => true) true n' 3 (([c0, c1, c2, c3].drop 1).take (Try.prog.cellsOf 3)) = some y1 := hg 1 _ rfl
    have g2 : DataW.trod enc Try.prog W 0 (fun _ => true) true n' 3 (([c0, c1, c2, c3].drop 2).take (Try.prog.cellsOf 3)) = some y2 := hg 2 _ rfl
    have g3 : DataW.trod enc Try.prog W 0 (fun _ => true) true n' 3 (([c0, c1, c2, c3].drop 3).take (Try.prog.cellsOf 3)) = some y3 := hg 3 _ rfl
    rw [cellsI9] at g0 g1 g2 g3
    obtain ⟨x, e0, _, w0⟩ := DataW.trod_int Try.underlying3 g0
    obtain ⟨q, e1, _, w1⟩ := DataW.trod_int Try.underlying3 g1
    obtain ⟨r, e2, _, w2⟩ := DataW.trod_int Try.underlying3 g2
    obtain ⟨s, e3, _, w3⟩ := DataW.trod_int Try.underlying3 g3
    simp at e0 e1 e2 e3
    subst e0 e1 e2 e3
    have h0 := hcc 0 (by omega)
    have h1 := hcc 1 (by omega)
    have h2 := hcc 2 (by omega)
    have h3 := hcc 3 (by omega)
    obtain ⟨b, off, spot⟩ := a
    have hspot : spot = none := hsp (by omega)
    subst hspot
    simp only [Addr.add_lit, Nat.add_zero] at h0 h1 h2 h3
    exact ⟨b, off, x, q, r, s, rfl, bounds_i64 w0, bounds_i64 w1, bounds_i64 w2, bounds_i64 w3, h0, h1, h2, h3⟩
theorem asks_of {base : Nat} {v : Value} {d : DataW H} {p : List MemPlace} (hv : Value.okWide Try.prog W .any base 22 v) (h : DataW.Trod enc Try.prog W 0 (fun _ => true) true 22 v d p) : ∃ ad len cap, v = .slice ad len cap ∧ AskV W ad len ∧ ((d = .nil ∧ len = 0) ∨ ∃ elems spare, d = .slice elems spare ∧ len ≤ elems.length) := by
  obtain ⟨a0, len, cap, rfl⟩ := okWide_slice Try.underlying22 hv
  obtain ⟨fuel, hf⟩ := h
  obtain ⟨ad, len', cap', e, hN⟩ := asks_raw (c := .slice a0 len cap) (by simpa [Value.cells] using hf)
  cases e
  refine ⟨_, _, _, rfl, hN, ?_⟩
  rcases DataW.trod_slice Try.underlying22 hf with ⟨hcs, hx⟩ | ⟨a, len', cap', elems, rest, n, _, hcs, hx, hb, hl, hm, hlen, hel, _, _⟩
  · simp [Value.cells] at hcs
    obtain ⟨rfl, rfl, rfl⟩ := hcs
    simp only [Prod.mk.injEq] at hx
    exact Or.inl ⟨hx.1, rfl⟩
  · simp [Value.cells] at hcs
    obtain ⟨rfl, rfl, rfl⟩ := hcs
    simp only [Prod.mk.injEq] at hx
    exact Or.inr ⟨_, _, hx.1, by simp; omega⟩
end Wd
end Go.Proofs.Ytpilbpofikdkmaa
