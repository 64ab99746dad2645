/- A slice of integers that came in, as the form reads it: opened. -/
import Derived.Test.YtgbhhejoglpboaaPNum
import Derived.SizedLaws
import Derived.ProofKit
import Derived.OpenShut
import Derived.Carry
namespace Go.Proofs.Ytgbhhejoglpboaa
open Go.ChangeShapes Go.WideShapes Go.ChangeAt Go.RowKit
set_option linter.unusedVariables false
namespace Wd
theorem laidOut : laidOutB Try.prog = true := by kernel_rfl
theorem cellsI : Try.prog.cellsOf 3 = 1 := by kernel_rfl
theorem nums_of {H : Type} {enc : TypeId × Value → H} {W : World} {base : Nat} {v : Value} {d : DataW H} {p : List MemPlace}
    (hv : Value.okWide Try.prog W .any base 22 v) (h : DataW.Trod enc Try.prog W 0 (fun _ => true) true 22 v d p) (hlt : ∀ x ∈ p, x.block < W.heap.size) :
    ∃ ad len cap, v = .slice ad len cap ∧ Nums W ad len ∧ len ≤ maxLen := by
  obtain ⟨a0, len, cap, rfl⟩ := okWide_slice Try.underlying22 hv
  obtain ⟨fuel, hf⟩ := h
  rcases open_ints Try.underlying22 Try.underlying3 cellsI hf with ⟨hcs, hx⟩ | ⟨a, len', cap', zs, hcs, _, hl, hm, hz, hx, hcell, hwz⟩
  · simp [Value.cells] at hcs
    obtain ⟨rfl, rfl, rfl⟩ := hcs
    exact ⟨none, 0, 0, rfl, fun _ _ k hk => absurd hk (by omega), by simp [maxLen]⟩
  · simp [Value.cells] at hcs
    obtain ⟨rfl, rfl, rfl⟩ := hcs
    simp only [Prod.mk.injEq] at hx
    obtain ⟨rfl, rfl⟩ := hx
    simp only [if_true] at hz
    refine ⟨some a, len, cap, rfl, fun wr hb k hk => ?_, by omega⟩
    obtain ⟨b, off, spot⟩ := a
    have hspot : spot = none := by simpa [Addr.add] using World.cell?_spot (hcell 0 (by omega))
    subst hspot
    have hk' : k < zs.length := by omega
    have hmem : zs.getD k 0 ∈ zs := by rw [show zs.getD k 0 = zs[k] by simp [List.getD, hk']]; exact List.getElem_mem hk'
    refine ⟨b, off, zs.getD k 0, rfl, bounds_i64 (hwz _ hmem), ?_⟩
    have hc := hcell k hk'
    rw [Addr.add_lit] at hc
    exact cell_up hb hc
theorem numz_of {H : Type} {enc : TypeId × Value → H} {W : World} {base : Nat} {v : Value} {d : DataW H} {p : List MemPlace}
    (hv : Value.okWide Try.prog W .any base 22 v) (h : DataW.Trod enc Try.prog W 0 (fun _ => true) true 22 v d p) :
    ∃ ad len cap, v = .slice ad len cap ∧ Nums W ad len ∧ ((d = .nil ∧ len = 0) ∨ ∃ elems spare, d = .slice elems spare ∧ len ≤ elems.length) := by
  obtain ⟨a0, len, cap, rfl⟩ := okWide_slice Try.underlying22 hv
  obtain ⟨fuel, hf⟩ := h
  rcases open_ints Try.underlying22 Try.underlying3 cellsI hf with ⟨hcs, hx⟩ | ⟨a, len', cap', zs, hcs, _, hl, hm, hz, hx, hcell, hwz⟩
  · simp [Value.cells] at hcs
    obtain ⟨rfl, rfl, rfl⟩ := hcs
    simp only [Prod.mk.injEq] at hx
    exact ⟨none, 0, 0, rfl, fun _ _ k hk => absurd hk (by omega), Or.inl ⟨hx.1, rfl⟩⟩
  · simp [Value.cells] at hcs
    obtain ⟨rfl, rfl, rfl⟩ := hcs
    simp only [Prod.mk.injEq] at hx
    obtain ⟨rfl, rfl⟩ := hx
    simp only [if_true] at hz
    refine ⟨some a, len, cap, rfl, fun wr hb k hk => ?_, Or.inr ⟨_, _, rfl, by unfold lits; simp; omega⟩⟩
    obtain ⟨b, off, spot⟩ := a
    have hspot : spot = none := by simpa [Addr.add] using World.cell?_spot (hcell 0 (by omega))
    subst hspot
    have hk' : k < zs.length := by omega
    have hmem : zs.getD k 0 ∈ zs := by rw [show zs.getD k 0 = zs[k] by simp [List.getD, hk']]; exact List.getElem_mem hk'
    refine ⟨b, off, zs.getD k 0, rfl, bounds_i64 (hwz _ hmem), ?_⟩
    have hc := hcell k hk'
    rw [Addr.add_lit] at hc
    exact cell_up hb hc
theorem bytesI : Try.prog.bytesOf 3 = 8 := by kernel_rfl
end Wd
end Go.Proofs.Ytgbhhejoglpboaa
