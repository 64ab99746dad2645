/- What came in, as the form reads it, opened: a slice of texts; a slice of bytes. -/
import Derived.Test.YtbefmkkmkjogcaaITells
import Derived.SizedLaws
import Derived.ProofKit
import Derived.OpenShut
import Derived.Carry
import Derived.ChangeMaps5
namespace Go.Proofs.Ytbefmkkmkjogcaa
open Go.ChangeShapes Go.WideShapes Go.ChangeAt Go.RowKit
set_option linter.unusedVariables false
set_option maxRecDepth 100000
namespace Wd
theorem laidOut : laidOutB Try.prog = true := by kernel_rfl
theorem cellsS9 : Try.prog.cellsOf 9 = 1 := by kernel_rfl
theorem cellsU9 : Try.prog.cellsOf 5 = 1 := by kernel_rfl
/-- a list of what there is -/
theorem list_all {α : Type} {Q : Nat → α → Prop} : ∀ n : Nat, (∀ k, k < n → ∃ x, Q k x) → ∃ L : List α, L.length = n ∧ ∀ k x, L[k]? = some x → Q k x
  | 0, _ => ⟨[], rfl, fun k x h => by simp at h⟩
  | n + 1, h => by
    obtain ⟨L, h1, h2⟩ := list_all n (fun k hk => h k (by omega))
    obtain ⟨x, hx⟩ := h n (by omega)
    refine ⟨L ++ [x], by simp [h1], fun k y hk => ?_⟩
    by_cases e : k < L.length
    · rw [List.getElem?_append_left e] at hk; exact h2 k y hk
    · rw [List.getElem?_append_right (by omega)] at hk
      have : k - L.length = 0 := by
        have := (List.getElem?_eq_some_iff.1 hk).1
        simp at this; omega
      rw [this] at hk
      cases hk
      obtain rfl : k = n := by omega
      exact hx
variable {H : Type} {enc : TypeId × Value → H} {W : World}
theorem strs_raw {n : Nat} {c : Value} {y : DataW H × List MemPlace} (h : DataW.trod enc Try.prog W 0 (fun _ => true) true n 23 [c] = some y) : ∃ ad len cap, c = .slice ad len cap ∧ len ≤ maxLen ∧ ∃ S : Nat → ByteArray, StrV W ad len S := by
  rcases DataW.trod_slice Try.underlying23 h with ⟨hcs, hx⟩ | ⟨a, len, cap, elems, rest, m, _, hcs, hx, hb, hl, hm, hlen, hel, _, _⟩
  · simp at hcs
    exact ⟨none, 0, 0, hcs, by decide, fun _ => ⟨#[]⟩, fun k hk => absurd hk (by omega)⟩
  · simp at hcs
    have hsp : 0 < len → a.spot = none := fun h0 => by
      obtain ⟨z, hz⟩ : ∃ z, elems[0]? = some z := ⟨elems[0]'(by omega), by simp⟩
      have hk1 := hel 0 h0
      rw [hz, cellsS9, Option.bind_eq_some_iff] at hk1
      obtain ⟨cs, hc, ht⟩ := hk1
      obtain ⟨_, hcl, hcc⟩ := World.cells?_some hc
      obtain ⟨x, e0, _, w0⟩ := DataW.trod_string Try.underlying9 ht
      subst e0
      have hs := World.cell?_spot ((hcc 0 (by omega)).trans (show [Value.string x][0]? = some (.string x) from rfl))
      simpa [Addr.add] using hs
    obtain ⟨B, hB1, hB2⟩ := list_all (Q := fun k (x : ByteArray) => ∃ g off, (some a) = some ⟨g, off, none⟩ ∧ W.cell? ⟨g, off + k, none⟩ = some (.string x)) len (fun k hk => by
      obtain ⟨z, hz⟩ : ∃ z, elems[k]? = some z := ⟨elems[k]'(by omega), by simp⟩
      have hk1 := hel k hk
      rw [hz, cellsS9, Option.bind_eq_some_iff] at hk1
      obtain ⟨cs, hc, ht⟩ := hk1
      obtain ⟨_, hcl, hcc⟩ := World.cells?_some hc
      obtain ⟨x, e0, _, w0⟩ := DataW.trod_string Try.underlying9 ht
      subst e0
      have h0 := hcc 0 (by omega)
      obtain ⟨b, off, spot⟩ := a
      have hspot : spot = none := hsp (by omega)
      subst hspot
      simp only [Addr.add_lit, Nat.add_zero, Nat.mul_one] at h0
      exact ⟨x, b, off, rfl, h0⟩)
    refine ⟨some a, len, cap, hcs, by omega, fun k => B.getD k ⟨#[]⟩, fun k hk => ?_⟩
    have hx : B[k]? = some (B[k]'(by omega)) := by simp
    obtain ⟨g, off, e, hc⟩ := hB2 k _ hx
    refine ⟨g, off, e, ?_⟩
    rw [hc]
    simp [List.getD, hx]
theorem bytes_raw {n : Nat} {c : Value} {y : DataW H × List MemPlace} (h : DataW.trod enc Try.prog W 0 (fun _ => true) true n 22 [c] = some y) : ∃ ad len cap, c = .slice ad len cap ∧ ∃ L, BytV W ad len L := by
  rcases DataW.trod_slice Try.underlying22 h with ⟨hcs, hx⟩ | ⟨a, len, cap, elems, rest, m, _, hcs, hx, hb, hl, hm, hlen, hel, _, _⟩
  · simp at hcs
    exact ⟨none, 0, 0, hcs, [], rfl, fun k x hk => by simp at hk⟩
  · simp at hcs
    have hsp : 0 < len → a.spot = none := fun h0 => by
      obtain ⟨z, hz⟩ : ∃ z, elems[0]? = some z := ⟨elems[0]'(by omega), by simp⟩
      have hk1 := hel 0 h0
      rw [hz, cellsU9, Option.bind_eq_some_iff] at hk1
      obtain ⟨cs, hc, ht⟩ := hk1
      obtain ⟨_, hcl, hcc⟩ := World.cells?_some hc
      obtain ⟨x, e0, _, w0⟩ := DataW.trod_int Try.underlying5 ht
      subst e0
      have hs := World.cell?_spot ((hcc 0 (by omega)).trans (show [Value.int IntKind.u8 x][0]? = some (.int .u8 x) from rfl))
      simpa [Addr.add] using hs
    obtain ⟨B, hB1, hB2⟩ := list_all (Q := fun k (x : UInt8) => ∃ g off, (some a) = some ⟨g, off, none⟩ ∧ W.cell? ⟨g, off + k, none⟩ = some (.int .u8 (x.toNat : Int))) len (fun k hk => by
      obtain ⟨z, hz⟩ : ∃ z, elems[k]? = some z := ⟨elems[k]'(by omega), by simp⟩
      have hk1 := hel k hk
      rw [hz, cellsU9, Option.bind_eq_some_iff] at hk1
      obtain ⟨cs, hc, ht⟩ := hk1
      obtain ⟨_, hcl, hcc⟩ := World.cells?_some hc
      obtain ⟨x, e0, _, w0⟩ := DataW.trod_int Try.underlying5 ht
      subst e0
      obtain ⟨x0, x1⟩ := bounds_u8 w0
      have h0 := hcc 0 (by omega)
      obtain ⟨b, off, spot⟩ := a
      have hspot : spot = none := hsp (by omega)
      subst hspot
      simp only [Addr.add_lit, Nat.add_zero, Nat.mul_one] at h0
      have hx : ((UInt8.ofNat x.toNat).toNat : Int) = x := by simp; omega
      exact ⟨UInt8.ofNat x.toNat, b, off, rfl, by rw [hx]; exact h0⟩)
    exact ⟨some a, len, cap, hcs, B, hB1.symm, hB2⟩
theorem strs_of {base : Nat} {v : Value} {d : DataW H} {p : List MemPlace} (hv : Value.okWide Try.prog W .any base 23 v) (h : DataW.Trod enc Try.prog W 0 (fun _ => true) true 23 v d p) : ∃ ad len cap, v = .slice ad len cap ∧ len ≤ 9223372036854775807 ∧ ∃ S : Nat → ByteArray, StrV W ad len S := by
  obtain ⟨a0, len, cap, rfl⟩ := okWide_slice Try.underlying23 hv
  obtain ⟨fuel, hf⟩ := h
  obtain ⟨ad, len', cap', e, hl, S, hS⟩ := strs_raw (c := .slice a0 len cap) (by simpa [Value.cells] using hf)
  have : maxLen ≤ 9223372036854775807 := by decide
  exact ⟨ad, len', cap', e, by omega, S, hS⟩
theorem bytes_of {base : Nat} {v : Value} {d : DataW H} {p : List MemPlace} (hv : Value.okWide Try.prog W .any base 22 v) (h : DataW.Trod enc Try.prog W 0 (fun _ => true) true 22 v d p) : ∃ ad len cap, v = .slice ad len cap ∧ ∃ L, BytV W ad len L := by
  obtain ⟨a0, len, cap, rfl⟩ := okWide_slice Try.underlying22 hv
  obtain ⟨fuel, hf⟩ := h
  exact bytes_raw (c := .slice a0 len cap) (by simpa [Value.cells] using hf)
end Wd
end Go.Proofs.Ytbefmkkmkjogcaa
