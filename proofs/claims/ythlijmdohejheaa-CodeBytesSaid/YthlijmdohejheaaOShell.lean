/- What came in, as the form reads it, opened: integers, instructions, a method. -/
import Derived.Test.YthlijmdohejheaaOTape
import Derived.SizedLaws
import Derived.ProofKit
import Derived.OpenShut
import Derived.Carry
namespace Go.Proofs.Ythlijmdohejheaa
open Go.ChangeShapes Go.WideShapes Go.ChangeAt Go.RowKit
set_option linter.unusedVariables false
set_option maxRecDepth 100000
namespace Wd
theorem laidOut : laidOutB Try.prog = true := by kernel_rfl
theorem cellsI9 : Try.prog.cellsOf 3 = 1 := by kernel_rfl
theorem cellsV9 : Try.prog.cellsOf 41 = 2 := by kernel_rfl
theorem cellsN9 : Try.prog.cellsOf 47 = 2 := by kernel_rfl
theorem cellsU9 : Try.prog.cellsOf 5 = 1 := by kernel_rfl
theorem cellsM9 : Try.prog.cellsOf 37 = 4 := by kernel_rfl
theorem cellsL9 : Try.prog.cellsOf 34 = 1 := by kernel_rfl
theorem cellsY9 : Try.prog.cellsOf 35 = 1 := by kernel_rfl
theorem list2 {α : Type} (l : List α) (h : l.length = 2) : ∃ a b, l = [a, b] := by
  match l, h with
  | [a, b], _ => exact ⟨a, b, rfl⟩
theorem list4 {α : Type} (l : List α) (h : l.length = 4) : ∃ a b c d, l = [a, b, c, d] := by
  match l, h with
  | [a, b, c, d], _ => exact ⟨a, b, c, d, rfl⟩
/-- a list of what there is -/
theorem list_all {α : Type} {Q : Nat → α → Prop} : ∀ n : Nat, (∀ k, k < n → ∃ x, Q k x) → ∃ L : List α, L.length = n ∧ ∀ k x, L[k]? = some x → Q k x
  | 0, _ => ⟨[], rfl, fun k x h => by simp at h⟩
  | n + 1, h => by
    obtain ⟨L, h1, h2⟩ := list_all n (fun k hk => h k (by omega))
    obtain ⟨x, hx⟩ := h n (by omega)
    refine ⟨L ++ [x], by simp [h1], fun k y hk => ?_⟩
    by_cases e : k < L.length
    · rw [List.getElem?_append_left e] at hk; exact h2 k y hk
    · rw [List.getElem?_append_right (by omega)] at hk
      have : k - L.length = 0 := by
        have := (List.getElem?_eq_some_iff.1 hk).1
        simp at this; omega
      rw [this] at hk
      cases hk
      obtain rfl : k = n := by omega
      exact hx
variable {H : Type} {enc : TypeId × Value → H} {W : World}
theorem nums_raw {n : Nat} {c : Value} {y : DataW H × List MemPlace} (h : DataW.trod enc Try.prog W 0 (fun _ => true) true n 29 [c] = some y) : ∃ ad len cap, c = .slice ad len cap ∧ NumA W ad len := by
  rcases DataW.trod_slice Try.underlying29 h with ⟨hcs, hx⟩ | ⟨a, len, cap, elems, rest, m, _, hcs, hx, hb, hl, hm, hlen, hel, _, _⟩
  · simp at hcs
    exact ⟨none, 0, 0, hcs, fun k hk => absurd hk (by omega)⟩
  · simp at hcs
    have hsp : 0 < len → a.spot = none := fun h0 => by
      obtain ⟨z, hz⟩ : ∃ z, elems[0]? = some z := ⟨elems[0]'(by omega), by simp⟩
      have hk1 := hel 0 h0
      rw [hz, cellsI9, Option.bind_eq_some_iff] at hk1
      obtain ⟨cs, hc, ht⟩ := hk1
      obtain ⟨_, hcl, hcc⟩ := World.cells?_some hc
      obtain ⟨x, e0, _, w0⟩ := DataW.trod_int Try.underlying3 ht
      subst e0
      have hs := World.cell?_spot ((hcc 0 (by omega)).trans (show [Value.int IntKind.i64 x][0]? = some (.int .i64 x) from rfl))
      simpa [Addr.add] using hs
    refine ⟨some a, len, cap, hcs, fun k hk => ?_⟩
    obtain ⟨z, hz⟩ : ∃ z, elems[k]? = some z := ⟨elems[k]'(by omega), by simp⟩
    have hk1 := hel k hk
    rw [hz, cellsI9, Option.bind_eq_some_iff] at hk1
    obtain ⟨cs, hc, ht⟩ := hk1
    obtain ⟨_, hcl, hcc⟩ := World.cells?_some hc
    obtain ⟨x, e0, _, w0⟩ := DataW.trod_int Try.underlying3 ht
    subst e0
    have h0 := hcc 0 (by omega)
    obtain ⟨b, off, spot⟩ := a
    have hspot : spot = none := hsp (by omega)
    subst hspot
    simp only [Addr.add_lit, Nat.add_zero, Nat.mul_one] at h0
    exact ⟨b, off, x, rfl, bounds_i64 w0, h0⟩
theorem vals_raw {n : Nat} {c : Value} {y : DataW H × List MemPlace} (h : DataW.trod enc Try.prog W 0 (fun _ => true) true n 34 [c] = some y) : ∃ B, PrV W c B := by
  rcases DataW.trod_slice Try.underlying34 h with ⟨hcs, hx⟩ | ⟨a, len, cap, elems, rest, m, _, hcs, hx, hb, hl, hm, hlen, hel, _, _⟩
  · simp at hcs
    subst hcs
    exact ⟨[], PrV.nil W⟩
  · simp at hcs
    subst hcs
    have hsp : 0 < len → a.spot = none := fun h0 => by
      obtain ⟨z, hz⟩ : ∃ z, elems[0]? = some z := ⟨elems[0]'(by omega), by simp⟩
      have hk1 := hel 0 h0
      rw [hz, cellsV9, Option.bind_eq_some_iff] at hk1
      obtain ⟨cs, hc, ht⟩ := hk1
      obtain ⟨_, hcl, hcc⟩ := World.cells?_some hc
      obtain ⟨c0, c1, rfl⟩ := list2 cs hcl
      have hs := World.cell?_spot ((hcc 0 (by omega)).trans (show [c0, c1][0]? = some c0 from rfl))
      simpa [Addr.add] using hs
    obtain ⟨B, hB1, hB2⟩ := list_all (Q := fun k (x : Int × Int) => In64 x.1 ∧ In64 x.2 ∧ ∃ g off, (some a) = some ⟨g, off, none⟩ ∧ W.cell? ⟨g, off + k * 2, none⟩ = some (.int .i64 x.1) ∧ W.cell? ⟨g, off + k * 2 + 1, none⟩ = some (.int .i64 x.2)) len (fun k hk => by
      obtain ⟨z, hz⟩ : ∃ z, elems[k]? = some z := ⟨elems[k]'(by omega), by simp⟩
      have hk1 := hel k hk
      rw [hz, cellsV9, Option.bind_eq_some_iff] at hk1
      obtain ⟨cs, hc, ht⟩ := hk1
      obtain ⟨_, hcl, hcc⟩ := World.cells?_some hc
      obtain ⟨xs, n', _, _, _, hxl, hg⟩ := DataW.trod_struct Try.underlying41 ht
      obtain ⟨y0, y1, rfl⟩ := list2 xs hxl
      obtain ⟨c0, c1, rfl⟩ := list2 cs hcl
      have g0 : DataW.trod enc Try.prog W 0 (fun _ => true) true n' 3 (([c0, c1].drop 0).take (Try.prog.cellsOf 3)) = some y0 := hg 0 _ rfl
      have g1 : DataW.trod enc Try.prog W 0 (fun _ => true) true n' 3 (([c0, c1].drop 1).take (Try.prog.cellsOf 3)) = some y1 := hg 1 _ rfl
      rw [cellsI9] at g0 g1
      obtain ⟨x, e0, _, w0⟩ := DataW.trod_int Try.underlying3 g0
      obtain ⟨q, e1, _, w1⟩ := DataW.trod_int Try.underlying3 g1
      simp at e0 e1
      subst e0 e1
      have h0 := hcc 0 (by omega)
      have h1 := hcc 1 (by omega)
      obtain ⟨b, off, spot⟩ := a
      have hspot : spot = none := hsp (by omega)
      subst hspot
      simp only [Addr.add_lit, Nat.add_zero] at h0 h1
      exact ⟨(x, q), bounds_i64 w0, bounds_i64 w1, b, off, rfl, h0, h1⟩)
    subst hB1
    exact ⟨B, ⟨some a, cap, rfl, hl, hm, hB2⟩⟩
theorem insts_raw {n : Nat} {c : Value} {y : DataW H × List MemPlace} (h : DataW.trod enc Try.prog W 0 (fun _ => true) true n 45 [c] = some y) : ∃ B, PrV W c B := by
  rcases DataW.trod_slice Try.underlying45 h with ⟨hcs, hx⟩ | ⟨a, len, cap, elems, rest, m, _, hcs, hx, hb, hl, hm, hlen, hel, _, _⟩
  · simp at hcs
    subst hcs
    exact ⟨[], PrV.nil W⟩
  · simp at hcs
    subst hcs
    have hsp : 0 < len → a.spot = none := fun h0 => by
      obtain ⟨z, hz⟩ : ∃ z, elems[0]? = some z := ⟨elems[0]'(by omega), by simp⟩
      have hk1 := hel 0 h0
      rw [hz, cellsN9, Option.bind_eq_some_iff] at hk1
      obtain ⟨cs, hc, ht⟩ := hk1
      obtain ⟨_, hcl, hcc⟩ := World.cells?_some hc
      obtain ⟨c0, c1, rfl⟩ := list2 cs hcl
      have hs := World.cell?_spot ((hcc 0 (by omega)).trans (show [c0, c1][0]? = some c0 from rfl))
      simpa [Addr.add] using hs
    obtain ⟨B, hB1, hB2⟩ := list_all (Q := fun k (x : Int × Int) => In64 x.1 ∧ In64 x.2 ∧ ∃ g off, (some a) = some ⟨g, off, none⟩ ∧ W.cell? ⟨g, off + k * 2, none⟩ = some (.int .i64 x.1) ∧ W.cell? ⟨g, off + k * 2 + 1, none⟩ = some (.int .i64 x.2)) len (fun k hk => by
      obtain ⟨z, hz⟩ : ∃ z, elems[k]? = some z := ⟨elems[k]'(by omega), by simp⟩
      have hk1 := hel k hk
      rw [hz, cellsN9, Option.bind_eq_some_iff] at hk1
      obtain ⟨cs, hc, ht⟩ := hk1
      obtain ⟨_, hcl, hcc⟩ := World.cells?_some hc
      obtain ⟨xs, n', _, _, _, hxl, hg⟩ := DataW.trod_struct Try.underlying47 ht
      obtain ⟨y0, y1, rfl⟩ := list2 xs hxl
      obtain ⟨c0, c1, rfl⟩ := list2 cs hcl
      have g0 : DataW.trod enc Try.prog W 0 (fun _ => true) true n' 3 (([c0, c1].drop 0).take (Try.prog.cellsOf 3)) = some y0 := hg 0 _ rfl
      have g1 : DataW.trod enc Try.prog W 0 (fun _ => true) true n' 3 (([c0, c1].drop 1).take (Try.prog.cellsOf 3)) = some y1 := hg 1 _ rfl
      rw [cellsI9] at g0 g1
      obtain ⟨x, e0, _, w0⟩ := DataW.trod_int Try.underlying3 g0
      obtain ⟨q, e1, _, w1⟩ := DataW.trod_int Try.underlying3 g1
      simp at e0 e1
      subst e0 e1
      have h0 := hcc 0 (by omega)
      have h1 := hcc 1 (by omega)
      obtain ⟨b, off, spot⟩ := a
      have hspot : spot = none := hsp (by omega)
      subst hspot
      simp only [Addr.add_lit, Nat.add_zero] at h0 h1
      exact ⟨(x, q), bounds_i64 w0, bounds_i64 w1, b, off, rfl, h0, h1⟩)
    subst hB1
    exact ⟨B, ⟨some a, cap, rfl, hl, hm, hB2⟩⟩
theorem bytes_raw {n : Nat} {c : Value} {y : DataW H × List MemPlace} (h : DataW.trod enc Try.prog W 0 (fun _ => true) true n 35 [c] = some y) : ∃ L, ByV W c L := by
  rcases DataW.trod_slice Try.underlying35 h with ⟨hcs, hx⟩ | ⟨a, len, cap, elems, rest, m, _, hcs, hx, hb, hl, hm, hlen, hel, _, _⟩
  · simp at hcs
    subst hcs
    exact ⟨[], ByV.nil W⟩
  · simp at hcs
    subst hcs
    have hsp : 0 < len → a.spot = none := fun h0 => by
      obtain ⟨z, hz⟩ : ∃ z, elems[0]? = some z := ⟨elems[0]'(by omega), by simp⟩
      have hk1 := hel 0 h0
      rw [hz, cellsU9, Option.bind_eq_some_iff] at hk1
      obtain ⟨cs, hc, ht⟩ := hk1
      obtain ⟨_, hcl, hcc⟩ := World.cells?_some hc
      obtain ⟨x, e0, _, w0⟩ := DataW.trod_int Try.underlying5 ht
      subst e0
      have hs := World.cell?_spot ((hcc 0 (by omega)).trans (show [Value.int IntKind.u8 x][0]? = some (.int .u8 x) from rfl))
      simpa [Addr.add] using hs
    obtain ⟨B, hB1, hB2⟩ := list_all (Q := fun k (x : Int) => (0 ≤ x ∧ x ≤ 255) ∧ ∃ g off, (some a) = some ⟨g, off, none⟩ ∧ W.cell? ⟨g, off + k, none⟩ = some (.int .u8 x)) len (fun k hk => by
      obtain ⟨z, hz⟩ : ∃ z, elems[k]? = some z := ⟨elems[k]'(by omega), by simp⟩
      have hk1 := hel k hk
      rw [hz, cellsU9, Option.bind_eq_some_iff] at hk1
      obtain ⟨cs, hc, ht⟩ := hk1
      obtain ⟨_, hcl, hcc⟩ := World.cells?_some hc
      obtain ⟨x, e0, _, w0⟩ := DataW.trod_int Try.underlying5 ht
      subst e0
      have h0 := hcc 0 (by omega)
      obtain ⟨b, off, spot⟩ := a
      have hspot : spot = none := hsp (by omega)
      subst hspot
      simp only [Addr.add_lit, Nat.add_zero, Nat.mul_one] at h0
      exact ⟨x, bounds_u8 w0, b, off, rfl, h0⟩)
    subst hB1
    exact ⟨B, ⟨some a, cap, rfl, hl, hm, hB2⟩⟩
theorem bytesI9 : Try.prog.bytesOf 3 = 8 := by kernel_rfl
theorem nums_of {base : Nat} {v : Value} {d : DataW H} {p : List MemPlace} (hv : Value.okWide Try.prog W .any base 29 v) (h : DataW.Trod enc Try.prog W 0 (fun _ => true) true 29 v d p) : ∃ ad len cap, v = .slice ad len cap ∧ NumA W ad len ∧ ((d = .nil ∧ len = 0) ∨ ∃ elems spare, d = .slice elems spare ∧ len ≤ elems.length) := by
  obtain ⟨a0, len, cap, rfl⟩ := okWide_slice Try.underlying29 hv
  obtain ⟨fuel, hf⟩ := h
  obtain ⟨ad, len', cap', e, hN⟩ := nums_raw (c := .slice a0 len cap) (by simpa [Value.cells] using hf)
  cases e
  refine ⟨_, _, _, rfl, hN, ?_⟩
  rcases DataW.trod_slice Try.underlying29 hf with ⟨hcs, hx⟩ | ⟨a, len', cap', elems, rest, n, _, hcs, hx, hb, hl, hm, hlen, hel, _, _⟩
  · simp [Value.cells] at hcs
    obtain ⟨rfl, rfl, rfl⟩ := hcs
    simp only [Prod.mk.injEq] at hx
    exact Or.inl ⟨hx.1, rfl⟩
  · simp [Value.cells] at hcs
    obtain ⟨rfl, rfl, rfl⟩ := hcs
    simp only [Prod.mk.injEq] at hx
    exact Or.inr ⟨_, _, hx.1, by simp; omega⟩
theorem insts_of {base : Nat} {v : Value} {d : DataW H} {p : List MemPlace} (hv : Value.okWide Try.prog W .any base 45 v) (h : DataW.Trod enc Try.prog W 0 (fun _ => true) true 45 v d p) : ∃ L, PrV W v L := by
  obtain ⟨a0, len, cap, rfl⟩ := okWide_slice Try.underlying45 hv
  obtain ⟨fuel, hf⟩ := h
  exact insts_raw (c := .slice a0 len cap) (by simpa [Value.cells] using hf)
/-- a method that came in -/
theorem meth_of {base : Nat} {v : Value} {d : DataW H} {p : List MemPlace} (hv : Value.okWide Try.prog W .any base 37 v) (h : DataW.Trod enc Try.prog W 0 (fun _ => true) true 37 v d p) : ∃ m, MeV W v m := by
  obtain ⟨cs, rfl, hsz⟩ := okWide_struct Try.underlying37 hv
  rw [cellsM9] at hsz
  obtain ⟨l⟩ := cs
  obtain ⟨c0, c1, c2, c3, rfl⟩ := list4 l hsz
  obtain ⟨fuel, hf⟩ := h
  obtain ⟨xs, n', _, _, _, hxl, hg⟩ := DataW.trod_struct Try.underlying37 hf
  obtain ⟨y0, y1, y2, y3, rfl⟩ := list4 xs hxl
  have g0 : DataW.trod enc Try.prog W 0 (fun _ => true) true n' 3 (([c0, c1, c2, c3].drop 0).take (Try.prog.cellsOf 3)) = some y0 := hg 0 _ rfl
  have g1 : DataW.trod enc Try.prog W 0 (fun _ => true) true n' 3 (([c0, c1, c2, c3].drop 1).take (Try.prog.cellsOf 3)) = some y1 := hg 1 _ rfl
  have g2 : DataW.trod enc Try.prog W 0 (fun _ => true) true n' 34 (([c0, c1, c2, c3].drop 2).take (Try.prog.cellsOf 34)) = some y2 := hg 2 _ rfl
  have g3 : DataW.trod enc Try.prog W 0 (fun _ => true) true n' 35 (([c0, c1, c2, c3].drop 3).take (Try.prog.cellsOf 35)) = some y3 := hg 3 _ rfl
  rw [cellsI9] at g0 g1
  rw [cellsL9] at g2
  rw [cellsY9] at g3
  obtain ⟨x, e1, _, w1⟩ := DataW.trod_int Try.underlying3 g0
  obtain ⟨q, e2, _, w2⟩ := DataW.trod_int Try.underlying3 g1
  simp at e1 e2
  subst e1 e2
  obtain ⟨L, hL⟩ := vals_raw (c := c2) (by simpa using g2)
  obtain ⟨C, hC⟩ := bytes_raw (c := c3) (by simpa using g3)
  obtain ⟨la, lc, rfl, _⟩ := hL.form
  obtain ⟨ca, cc, rfl, _⟩ := hC.form
  exact ⟨⟨x, q, L, C⟩, MeV.of hL hC (bounds_i64 w1) (bounds_i64 w2)⟩
end Wd
end Go.Proofs.Ythlijmdohejheaa
