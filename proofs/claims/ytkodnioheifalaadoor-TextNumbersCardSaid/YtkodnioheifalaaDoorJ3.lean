/- Texts joined: KW, KX, OPure, ORef, OFet, OLit, OInst, OMeth, OLaw, OApp. -/
import Derived.Test.YtkodnioheifalaaDoorJ2
import Derived.Deep.DeepCutAuto
import Derived.Deep.MidRow
/- Programs as they lie in memory: names, methods, objects, whole programs. -/
namespace Go.Proofs.YtkodnioheifalaaDoor
open Go.RowKit
set_option linter.unusedVariables false
set_option maxRecDepth 20000
namespace Wd
/-- texts -/
structure NmV (w : World) (v : Value) (L : List ByteArray) : Prop where
  mk ::
  ex : ∃ ad cap, v = .slice ad L.length cap ∧ L.length ≤ cap ∧ cap ≤ maxLen ∧ ∀ (k : Nat) x, L[k]? = some x → ∃ g off, ad = some ⟨g, off, none⟩ ∧ w.cell? ⟨g, off + k, none⟩ = some (.string x)
/-- bytes -/
structure ByV (w : World) (v : Value) (L : List Int) : Prop where
  mk ::
  ex : ∃ ad cap, v = .slice ad L.length cap ∧ L.length ≤ cap ∧ cap ≤ maxLen ∧ ∀ (k : Nat) x, L[k]? = some x → (0 ≤ x ∧ x ≤ 255) ∧ ∃ g off, ad = some ⟨g, off, none⟩ ∧ w.cell? ⟨g, off + k, none⟩ = some (.int .u8 x)
/-- methods -/
structure MtV (w : World) (v : Value) (L : List MethA) : Prop where
  mk ::
  ex : ∃ ad cap, v = .slice ad L.length cap ∧ L.length ≤ cap ∧ cap ≤ maxLen ∧ ∀ (k : Nat) x, L[k]? = some x → In64 x.args ∧ In64 x.temps ∧ ∃ g off lv cv, ad = some ⟨g, off, none⟩ ∧ w.cell? ⟨g, off + k * 4, none⟩ = some (.int .i64 x.args) ∧ w.cell? ⟨g, off + k * 4 + 1, none⟩ = some (.int .i64 x.temps) ∧ w.cell? ⟨g, off + k * 4 + 2, none⟩ = some lv ∧ w.cell? ⟨g, off + k * 4 + 3, none⟩ = some cv ∧ PrV w lv x.lits ∧ ByV w cv x.code
/-- objects -/
structure ObV (w : World) (v : Value) (L : List ObjA) : Prop where
  mk ::
  ex : ∃ ad cap, v = .slice ad L.length cap ∧ L.length ≤ cap ∧ cap ≤ maxLen ∧ ∀ (k : Nat) x, L[k]? = some x → In64 x.cls ∧ ∃ g off fv, ad = some ⟨g, off, none⟩ ∧ w.cell? ⟨g, off + k * 2, none⟩ = some (.int .i64 x.cls) ∧ w.cell? ⟨g, off + k * 2 + 1, none⟩ = some fv ∧ PrV w fv x.flds
/-- a program -/
structure UnitA where
  names : List ByteArray
  classes : List ClassA
  methods : List MethA
  objects : List ObjA
  main : Int
structure UnV (w : World) (nv cv mv ov : Value) (U : UnitA) : Prop where
  n : NmV w nv U.names
  c : ClV w cv U.classes
  m : MtV w mv U.methods
  o : ObV w ov U.objects
section
variable {w w1 : World} {v : Value}
theorem NmV.up {L : List ByteArray} (h : NmV w v L) (b : Below w.heap.size w w1) : NmV w1 v L := by
  obtain ⟨ad, cap, rfl, h1, h2, h3⟩ := h.ex
  refine ⟨ad, cap, rfl, h1, h2, fun k x hx => ?_⟩
  obtain ⟨g, off, e, c0⟩ := h3 k x hx
  exact ⟨g, off, e, cell_up b c0⟩
theorem ByV.up {L : List Int} (h : ByV w v L) (b : Below w.heap.size w w1) : ByV w1 v L := by
  obtain ⟨ad, cap, rfl, h1, h2, h3⟩ := h.ex
  refine ⟨ad, cap, rfl, h1, h2, fun k x hx => ?_⟩
  obtain ⟨i, g, off, e, c0⟩ := h3 k x hx
  exact ⟨i, g, off, e, cell_up b c0⟩
theorem MtV.up {L : List MethA} (h : MtV w v L) (b : Below w.heap.size w w1) : MtV w1 v L := by
  obtain ⟨ad, cap, rfl, h1, h2, h3⟩ := h.ex
  refine ⟨ad, cap, rfl, h1, h2, fun k x hx => ?_⟩
  obtain ⟨i1, i2, g, off, lv, cv, e, c0, c1, c2, c3, p, q⟩ := h3 k x hx
  exact ⟨i1, i2, g, off, lv, cv, e, cell_up b c0, cell_up b c1, cell_up b c2, cell_up b c3, p.up b, q.up b⟩
theorem ObV.up {L : List ObjA} (h : ObV w v L) (b : Below w.heap.size w w1) : ObV w1 v L := by
  obtain ⟨ad, cap, rfl, h1, h2, h3⟩ := h.ex
  refine ⟨ad, cap, rfl, h1, h2, fun k x hx => ?_⟩
  obtain ⟨i1, g, off, fv, e, c0, c1, p⟩ := h3 k x hx
  exact ⟨i1, g, off, fv, e, cell_up b c0, cell_up b c1, p.up b⟩
theorem UnV.up {nv cv mv ov : Value} {U : UnitA} (h : UnV w nv cv mv ov U) (b : Below w.heap.size w w1) : UnV w1 nv cv mv ov U := ⟨h.n.up b, h.c.up b, h.m.up b, h.o.up b⟩
end
theorem NmV.own {w : World} {g : Nat} {T : List ByteArray} {e : TypeId} (h : w.heap[g]? = some (.cells (strs T).toArray e (0, 0))) (hm : T.length ≤ maxLen) : NmV w (.slice (some ⟨g, 0, none⟩) T.length T.length) T :=
  ⟨_, T.length, rfl, Nat.le_refl _, hm, fun k x hx => ⟨g, 0, rfl, cell_in h (by simp [strs, hx])⟩⟩
theorem ByV.own {w : World} {base : Nat} {e : TypeId} {v : Value} {T : List Int} (h : w.ownsRow base e 1 v T.length (bys T)) (hb : ∀ x ∈ T, 0 ≤ x ∧ x ≤ 255) : ByV w v T := by
  rcases h.2 with ⟨rfl, h0⟩ | ⟨g, cap, cur, rfl, h1, h2, h3, h4, _⟩
  · have : T = [] := List.length_eq_zero_iff.1 h0
    subst this
    exact ⟨none, 0, rfl, by simp, by decide, fun k x hx => by simp at hx⟩
  · refine ⟨_, cap, rfl, h3, h4, fun k x hx => ⟨hb x (List.mem_of_getElem? hx), g, 0, rfl, ?_⟩⟩
    have hk := (List.getElem?_eq_some_iff.1 hx).1
    rw [Nat.zero_add]
    exact (h.cellAt k (by omega)).trans (by simp [bys, hx])
theorem MtV.own {w : World} {base : Nat} {e : TypeId} {v : Value} {T : List (MethA × Value × Value)} (h : w.ownsRow base e 4 v T.length (mt4s T)) (hb : ∀ x ∈ T, In64 x.1.args ∧ In64 x.1.temps ∧ PrV w x.2.1 x.1.lits ∧ ByV w x.2.2 x.1.code) : MtV w v (T.map (·.1)) := by
  rcases h.2 with ⟨rfl, h0⟩ | ⟨g, cap, cur, rfl, h1, h2, h3, h4, _⟩
  · have : T = [] := List.length_eq_zero_iff.1 h0
    subst this
    exact ⟨none, 0, rfl, by simp, by decide, fun k x hx => by simp at hx⟩
  · refine ⟨some ⟨g, 0, none⟩, cap, by simp, by simpa using h3, h4, fun k c hc => ?_⟩
    obtain ⟨x, hx, rfl⟩ : ∃ x, T[k]? = some x ∧ x.1 = c := by simpa using hc
    have hk := (List.getElem?_eq_some_iff.1 hx).1
    obtain ⟨c0, c1, c2, c3⟩ := mt4s_get T k x hx
    obtain ⟨b0, b1, b2, b3⟩ := hb x (List.mem_of_getElem? hx)
    refine ⟨b0, b1, g, 0, x.2.1, x.2.2, rfl, ?_, ?_, ?_, ?_, b2, b3⟩
    · rw [Nat.zero_add]; exact (h.cellAt (k * 4) (by omega)).trans c0
    · rw [Nat.zero_add]; exact (h.cellAt (k * 4 + 1) (by omega)).trans c1
    · rw [Nat.zero_add]; exact (h.cellAt (k * 4 + 2) (by omega)).trans c2
    · rw [Nat.zero_add]; exact (h.cellAt (k * 4 + 3) (by omega)).trans c3
theorem ObV.own {w : World} {base : Nat} {e : TypeId} {v : Value} {T : List (ObjA × Value)} (h : w.ownsRow base e 2 v T.length (ob2s T)) (hb : ∀ x ∈ T, In64 x.1.cls ∧ PrV w x.2 x.1.flds) : ObV w v (T.map (·.1)) := by
  rcases h.2 with ⟨rfl, h0⟩ | ⟨g, cap, cur, rfl, h1, h2, h3, h4, _⟩
  · have : T = [] := List.length_eq_zero_iff.1 h0
    subst this
    exact ⟨none, 0, rfl, by simp, by decide, fun k x hx => by simp at hx⟩
  · refine ⟨some ⟨g, 0, none⟩, cap, by simp, by simpa using h3, h4, fun k c hc => ?_⟩
    obtain ⟨x, hx, rfl⟩ : ∃ x, T[k]? = some x ∧ x.1 = c := by simpa using hc
    have hk := (List.getElem?_eq_some_iff.1 hx).1
    obtain ⟨c0, c1⟩ := ob2s_get T k x hx
    obtain ⟨b0, b1⟩ := hb x (List.mem_of_getElem? hx)
    refine ⟨b0, g, 0, x.2, rfl, ?_, ?_, b1⟩
    · rw [Nat.zero_add]; exact (h.cellAt (k * 2) (by omega)).trans c0
    · rw [Nat.zero_add]; exact (h.cellAt (k * 2 + 1) (by omega)).trans c1
/-- what a tape's program is -/
structure TapeU (U : UnitA) : Prop where
  names : U.names = nameL
  cl0 : 3 ≤ U.classes.length
  cl1 : U.classes.length ≤ 5
  cls : ∀ (k : Nat) c, U.classes[k]? = some c → clsOk U.classes k c ∧ (k = 0 → c.binds = []) ∧ bndSub 6 c.binds
  ml : U.methods.length = 9
  mts : ∀ (k : Nat) x, U.methods[k]? = some x → methOk (U.classes.length : Int) k x
  ob0 : 1 ≤ U.objects.length
  ob1 : U.objects.length ≤ 5
  obs : ∀ (k : Nat) x, U.objects[k]? = some x → objOk U.classes U.objects.length k x
  main : U.main = 6
theorem wr8_bd (x : Int) : 0 ≤ wr8 x ∧ wr8 x ≤ 255 := by
  unfold wr8
  have h1 := Int.emod_nonneg x (show (256 : Int) ≠ 0 by decide)
  have h2 := Int.emod_lt_of_pos x (show (0 : Int) < 256 by decide)
  have e : IntKind.u8.wrap x = x % 256 := by
    unfold IntKind.wrap
    rfl
  rw [e]; omega
end Wd
end Go.Proofs.YtkodnioheifalaaDoor

/- A tape's program, whole: what is read of it. -/
namespace Go.Proofs.YtkodnioheifalaaDoor
open Go.RowKit
set_option linter.unusedVariables false
set_option maxRecDepth 20000
namespace Wd
def by2 (y : Int × Int) : Prop := (0 ≤ y.1 ∧ y.1 ≤ 255) ∧ (0 ≤ y.2 ∧ y.2 ≤ 255)
theorem by2_wr8 (a b : Int) : by2 (wr8 a, wr8 b) := ⟨wr8_bd a, wr8_bd b⟩
theorem pieceOk_by {l : List (Int × Int)} (h : pieceOk l) : ∀ y ∈ l, by2 y := by
  unfold pieceOk at h
  rcases h with h | h | h | h | h | h | h | h | h | h | h | h | h | h | h | h | h | h
  · obtain ⟨_, _, rfl⟩ := h
    intro y hy
    simp only [List.mem_cons, List.not_mem_nil, or_false] at hy
    rcases hy with rfl | rfl | rfl <;> exact by2_wr8 _ _
  · obtain ⟨_, _, rfl⟩ := h
    intro y hy
    simp only [List.mem_cons, List.not_mem_nil, or_false] at hy
    rcases hy with rfl | rfl | rfl <;> exact by2_wr8 _ _
  · obtain ⟨_, _, _, _, rfl⟩ := h
    intro y hy
    simp only [List.mem_cons, List.not_mem_nil, or_false] at hy
    rcases hy with rfl | rfl | rfl | rfl | rfl <;> exact by2_wr8 _ _
  · obtain ⟨_, _, _, _, _, _, rfl⟩ := h
    intro y hy
    simp only [List.mem_cons, List.not_mem_nil, or_false] at hy
    rcases hy with rfl | rfl | rfl | rfl | rfl <;> exact by2_wr8 _ _
  · obtain ⟨_, _, _, _, rfl⟩ := h
    intro y hy
    simp only [List.mem_cons, List.not_mem_nil, or_false] at hy
    rcases hy with rfl | rfl | rfl <;> exact by2_wr8 _ _
  · obtain ⟨_, _, _, _, rfl⟩ := h
    intro y hy
    simp only [List.mem_cons, List.not_mem_nil, or_false] at hy
    rcases hy with rfl | rfl | rfl | rfl <;> exact by2_wr8 _ _
  · obtain ⟨_, _, _, _, _, _, _, _, rfl⟩ := h
    intro y hy
    simp only [List.mem_cons, List.not_mem_nil, or_false] at hy
    rcases hy with rfl | rfl | rfl | rfl | rfl <;> exact by2_wr8 _ _
  · obtain ⟨_, _, _, _, rfl⟩ := h
    intro y hy
    simp only [List.mem_cons, List.not_mem_nil, or_false] at hy
    rcases hy with rfl | rfl | rfl | rfl <;> exact by2_wr8 _ _
  · cases h
    intro y hy
    simp only [List.mem_cons, List.not_mem_nil, or_false] at hy
    rcases hy with rfl | rfl | rfl <;> exact by2_wr8 _ _
  · obtain ⟨_, _, rfl⟩ := h
    intro y hy
    simp only [List.mem_cons, List.not_mem_nil, or_false] at hy
    rcases hy with rfl | rfl | rfl | rfl <;> exact by2_wr8 _ _
  · obtain ⟨_, _, rfl⟩ := h
    intro y hy
    simp only [List.mem_cons, List.not_mem_nil, or_false] at hy
    rcases hy with rfl | rfl | rfl | rfl <;> exact by2_wr8 _ _
  · obtain ⟨_, _, _, _, rfl⟩ := h
    intro y hy
    simp only [List.mem_cons, List.not_mem_nil, or_false] at hy
    rcases hy with rfl | rfl | rfl <;> exact by2_wr8 _ _
  · obtain ⟨_, _, rfl⟩ := h
    intro y hy
    simp only [List.mem_cons, List.not_mem_nil, or_false] at hy
    rcases hy with rfl | rfl <;> exact by2_wr8 _ _
  · obtain ⟨_, _, _, _, rfl⟩ := h
    intro y hy
    simp only [List.mem_cons, List.not_mem_nil, or_false] at hy
    rcases hy with rfl | rfl | rfl | rfl <;> exact by2_wr8 _ _
  · obtain ⟨_, _, rfl⟩ := h
    intro y hy
    simp only [List.mem_cons, List.not_mem_nil, or_false] at hy
    rcases hy with rfl | rfl | rfl | rfl | rfl <;> exact by2_wr8 _ _
  · obtain ⟨_, _, rfl⟩ := h
    intro y hy
    simp only [List.mem_cons, List.not_mem_nil, or_false] at hy
    rcases hy with rfl | rfl | rfl | rfl <;> exact by2_wr8 _ _
  · obtain ⟨_, _, _, _, rfl⟩ := h
    intro y hy
    simp only [List.mem_cons, List.not_mem_nil, or_false] at hy
    rcases hy with rfl | rfl | rfl <;> exact by2_wr8 _ _
  · obtain ⟨_, _, _, _, rfl⟩ := h
    intro y hy
    simp only [List.mem_cons, List.not_mem_nil, or_false] at hy
    rcases hy with rfl | rfl <;> exact by2_wr8 _ _
theorem codeOk_by {bl : Bool} {I : List (Int × Int)} (h : codeOk bl I) : ∀ y ∈ I, by2 y := by
  obtain ⟨P, S, q, r, l, rfl, _, _, hP, hS, _⟩ := h.ex
  intro y hy
  rcases List.mem_append.1 hy with hy | hy
  · rcases List.mem_append.1 hy with hy | hy
    · obtain ⟨x, hx, hyx⟩ := List.mem_flatten.1 hy
      exact pieceOk_by (hP x hx) y hyx
    · rcases hS with rfl | rfl
      · cases hy
      · simp only [List.mem_cons, List.not_mem_nil, or_false] at hy
        rcases hy with rfl | rfl <;> exact by2_wr8 _ _
  · simp only [List.mem_cons, List.not_mem_nil, or_false] at hy
    rcases hy with rfl | rfl <;> exact by2_wr8 _ _
theorem flat_by {I : List (Int × Int)} (h : ∀ y ∈ I, by2 y) : ∀ x ∈ flat I, 0 ≤ x ∧ x ≤ 255 := by
  intro x hx
  obtain ⟨y, hy, hxy⟩ := List.mem_flatMap.1 hx
  simp only [List.mem_cons, List.not_mem_nil, or_false] at hxy
  rcases hxy with rfl | rfl
  · exact (h y hy).1
  · exact (h y hy).2
theorem in64_of {x : Int} (h0 : -1000000000000 ≤ x) (h1 : x ≤ 1000000000000) : In64 x := ⟨by omega, by omega⟩
theorem bnd_in {k : Nat} {b : List (Int × Int)} (h : bndSub k b) (hk : k ≤ 1000) : ∀ x ∈ b, In64 x.1 ∧ In64 x.2 := by
  obtain ⟨S, _, h2, rfl⟩ := h
  intro x hx
  obtain ⟨s, hs, rfl⟩ := List.mem_map.1 hx
  have := h2 s hs
  exact ⟨in64_of (by simp only; omega) (by simp only; omega), in64_of (by simp only; omega) (by simp only; omega)⟩
theorem lits_in {c : Int} {X : List (Int × Int)} (h : litsOk c X) (hc : c ≤ 1000) : ∀ x ∈ X, In64 x.1 ∧ In64 x.2 := by
  obtain ⟨A, B, rfl, _, _, hA, hB⟩ := h
  intro x hx
  rcases List.mem_append.1 hx with hx | hx
  · rcases List.mem_append.1 hx with hx | hx
    · rcases List.mem_append.1 hx with hx | hx
      · obtain ⟨e, h⟩ := hA x hx
        exact ⟨in64_of (by omega) (by omega), in64_of (by omega) (by omega)⟩
      · obtain ⟨s, hs, rfl⟩ := List.mem_map.1 hx
        have := List.mem_range.1 hs
        exact ⟨in64_of (by simp only; omega) (by simp only; omega), in64_of (by simp only; omega) (by simp only; omega)⟩
    · obtain ⟨e, h0, h1⟩ := hB x hx
      exact ⟨in64_of (by omega) (by omega), in64_of (by omega) (by omega)⟩
  · simp only [List.mem_cons, List.not_mem_nil, or_false] at hx
    rcases hx with rfl | rfl <;> exact ⟨in64_of (by simp only; omega) (by simp only; omega), in64_of (by simp only; omega) (by simp only; omega)⟩
theorem val_in {N : Nat} {v : Int × Int} (h : valOk N v) (hN : N ≤ 1000) : In64 v.1 ∧ In64 v.2 := by
  rcases h with rfl | rfl | rfl | ⟨e, h0, h1⟩ | ⟨e, h0, h1⟩
  · exact ⟨in64_of (by simp only; omega) (by simp only; omega), in64_of (by simp only; omega) (by simp only; omega)⟩
  · exact ⟨in64_of (by simp only; omega) (by simp only; omega), in64_of (by simp only; omega) (by simp only; omega)⟩
  · exact ⟨in64_of (by simp only; omega) (by simp only; omega), in64_of (by simp only; omega) (by simp only; omega)⟩
  · exact ⟨in64_of (by omega) (by omega), in64_of (by omega) (by omega)⟩
  · exact ⟨in64_of (by omega) (by omega), in64_of (by omega) (by omega)⟩
theorem cls_in {L : List ClassA} {k : Nat} {c : ClassA} (h : clsOk L k c) (hk : k ≤ 1000) : In64 c.super ∧ In64 c.fields := by
  rcases (show k = 0 ∨ k = 1 ∨ 2 ≤ k by omega) with e | e | e
  · obtain ⟨_, a, b⟩ := h.z e
    rw [a, b]
    exact ⟨in64_of (by omega) (by omega), in64_of (by omega) (by omega)⟩
  · obtain ⟨_, a, b⟩ := h.o e
    rw [a, b]
    exact ⟨in64_of (by omega) (by omega), in64_of (by omega) (by omega)⟩
  · obtain ⟨a, b⟩ := h.fld e
    refine ⟨?_, in64_of (by omega) (by omega)⟩
    rcases h.sup e with e1 | ⟨e1, e2, _⟩
    · rw [e1]; exact in64_of (by omega) (by omega)
    · exact in64_of (by omega) (by omega)
theorem meth_in {c : Int} {j : Nat} {x : MethA} (h : methOk c j x) : In64 x.args ∧ In64 x.temps := by
  refine ⟨?_, by rw [h.temps]; exact in64_of (by omega) (by omega)⟩
  rw [h.args]
  split
  · have := argOf_le j; exact in64_of (by omega) (by omega)
  · split <;> exact in64_of (by omega) (by omega)
theorem obj_in {L : List ClassA} {N j : Nat} {x : ObjA} (h : objOk L N j x) (hL : L.length ≤ 1000) : In64 x.cls := by
  rcases h.cls with ⟨h2, d, hd, _⟩ | ⟨_, e, _⟩
  · have := (List.getElem?_eq_some_iff.1 hd).1
    exact in64_of (by omega) (by omega)
  · rw [e]; exact in64_of (by omega) (by omega)
/-- five cells are written -/
abbrev set5 (w : World) (q : Nat) (v0 v1 v2 v3 v4 : Value) : World := (set4 w q v0 v1 v2 v3).setCell ⟨q, 4, none⟩ v4
theorem cell_far5 {w : World} {q i j : Nat} {v : Value} (hij : i ≠ j) : (w.setCell ⟨q, i, none⟩ v).cell? ⟨q, j, none⟩ = w.cell? ⟨q, j, none⟩ := World.cell?_setCell_other _ _ _ _ (by intro e; injection e with _ h2; omega)
theorem set4_five {w : World} {q : Nat} {v0 v1 v2 v3 u4 : Value} (c4 : w.cell? ⟨q, 4, none⟩ = some u4) : (set4 w q v0 v1 v2 v3).cell? ⟨q, 4, none⟩ = some u4 :=
  (cell_far5 (by decide)).trans ((cell_far5 (by decide)).trans ((cell_far5 (by decide)).trans ((cell_far5 (by decide)).trans c4)))
theorem set1_at {w : World} {q : Nat} {v0 v1 v2 v3 v4 u4 : Value} (a0 : w.cell? ⟨q, 0, none⟩ = some v0) (a1 : w.cell? ⟨q, 1, none⟩ = some v1) (a2 : w.cell? ⟨q, 2, none⟩ = some v2) (a3 : w.cell? ⟨q, 3, none⟩ = some v3) (a4 : w.cell? ⟨q, 4, none⟩ = some u4) : (w.setCell ⟨q, 4, none⟩ v4).cell? ⟨q, 0, none⟩ = some v0 ∧ (w.setCell ⟨q, 4, none⟩ v4).cell? ⟨q, 1, none⟩ = some v1 ∧ (w.setCell ⟨q, 4, none⟩ v4).cell? ⟨q, 2, none⟩ = some v2 ∧ (w.setCell ⟨q, 4, none⟩ v4).cell? ⟨q, 3, none⟩ = some v3 ∧ (w.setCell ⟨q, 4, none⟩ v4).cell? ⟨q, 4, none⟩ = some v4 :=
  ⟨(cell_far5 (by decide)).trans a0, (cell_far5 (by decide)).trans a1, (cell_far5 (by decide)).trans a2, (cell_far5 (by decide)).trans a3, World.cell?_setCell_same _ _ _ a4⟩
theorem set5_at {w : World} {q : Nat} {v0 v1 v2 v3 v4 u0 u1 u2 u3 u4 : Value} (c0 : w.cell? ⟨q, 0, none⟩ = some u0) (c1 : w.cell? ⟨q, 1, none⟩ = some u1) (c2 : w.cell? ⟨q, 2, none⟩ = some u2) (c3 : w.cell? ⟨q, 3, none⟩ = some u3) (c4 : w.cell? ⟨q, 4, none⟩ = some u4) : (set5 w q v0 v1 v2 v3 v4).cell? ⟨q, 0, none⟩ = some v0 ∧ (set5 w q v0 v1 v2 v3 v4).cell? ⟨q, 1, none⟩ = some v1 ∧ (set5 w q v0 v1 v2 v3 v4).cell? ⟨q, 2, none⟩ = some v2 ∧ (set5 w q v0 v1 v2 v3 v4).cell? ⟨q, 3, none⟩ = some v3 ∧ (set5 w q v0 v1 v2 v3 v4).cell? ⟨q, 4, none⟩ = some v4 := by
  obtain ⟨a0, a1, a2, a3⟩ := set4_at (v0 := v0) (v1 := v1) (v2 := v2) (v3 := v3) c0 c1 c2 c3
  exact set1_at a0 a1 a2 a3 (set4_five c4)
theorem set5_cg (w : World) (q : Nat) (v0 v1 v2 v3 v4 : Value) : Cg (fun k => k = q) w (set5 w q v0 v1 v2 v3 v4) :=
  (((((Cg.refl (fun k => k = q) w).set ⟨q, 0, none⟩ rfl v0).set ⟨q, 1, none⟩ rfl v1).set ⟨q, 2, none⟩ rfl v2).set ⟨q, 3, none⟩ rfl v3).set ⟨q, 4, none⟩ rfl v4
/-- a program that lies in blocks from s on; the rows of its methods -/
def UnF (s : Nat) (w : World) (nv cv mv ov : Value) (U : UnitA) : Prop := ∃ M : List (MethA × Value × Value), M.map (·.1) = U.methods ∧ ∀ (G : Nat → Prop) (w2 : World), Cg G w w2 → (∀ k, G k → k < s) → UnV w2 nv cv mv ov U ∧ ∃ g cap, mv = .slice (some ⟨g, 0, none⟩) U.methods.length cap ∧ ∀ (k : Nat) x, M[k]? = some x → w2.cell? ⟨g, k * 4, none⟩ = some (.int .i64 x.1.args) ∧ w2.cell? ⟨g, k * 4 + 1, none⟩ = some (.int .i64 x.1.temps) ∧ w2.cell? ⟨g, k * 4 + 2, none⟩ = some x.2.1 ∧ w2.cell? ⟨g, k * 4 + 3, none⟩ = some x.2.2 ∧ In64 x.1.args ∧ In64 x.1.temps ∧ PrV w2 x.2.1 x.1.lits ∧ ByV w2 x.2.2 x.1.code
theorem mt_own {w : World} {base : Nat} {e : TypeId} {v : Value} {T : List (MethA × Value × Value)} (h : w.ownsRow base e 4 v T.length (mt4s T)) (h0 : 0 < T.length) : ∃ g cap, v = .slice (some ⟨g, 0, none⟩) T.length cap ∧ ∀ (k : Nat) x, T[k]? = some x → w.cell? ⟨g, k * 4, none⟩ = some (.int .i64 x.1.args) ∧ w.cell? ⟨g, k * 4 + 1, none⟩ = some (.int .i64 x.1.temps) ∧ w.cell? ⟨g, k * 4 + 2, none⟩ = some x.2.1 ∧ w.cell? ⟨g, k * 4 + 3, none⟩ = some x.2.2 := by
  rcases h.2 with ⟨rfl, hz⟩ | ⟨g, cap, cur, rfl, h1, h2, h3, h4, _⟩
  · omega
  · refine ⟨g, cap, rfl, fun k x hx => ?_⟩
    have hk := (List.getElem?_eq_some_iff.1 hx).1
    obtain ⟨c0, c1, c2, c3⟩ := mt4s_get T k x hx
    exact ⟨(h.cellAt (k * 4) (by omega)).trans c0, (h.cellAt (k * 4 + 1) (by omega)).trans c1, (h.cellAt (k * 4 + 2) (by omega)).trans c2, (h.cellAt (k * 4 + 3) (by omega)).trans c3⟩
theorem P4.done {w wB wr : World} {p n B Bn g cp m H H3 H4 N : Nat} {ad : Option Addr} {mv ov : Value} {T : List (ClassA × Value)} {M : List (MethA × Value × Value)} {O : List (ObjA × Value)} (h : P4 w wB wr p n ad B (.slice (some ⟨Bn, 0, none⟩) 6 6) g cp m T H mv M H3 H4 N ov N O) (hm : 3 ≤ m ∧ m ≤ 5) (hN1 : 1 ≤ N) (hN5 : N ≤ 5) (e1 : wB.heap[Bn]? = some (.cells (strs nameL).toArray 9 (0, 0))) (hb : w.heap.size + 1 = Bn) (hB : Bn + 1 = B) {w9 : World} (hc : Cg (fun k => k = w.heap.size) wr w9) : ∃ U, UnV w9 (.slice (some ⟨Bn, 0, none⟩) 6 6) (.slice (some ⟨g, 0, none⟩) m cp) mv ov U ∧ TapeU U ∧ Tp w9 p ad n ∧ Cg (fun k => k = p) w w9 ∧ UnF (w.heap.size + 1) w9 (.slice (some ⟨Bn, 0, none⟩) 6 6) (.slice (some ⟨g, 0, none⟩) m cp) mv ov U := by
  have hks := h.un.ks.other hc (fun k hk => by omega)
  have hpB := h.un.ks.p0
  have hrow : ∀ {b sz len : Nat} {e : TypeId} {v : Value} {xs : List Value}, wr.ownsRow b e sz v len xs → w.heap.size < b → w9.ownsRow b e sz v len xs := fun ho hlt => row_cg ho hc (fun k hk hf => by have := (ho.lt k hk).1; omega)
  have hBH := h.fin.BH
  have hHH := h.fin.HH
  have hHB := h.HB
  have hlT := h.fin.len
  have hlM := h.fin.mr.len
  have hlO := h.len
  have hnm : w9.heap[Bn]? = some (.cells (strs nameL).toArray 9 (0, 0)) := by
    have hsz := h.un.cg.size
    have hbs := h.un.bs
    exact (hc.block Bn (by omega) (by omega)).trans ((h.un.cg.block Bn (by omega) (by omega)).trans e1)
  have hnm2 : ∀ (G : Nat → Prop) (w2 : World), Cg G w9 w2 → (∀ k, G k → k < w.heap.size + 1) → UnV w2 (.slice (some ⟨Bn, 0, none⟩) 6 6) (.slice (some ⟨g, 0, none⟩) m cp) mv ov ⟨nameL, T.map (·.1), M.map (·.1), O.map (·.1), 6⟩ := by
    intro G w2 hG hlt2
    have hrow2 : ∀ {b sz len : Nat} {e : TypeId} {v : Value} {xs : List Value}, wr.ownsRow b e sz v len xs → w.heap.size < b → w2.ownsRow b e sz v len xs := fun ho hlt => row_cg (hrow ho hlt) hG (fun k hk hf => by have := (ho.lt k hk).1; have := hlt2 k hf; omega)
    have hB9 := (Array.getElem?_eq_some_iff.1 hnm).1
    have hnmw : w2.heap[Bn]? = some (.cells (strs nameL).toArray 9 (0, 0)) := (hG.block Bn hB9 (fun hf => by have := hlt2 _ hf; omega)).trans hnm
    refine ⟨NmV.own hnmw (by decide), ?_, ?_, ?_⟩
    · have hr := hrow2 h.fin.row (by omega)
      rw [hlT] at hr ⊢
      refine ClV.own hr (fun x hx => ?_)
      obtain ⟨k, hk⟩ := List.getElem?_of_mem hx
      have hkl := (List.getElem?_eq_some_iff.1 hk).1
      obtain ⟨i1, i2⟩ := cls_in (h.fin.ok k x hk) (by omega)
      exact ⟨i1, i2, PrV.own (hrow2 (h.fin.bnd k x hk) (by omega)) (bnd_in (h.fin.don k x hk).2 (by omega))⟩
    · have hr := hrow2 h.fin.mr.row (by omega)
      rw [hlM] at hr
      refine MtV.own hr (fun x hx => ?_)
      obtain ⟨k, hk⟩ := List.getElem?_of_mem hx
      have ho := h.fin.mr.ok k x hk
      obtain ⟨i1, i2⟩ := meth_in ho
      have hs := h.fin.mr.sub x hx
      obtain ⟨I, hI, eI⟩ := ho.code
      exact ⟨i1, i2, PrV.own (hrow2 hs.l (by omega)) (lits_in ho.lits (by omega)), ByV.own (hrow2 hs.c (by omega)) (by rw [eI]; exact flat_by (codeOk_by hI))⟩
    · have hr := hrow2 h.row (by omega)
      rw [hlO] at hr
      refine ObV.own hr (fun x hx => ?_)
      obtain ⟨k, hk⟩ := List.getElem?_of_mem hx
      have ho := h.ok k x hk
      exact ⟨obj_in ho (by simp; omega), PrV.own (hrow2 (h.sub x hx) (by omega)) (fun v hv => val_in (ho.flds v hv) (by omega))⟩
  refine ⟨_, hnm2 (fun _ => False) w9 (Cg.refl _ _) (fun _ e => e.elim), ⟨rfl, by simp; omega, by simp; omega, ?_, by simp; omega, ?_, by simp; omega, by simp; omega, ?_, rfl⟩, hks.tp, hks.cg, M, rfl, fun G w2 hG hlt2 => ⟨hnm2 G w2 hG hlt2, ?_⟩⟩
  · intro k c hc'
    obtain ⟨x, hx, rfl⟩ : ∃ x, T[k]? = some x ∧ x.1 = c := by simpa using hc'
    obtain ⟨a, b⟩ := h.fin.don k x hx
    exact ⟨h.fin.ok k x hx, a, b⟩
  · intro k c hc'
    obtain ⟨x, hx, rfl⟩ : ∃ x, M[k]? = some x ∧ x.1 = c := by simpa using hc'
    have := h.fin.mr.ok k x hx
    rw [hlT] at this
    simpa using this
  · intro k c hc'
    obtain ⟨x, hx, rfl⟩ : ∃ x, O[k]? = some x ∧ x.1 = c := by simpa using hc'
    have := h.ok k x hx
    simpa [← hlO] using this
  · have hrow2 : ∀ {b sz len : Nat} {e : TypeId} {v : Value} {xs : List Value}, wr.ownsRow b e sz v len xs → w.heap.size < b → w2.ownsRow b e sz v len xs := fun ho hlt => row_cg (hrow ho hlt) hG (fun k hk hf => by have := (ho.lt k hk).1; have := hlt2 k hf; omega)
    have hr := hrow2 h.fin.mr.row (by omega)
    rw [hlM] at hr
    obtain ⟨g', cap', e', hcl⟩ := mt_own hr (by omega)
    refine ⟨g', cap', by rw [e']; simp, fun k x hx => ?_⟩
    obtain ⟨c0, c1, c2, c3⟩ := hcl k x hx
    have ho := h.fin.mr.ok k x hx
    obtain ⟨i1, i2⟩ := meth_in ho
    have hs := h.fin.mr.sub x (List.mem_of_getElem? hx)
    obtain ⟨I, hI, eI⟩ := ho.code
    exact ⟨c0, c1, c2, c3, i1, i2, PrV.own (hrow2 hs.l (by omega)) (lits_in ho.lits (by omega)), ByV.own (hrow2 hs.c (by omega)) (by rw [eI]; exact flat_by (codeOk_by hI))⟩
end Wd
end Go.Proofs.YtkodnioheifalaaDoor

/- Methods, plainly: instructions, whether they are right. -/
namespace Go.Proofs.YtkodnioheifalaaDoor
open Go.RowKit
set_option linter.unusedVariables false
set_option maxRecDepth 20000
namespace Wd
/-- a method, by value -/
structure MeV (w : World) (v : Value) (m : MethA) : Prop where
  mk ::
  ex : ∃ la lc ca cc, v = .agg #[.int .i64 m.args, .int .i64 m.temps, .slice la m.lits.length lc, .slice ca m.code.length cc] ∧ PrV w (.slice la m.lits.length lc) m.lits ∧ ByV w (.slice ca m.code.length cc) m.code
  a64 : In64 m.args
  t64 : In64 m.temps
theorem PrV.le {w : World} {v : Value} {L : List (Int × Int)} (h : PrV w v L) : L.length ≤ maxLen := by
  obtain ⟨ad, cap, _, h1, h2, _⟩ := h.ex; omega
theorem ByV.form {w : World} {v : Value} {L : List Int} (h : ByV w v L) : ∃ ad cap, v = .slice ad L.length cap ∧ L.length ≤ cap ∧ cap ≤ maxLen := by
  obtain ⟨ad, cap, e, h1, h2, h3⟩ := h.ex
  exact ⟨ad, cap, e, h1, h2⟩
theorem ByV.le {w : World} {v : Value} {L : List Int} (h : ByV w v L) : L.length ≤ maxLen := by
  obtain ⟨ad, cap, _, h1, h2⟩ := h.form; omega
theorem ByV.at {w : World} {ad : Option Addr} {n cap : Nat} {L : List Int} (h : ByV w (.slice ad n cap) L) {k : Nat} {x : Int} (hk : L[k]? = some x) : (0 ≤ x ∧ x ≤ 255) ∧ ∃ g off, ad = some ⟨g, off, none⟩ ∧ w.cell? ⟨g, off + k, none⟩ = some (.int .u8 x) := by
  obtain ⟨ad', cap', e, h1, h2, h3⟩ := h.ex
  cases e
  exact h3 k x hk
theorem ByV.take {w : World} {ad : Option Addr} {n cap : Nat} {L : List Int} (h : ByV w (.slice ad n cap) L) (k : Nat) (hk : k ≤ L.length) : ByV w (.slice ad k cap) (L.take k) := by
  obtain ⟨ad', cap', e, h1, h2, h3⟩ := h.ex
  cases e
  have hl : (L.take k).length = k := by rw [List.length_take]; omega
  refine ⟨ad, cap, by rw [hl], by omega, h2, fun j x hx => h3 j x ?_⟩
  rw [List.getElem?_take] at hx
  split at hx
  · exact hx
  · cases hx
theorem MeV.up {w w1 : World} {v : Value} {m : MethA} (h : MeV w v m) (b : Below w.heap.size w w1) : MeV w1 v m := by
  obtain ⟨la, lc, ca, cc, e, h1, h2⟩ := h.ex
  exact ⟨⟨la, lc, ca, cc, e, h1.up b, h2.up b⟩, h.a64, h.t64⟩
/-- a byte -/
def byAt (C : List Int) (k : Nat) : Int := C.getD k 0
theorem byAt_some {C : List Int} {k : Nat} (h : k < C.length) : C[k]? = some (byAt C k) := by
  unfold byAt
  rw [List.getD_eq_getElem?_getD, List.getElem?_eq_getElem h]; rfl
def fetR (C : List Int) (pc : Int) : Int × Int × Bool := if pc < 0 ∨ pc % 2 ≠ 0 ∨ pc > (C.length : Int) - 2 then (0, 0, false) else (byAt C pc.toNat, byAt C (pc.toNat + 1), true)
def namL : List ByteArray := [⟨#[112, 117, 115, 104, 116, 101, 109, 112]⟩, ⟨#[112, 117, 115, 104, 102, 105, 101, 108, 100]⟩, ⟨#[112, 117, 115, 104, 108, 105, 116]⟩, ⟨#[112, 117, 115, 104, 115, 101, 108, 102]⟩, ⟨#[112, 117, 115, 104, 110, 105, 108]⟩, ⟨#[112, 117, 115, 104, 116, 114, 117, 101]⟩, ⟨#[112, 117, 115, 104, 102, 97, 108, 115, 101]⟩, ⟨#[112, 117, 115, 104, 110, 117, 109]⟩, ⟨#[112, 111, 112]⟩, ⟨#[100, 117, 112]⟩, ⟨#[115, 116, 111, 114, 101, 116, 101, 109, 112]⟩, ⟨#[115, 116, 111, 114, 101, 102, 105, 101, 108, 100]⟩, ⟨#[115, 101, 110, 100]⟩, ⟨#[115, 117, 112, 101, 114]⟩, ⟨#[114, 101, 116, 117, 114, 110]⟩, ⟨#[106, 117, 109, 112]⟩, ⟨#[98, 97, 99, 107]⟩, ⟨#[105, 102, 102, 97, 108, 115, 101]⟩, ⟨#[98, 108, 111, 99, 107]⟩, ⟨#[104, 111, 109, 101]⟩, ⟨#[110, 101, 119]⟩, ⟨#[112, 114, 105, 109]⟩]
def namR (p : Int) : ByteArray := if p < 0 ∨ p > 21 then ⟨#[]⟩ else namL.getD p.toNat ⟨#[]⟩
theorem fet_no {C : List Int} {pc : Int} (h : pc < 0 ∨ pc % 2 ≠ 0 ∨ pc > (C.length : Int) - 2) : fetR C pc = (0, 0, false) := if_pos h
theorem fet_yes {C : List Int} {pc : Int} (h0 : 0 ≤ pc) (h1 : pc % 2 = 0) (h2 : pc ≤ (C.length : Int) - 2) : fetR C pc = (byAt C pc.toNat, byAt C (pc.toNat + 1), true) := if_neg (by omega)
theorem mod2 {n : Nat} : Int.tmod (n : Int) 2 = ((n % 2 : Nat) : Int) := by
  show Int.tmod _ ((2 : Nat) : Int) = _
  rw [← Int.ofNat_tmod]
end Wd
end Go.Proofs.YtkodnioheifalaaDoor

/- The document's own instructions: Fetch, Takes, Name, literals. -/
namespace Go.Proofs.YtkodnioheifalaaDoor
open Go.RowKit
set_option linter.unusedVariables false
set_option maxRecDepth 20000
namespace Wd
end Wd
end Go.Proofs.YtkodnioheifalaaDoor

/- The document's own instructions: Fetch, one of a method; is it right? -/
namespace Go.Proofs.YtkodnioheifalaaDoor
open Go.RowKit
set_option linter.unusedVariables false
set_option maxRecDepth 20000
namespace Wd
/-- a method in a box of its own -/
structure MeB (w : World) (q : Nat) (v : Value) (m : MethA) (la ca : Option Addr) (lc cc : Nat) : Prop where
  e : v = .agg #[.int .i64 m.args, .int .i64 m.temps, .slice la m.lits.length lc, .slice ca m.code.length cc]
  c0 : w.cell? ⟨q, 0, none⟩ = some (.int .i64 m.args)
  c1 : w.cell? ⟨q, 1, none⟩ = some (.int .i64 m.temps)
  c2 : w.cell? ⟨q, 2, none⟩ = some (.slice la m.lits.length lc)
  c3 : w.cell? ⟨q, 3, none⟩ = some (.slice ca m.code.length cc)
  me : MeV w v m
theorem MeB.born {w : World} {m : MethA} {la ca : Option Addr} {lc cc : Nat} (h : MeV w (.agg #[.int .i64 m.args, .int .i64 m.temps, .slice la m.lits.length lc, .slice ca m.code.length cc]) m) : MeB (w.alloc (.cells #[.int .i64 m.args, .int .i64 m.temps, .slice la m.lits.length lc, .slice ca m.code.length cc] 37)) w.heap.size (.agg #[.int .i64 m.args, .int .i64 m.temps, .slice la m.lits.length lc, .slice ca m.code.length cc]) m la ca lc cc :=
  ⟨rfl, by simp, by simp, by simp, by simp, h.up ((Below.refl _ _).alloc (Nat.le_refl _) _)⟩
theorem MeB.lt {w : World} {q : Nat} {v : Value} {m : MethA} {la ca : Option Addr} {lc cc : Nat} (h : MeB w q v m la ca lc cc) : q < w.heap.size := World.block_lt_of_cell? w _ h.c0
theorem MeB.up {w w1 : World} {q : Nat} {v : Value} {m : MethA} {la ca : Option Addr} {lc cc : Nat} (h : MeB w q v m la ca lc cc) (b : Below w.heap.size w w1) : MeB w1 q v m la ca lc cc :=
  ⟨h.e, cell_up b h.c0, cell_up b h.c1, cell_up b h.c2, cell_up b h.c3, h.me.up b⟩
theorem MeB.py {w : World} {q : Nat} {v : Value} {m : MethA} {la ca : Option Addr} {lc cc : Nat} (h : MeB w q v m la ca lc cc) : PrV w (.slice la m.lits.length lc) m.lits ∧ ByV w (.slice ca m.code.length cc) m.code := by
  obtain ⟨la', lc', ca', cc', e, h1, h2⟩ := h.me.ex
  rw [h.e] at e
  cases e
  exact ⟨h1, h2⟩
theorem len_le {n : Nat} (h : n ≤ maxLen) : (n : Int) ≤ 9223372036854775807 := by
  have : maxLen ≤ 9223372036854775807 := by decide
  omega
end Wd
end Go.Proofs.YtkodnioheifalaaDoor

/- The document's own instructions: has a method such a literal? is a literal right? -/
namespace Go.Proofs.YtkodnioheifalaaDoor
open Go.RowKit
set_option linter.unusedVariables false
set_option maxRecDepth 20000
namespace Wd
/-- a program, by value -/
structure UnK (w : World) (v : Value) (U : UnitA) : Prop where
  mk ::
  ex : ∃ na nc ca cc ma mc oa oc, v = .agg #[.slice na U.names.length nc, .slice ca U.classes.length cc, .slice ma U.methods.length mc, .slice oa U.objects.length oc, .int .i64 U.main] ∧ UnV w (.slice na U.names.length nc) (.slice ca U.classes.length cc) (.slice ma U.methods.length mc) (.slice oa U.objects.length oc) U
theorem UnK.up {w w1 : World} {v : Value} {U : UnitA} (h : UnK w v U) (b : Below w.heap.size w w1) : UnK w1 v U := by
  obtain ⟨na, nc, ca, cc, ma, mc, oa, oc, e, h⟩ := h.ex
  exact ⟨⟨na, nc, ca, cc, ma, mc, oa, oc, e, h.up b⟩⟩
end Wd
end Go.Proofs.YtkodnioheifalaaDoor

/- The document's own instructions: is one right where it stands? -/
namespace Go.Proofs.YtkodnioheifalaaDoor
open Go.RowKit
set_option linter.unusedVariables false
set_option maxRecDepth 20000
namespace Wd
end Wd
end Go.Proofs.YtkodnioheifalaaDoor

/- The document's own instructions: is a method right? -/
namespace Go.Proofs.YtkodnioheifalaaDoor
open Go.RowKit
set_option linter.unusedVariables false
set_option maxRecDepth 20000
namespace Wd
/-- a program in a box of its own -/
structure UnB (w : World) (q : Nat) (u : Value) (U : UnitA) (na ka ma oa : Option Addr) (nc kc mc oc : Nat) : Prop where
  e : u = .agg #[.slice na U.names.length nc, .slice ka U.classes.length kc, .slice ma U.methods.length mc, .slice oa U.objects.length oc, .int .i64 U.main]
  c0 : w.cell? ⟨q, 0, none⟩ = some (.slice na U.names.length nc)
  c1 : w.cell? ⟨q, 1, none⟩ = some (.slice ka U.classes.length kc)
  c2 : w.cell? ⟨q, 2, none⟩ = some (.slice ma U.methods.length mc)
  c3 : w.cell? ⟨q, 3, none⟩ = some (.slice oa U.objects.length oc)
  c4 : w.cell? ⟨q, 4, none⟩ = some (.int .i64 U.main)
  un : UnK w u U
theorem UnB.born {w : World} {U : UnitA} {na ka ma oa : Option Addr} {nc kc mc oc : Nat} (h : UnK w (.agg #[.slice na U.names.length nc, .slice ka U.classes.length kc, .slice ma U.methods.length mc, .slice oa U.objects.length oc, .int .i64 U.main]) U) : UnB (w.alloc (.cells #[.slice na U.names.length nc, .slice ka U.classes.length kc, .slice ma U.methods.length mc, .slice oa U.objects.length oc, .int .i64 U.main] 27)) w.heap.size (.agg #[.slice na U.names.length nc, .slice ka U.classes.length kc, .slice ma U.methods.length mc, .slice oa U.objects.length oc, .int .i64 U.main]) U na ka ma oa nc kc mc oc :=
  ⟨rfl, by simp, by simp, by simp, by simp, by simp, h.up ((Below.refl _ _).alloc (Nat.le_refl _) _)⟩
theorem UnB.up {w w1 : World} {q : Nat} {u : Value} {U : UnitA} {na ka ma oa : Option Addr} {nc kc mc oc : Nat} (h : UnB w q u U na ka ma oa nc kc mc oc) (b : Below w.heap.size w w1) : UnB w1 q u U na ka ma oa nc kc mc oc :=
  ⟨h.e, cell_up b h.c0, cell_up b h.c1, cell_up b h.c2, cell_up b h.c3, cell_up b h.c4, h.un.up b⟩
/-- all that follows the first tests -/
structure MSt (w0 wr : World) (q q2 : Nat) (v u : Value) (m : MethA) (U : UnitA) (la ca na ka ma oa : Option Addr) (lc cc nc kc mc oc : Nat) : Prop where
  b : MeB wr q v m la ca lc cc
  u : UnB wr q2 u U na ka ma oa nc kc mc oc
  bel : Below w0.heap.size w0 wr
theorem MSt.up {w0 w w1 : World} {q q2 : Nat} {v u : Value} {m : MethA} {U : UnitA} {la ca na ka ma oa : Option Addr} {lc cc nc kc mc oc : Nat} (h : MSt w0 w q q2 v u m U la ca na ka ma oa lc cc nc kc mc oc) (b : Below w.heap.size w w1) : MSt w0 w1 q q2 v u m U la ca na ka ma oa lc cc nc kc mc oc :=
  ⟨h.b.up b, h.u.up b, h.bel.trans (b.mono h.bel.size)⟩
end Wd
end Go.Proofs.YtkodnioheifalaaDoor

/- What the laws ask of the package's instructions. -/
namespace Go.Proofs.YtkodnioheifalaaDoor
open Go.RowKit
set_option linter.unusedVariables false
set_option maxRecDepth 20000
namespace Wd
/-- the bytes of instructions -/
def bytL (L : List (Int × Int)) : List Int := flat (L.map (fun x => (wr8 x.1, wr8 x.2)))
theorem range4 {w : World} {q : Nat} {a b c d : Value} (h0 : w.cell? ⟨q, 0, none⟩ = some a) (h1 : w.cell? ⟨q, 1, none⟩ = some b) (h2 : w.cell? ⟨q, 2, none⟩ = some c) (h3 : w.cell? ⟨q, 3, none⟩ = some d) : w.rangeAt q 0 [a, b, c, d] := by
  intro j v hj
  match j, hj with
  | 0, hj => simp at hj; subst hj; exact h0
  | 1, hj => simp at hj; subst hj; exact h1
  | 2, hj => simp at hj; subst hj; exact h2
  | 3, hj => simp at hj; subst hj; exact h3
  | j + 4, hj => simp at hj
theorem range5 {w : World} {q : Nat} {a b c d e : Value} (h0 : w.cell? ⟨q, 0, none⟩ = some a) (h1 : w.cell? ⟨q, 1, none⟩ = some b) (h2 : w.cell? ⟨q, 2, none⟩ = some c) (h3 : w.cell? ⟨q, 3, none⟩ = some d) (h4 : w.cell? ⟨q, 4, none⟩ = some e) : w.rangeAt q 0 [a, b, c, d, e] := by
  intro j v hj
  match j, hj with
  | 0, hj => simp at hj; subst hj; exact h0
  | 1, hj => simp at hj; subst hj; exact h1
  | 2, hj => simp at hj; subst hj; exact h2
  | 3, hj => simp at hj; subst hj; exact h3
  | 4, hj => simp at hj; subst hj; exact h4
  | j + 5, hj => simp at hj
theorem MeB.range {w : World} {q : Nat} {v : Value} {m : MethA} {la ca : Option Addr} {lc cc : Nat} (h : MeB w q v m la ca lc cc) : w.rangeAt q 0 [.int .i64 m.args, .int .i64 m.temps, .slice la m.lits.length lc, .slice ca m.code.length cc] := range4 h.c0 h.c1 h.c2 h.c3
theorem UnB.range {w : World} {q : Nat} {u : Value} {U : UnitA} {na ka ma oa : Option Addr} {nc kc mc oc : Nat} (h : UnB w q u U na ka ma oa nc kc mc oc) : w.rangeAt q 0 [.slice na U.names.length nc, .slice ka U.classes.length kc, .slice ma U.methods.length mc, .slice oa U.objects.length oc, .int .i64 U.main] := range5 h.c0 h.c1 h.c2 h.c3 h.c4
theorem rowM : ∃ d, Tryd.prog.underlying 37 = some d ∧ d.isRow = true := ⟨_, Tryd.underlying37, rfl⟩
/-- what same holds at its comparisons -/
structure SmS (w0 wr : World) (q q2 q7 : Nat) (v u : Value) (m : MethA) (U : UnitA) (la ca na ka ma oa : Option Addr) (lc cc nc kc mc oc : Nat) (x y : Int) : Prop where
  ms : MSt w0 wr q q2 v u m U la ca na ka ma oa lc cc nc kc mc oc
  x0 : wr.cell? ⟨q7, 0, none⟩ = some (.int .i64 x)
  x1 : wr.cell? ⟨q7, 1, none⟩ = some (.int .i64 y)
theorem SmS.up {w0 w w1 : World} {q q2 q7 : Nat} {v u : Value} {m : MethA} {U : UnitA} {la ca na ka ma oa : Option Addr} {lc cc nc kc mc oc : Nat} {x y : Int} (h : SmS w0 w q q2 q7 v u m U la ca na ka ma oa lc cc nc kc mc oc x y) (b : Below w.heap.size w w1) : SmS w0 w1 q q2 q7 v u m U la ca na ka ma oa lc cc nc kc mc oc x y :=
  ⟨h.ms.up b, cell_up b h.x0, cell_up b h.x1⟩
theorem SmS.born {w0 w : World} {q q2 : Nat} {v u : Value} {m : MethA} {U : UnitA} {la ca na ka ma oa : Option Addr} {lc cc nc kc mc oc : Nat} (h : MSt w0 w q q2 v u m U la ca na ka ma oa lc cc nc kc mc oc) (x y : Int) (T : TypeId) : SmS w0 (w.alloc (.cells #[.int .i64 x, .int .i64 y] T)) q q2 w.heap.size v u m U la ca na ka ma oa lc cc nc kc mc oc x y :=
  ⟨h.up ((Below.refl _ _).alloc (Nat.le_refl _) _), by simp, by simp⟩
end Wd
end Go.Proofs.YtkodnioheifalaaDoor

/- An append of a row of whatever is read, none too. -/
namespace Go.Proofs.YtkodnioheifalaaDoor
open Go.RowKit
set_option linter.unusedVariables false
set_option maxRecDepth 20000
namespace Wd
/-- what an append reads: cells of m elements -/
def Rd (w : World) (u : Value) (m : Nat) (news : List Value) : Prop := (∃ c, u = .slice none 0 c ∧ m = 0 ∧ news = []) ∨ ∃ ad c, u = .slice (some ad) m c ∧ ∀ j x, news[j]? = some x → w.cell? (ad.add j) = some x
theorem Rd.up {w w1 : World} {u : Value} {m : Nat} {news : List Value} (h : Rd w u m news) (b : Below w.heap.size w w1) : Rd w1 u m news := by
  rcases h with h | ⟨ad, c, e, hc⟩
  · exact Or.inl h
  · exact Or.inr ⟨ad, c, e, fun j x hx => cell_up b (hc j x hx)⟩
theorem run_app_none {P : Program} (w : World) (base : Nat) (t ty e : TypeId) (i : TypeInfo) (size n c : Nat) (ht : P.underlying t = some (.slice e)) (hi : P.info? e = some i) (v : Value) (xs : List Value) (hown : w.ownsRow base e size v n xs) :
    (Builtin.append_ #[t, t] ty #[v, .slice none 0 c]).run P w = .ok v w := by
  rcases hown.2 with ⟨rfl, rfl⟩ | ⟨g, cap, cur, rfl, _, _, hle, _⟩
  · simp [Builtin.append_, run_underlying ht, sizeOf, typeInfo, hi, Builtin.lenOf, Builtin.firstCells]
  · simp [Builtin.append_, run_underlying ht, sizeOf, typeInfo, hi, Builtin.lenOf, Builtin.firstCells, hle, storeCells]
theorem run_app_any {P : Program} (w : World) (base : Nat) (t ty e : TypeId) (i : TypeInfo) (z : Value) (size bytes : Nat) (ht : P.underlying t = some (.slice e)) (hi : P.info? e = some i) (hz : i.zero = some z)
    (hsize : i.size = size) (hby : i.bytes = bytes) (hzs : z.cells.size = size) (hsz : 0 < size)
    (v u : Value) (n m : Nat) (xs news : List Value) (hown : w.ownsRow base e size v n xs) (hu : Rd w u m news) (hl : news.length = m * size) (h1 : ∀ u ∈ news, u.oneCell' = true)
    (h63 : n + m ≤ maxLen) (hbytes : (n + m) * bytes ≤ 140737488355328) (hbase : base ≤ w.heap.size) :
    ∃ v' w', (Builtin.append_ #[t, t] ty #[v, u]).run P w = .ok v' w' ∧ w'.ownsRow base e size v' (n + m) (xs ++ news) ∧ w.grownBy w' v.ownBlock ∧ (v'.ownBlock = v.ownBlock ∨ v'.ownBlock = some w.heap.size) := by
  rcases hu with ⟨c, rfl, rfl, rfl⟩ | ⟨ad, c, rfl, hc⟩
  · exact ⟨v, w, run_app_none w base t ty e i size n c ht hi v xs hown, by simpa using hown, grown_refl _ _, Or.inl rfl⟩
  · obtain ⟨v', w', hr, h2, h3, _, h5⟩ := run_append_own_at (P := P) w base t ty e i z size bytes ht hi hz hsize hby hzs hsz v n xs hown ad m c news hl hc h1 h63 hbytes hbase
    exact ⟨v', w', hr, h2, h3, h5⟩
theorem wpList_app_any {P : Program} {w : World} {ops : Array Oper} {rest : List Oper} {o : Oper} {a : Act} {Q : Exit → Act → World → Prop} (hgd : o.guard = none) (s x : Operand) (t : TypeId)
    (ho : o.op = .call { callee := .builtin .append, args := #[s, x], argTypes := #[t, t] })
    (base : Nat) (e : TypeId) (i : TypeInfo) (z : Value) (size bytes : Nat) (ht : P.underlying t = some (.slice e)) (hi : P.info? e = some i) (hz : i.zero = some z)
    (hsize : i.size = size) (hby : i.bytes = bytes) (hzs : z.cells.size = size) (hsz : 0 < size)
    (v u : Value) (n m : Nat) (xs news : List Value) (hs : a.eval s = v) (hx : a.eval x = u) (hown : w.ownsRow base e size v n xs) (hu : Rd w u m news) (hl : news.length = m * size) (h1 : ∀ u ∈ news, u.oneCell' = true)
    (h63 : n + m ≤ maxLen) (hbytes : (n + m) * bytes ≤ 140737488355328) (hbase : base ≤ w.heap.size)
    (h : ∀ v' w', w'.ownsRow base e size v' (n + m) (xs ++ news) → w.grownBy w' v.ownBlock → (v'.ownBlock = v.ownBlock ∨ v'.ownBlock = some w.heap.size) → wpList P ops Q rest (a.put o.dst v') w') : wpList P ops Q (o :: rest) a w := by
  refine wpList_plain hgd fun K hK => ?_
  obtain ⟨v', w', hr, h2, h3, h5⟩ := run_app_any (P := P) w base t o.type e i z size bytes ht hi hz hsize hby hzs hsz v u n m xs news hown hu hl h1 h63 hbytes hbase
  unfold Oper.wp execOp
  simp only [ho, resolve, invoke, builtin, Sem.run_bind, Sem.run_pure, Result.andThen_ok, List.map_toArray, List.map_cons, List.map_nil, hs, hx, hr]
  exact hK _ _ (h v' w' h2 h3 h5)
theorem PrV.cells {w : World} {ad : Option Addr} {n cap : Nat} {L : List (Int × Int)} (h : PrV w (.slice ad n cap) L) : ∀ k u, (pr2 L)[k]? = some u → ∃ g off, ad = some ⟨g, off, none⟩ ∧ w.cell? ⟨g, off + k, none⟩ = some u := by
  intro k u hk
  obtain ⟨q, r, hr, rfl⟩ : ∃ q r, r < 2 ∧ k = q * 2 + r := ⟨k / 2, k % 2, by omega, by omega⟩
  have hq : q < L.length := by have := (List.getElem?_eq_some_iff.1 hk).1; rw [pr2_len] at this; omega
  obtain ⟨x, hx⟩ : ∃ x, L[q]? = some x := ⟨L[q], by simp⟩
  obtain ⟨_, _, g, off, e, c0, c1⟩ := h.at hx
  obtain ⟨p0, p1⟩ := pr2_get L q x hx
  refine ⟨g, off, e, ?_⟩
  rcases (show r = 0 ∨ r = 1 by omega) with rfl | rfl
  · rw [Nat.add_zero] at hk ⊢
    rw [p0] at hk; cases hk
    exact c0
  · rw [p1] at hk; cases hk
    exact c1
theorem PrV.nil (w : World) : PrV w (.slice none 0 0) [] := ⟨none, 0, rfl, by simp, by decide, fun k x hx => by simp at hx⟩
theorem ByV.nil (w : World) : ByV w (.slice none 0 0) [] := ⟨none, 0, rfl, by simp, by decide, fun k x hx => by simp at hx⟩
theorem MeV.of {w : World} {la ca : Option Addr} {nl lc nb cc : Nat} {a t : Int} {L : List (Int × Int)} {C : List Int} (hl : PrV w (.slice la nl lc) L) (hc : ByV w (.slice ca nb cc) C) (ha : In64 a) (ht : In64 t) : MeV w (.agg #[.int .i64 a, .int .i64 t, .slice la nl lc, .slice ca nb cc]) ⟨a, t, L, C⟩ := by
  obtain ⟨_, _, e, _⟩ := hl.ex
  obtain ⟨_, _, e2, _⟩ := hc.ex
  cases e; cases e2
  exact ⟨⟨la, lc, ca, cc, rfl, hl, hc⟩, ha, ht⟩
def U0 : UnitA := ⟨[], [], [], [], 0⟩
theorem UnK.zero (w : World) : UnK w (.agg #[.slice none 0 0, .slice none 0 0, .slice none 0 0, .slice none 0 0, .int .i64 0]) U0 :=
  ⟨none, 0, none, 0, none, 0, none, 0, rfl, ⟨⟨none, 0, rfl, by simp [U0], by decide, fun k x hx => by simp [U0] at hx⟩, ⟨none, 0, rfl, by simp [U0], by decide, fun k x hx => by simp [U0] at hx⟩, ⟨none, 0, rfl, by simp [U0], by decide, fun k x hx => by simp [U0] at hx⟩, ⟨none, 0, rfl, by simp [U0], by decide, fun k x hx => by simp [U0] at hx⟩⟩⟩
theorem MeV.zero (w : World) (a : Int) (ha : In64 a) : MeV w (.agg #[.int .i64 a, .int .i64 0, .slice none 0 0, .slice none 0 0]) ⟨a, 0, [], []⟩ := MeV.of (PrV.nil w) (ByV.nil w) ha (in64_of (by omega) (by omega))
theorem UnV.k {w : World} {nv cv mv ov : Value} {U : UnitA} (h : UnV w nv cv mv ov U) (hm : U.main = 6) : UnK w (.agg #[nv, cv, mv, ov, .int .i64 6]) U := by
  obtain ⟨na, nc, rfl, _⟩ := h.n.ex
  obtain ⟨ca, cc, rfl, _⟩ := h.c.ex
  obtain ⟨ma, mc, rfl, _⟩ := h.m.ex
  obtain ⟨oa, oc, rfl, _⟩ := h.o.ex
  exact ⟨⟨na, nc, ca, cc, ma, mc, oa, oc, by rw [hm], h⟩⟩
end Wd
end Go.Proofs.YtkodnioheifalaaDoor
