/- Programs as they lie in memory: names, methods, objects, whole programs. -/
import Derived.Test.YthlijmdohejheaaKU2
namespace Go.Proofs.Ythlijmdohejheaa
open Go.RowKit
set_option linter.unusedVariables false
set_option maxRecDepth 20000
namespace Wd
/-- texts -/
structure NmV (w : World) (v : Value) (L : List ByteArray) : Prop where
  mk ::
  ex : ∃ ad cap, v = .slice ad L.length cap ∧ L.length ≤ cap ∧ cap ≤ maxLen ∧ ∀ (k : Nat) x, L[k]? = some x → ∃ g off, ad = some ⟨g, off, none⟩ ∧ w.cell? ⟨g, off + k, none⟩ = some (.string x)
/-- bytes -/
structure ByV (w : World) (v : Value) (L : List Int) : Prop where
  mk ::
  ex : ∃ ad cap, v = .slice ad L.length cap ∧ L.length ≤ cap ∧ cap ≤ maxLen ∧ ∀ (k : Nat) x, L[k]? = some x → (0 ≤ x ∧ x ≤ 255) ∧ ∃ g off, ad = some ⟨g, off, none⟩ ∧ w.cell? ⟨g, off + k, none⟩ = some (.int .u8 x)
/-- methods -/
structure MtV (w : World) (v : Value) (L : List MethA) : Prop where
  mk ::
  ex : ∃ ad cap, v = .slice ad L.length cap ∧ L.length ≤ cap ∧ cap ≤ maxLen ∧ ∀ (k : Nat) x, L[k]? = some x → In64 x.args ∧ In64 x.temps ∧ ∃ g off lv cv, ad = some ⟨g, off, none⟩ ∧ w.cell? ⟨g, off + k * 4, none⟩ = some (.int .i64 x.args) ∧ w.cell? ⟨g, off + k * 4 + 1, none⟩ = some (.int .i64 x.temps) ∧ w.cell? ⟨g, off + k * 4 + 2, none⟩ = some lv ∧ w.cell? ⟨g, off + k * 4 + 3, none⟩ = some cv ∧ PrV w lv x.lits ∧ ByV w cv x.code
/-- objects -/
structure ObV (w : World) (v : Value) (L : List ObjA) : Prop where
  mk ::
  ex : ∃ ad cap, v = .slice ad L.length cap ∧ L.length ≤ cap ∧ cap ≤ maxLen ∧ ∀ (k : Nat) x, L[k]? = some x → In64 x.cls ∧ ∃ g off fv, ad = some ⟨g, off, none⟩ ∧ w.cell? ⟨g, off + k * 2, none⟩ = some (.int .i64 x.cls) ∧ w.cell? ⟨g, off + k * 2 + 1, none⟩ = some fv ∧ PrV w fv x.flds
/-- a program -/
structure UnitA where
  names : List ByteArray
  classes : List ClassA
  methods : List MethA
  objects : List ObjA
  main : Int
structure UnV (w : World) (nv cv mv ov : Value) (U : UnitA) : Prop where
  n : NmV w nv U.names
  c : ClV w cv U.classes
  m : MtV w mv U.methods
  o : ObV w ov U.objects
section
variable {w w1 : World} {v : Value}
theorem NmV.up {L : List ByteArray} (h : NmV w v L) (b : Below w.heap.size w w1) : NmV w1 v L := by
  obtain ⟨ad, cap, rfl, h1, h2, h3⟩ := h.ex
  refine ⟨ad, cap, rfl, h1, h2, fun k x hx => ?_⟩
  obtain ⟨g, off, e, c0⟩ := h3 k x hx
  exact ⟨g, off, e, cell_up b c0⟩
theorem ByV.up {L : List Int} (h : ByV w v L) (b : Below w.heap.size w w1) : ByV w1 v L := by
  obtain ⟨ad, cap, rfl, h1, h2, h3⟩ := h.ex
  refine ⟨ad, cap, rfl, h1, h2, fun k x hx => ?_⟩
  obtain ⟨i, g, off, e, c0⟩ := h3 k x hx
  exact ⟨i, g, off, e, cell_up b c0⟩
theorem MtV.up {L : List MethA} (h : MtV w v L) (b : Below w.heap.size w w1) : MtV w1 v L := by
  obtain ⟨ad, cap, rfl, h1, h2, h3⟩ := h.ex
  refine ⟨ad, cap, rfl, h1, h2, fun k x hx => ?_⟩
  obtain ⟨i1, i2, g, off, lv, cv, e, c0, c1, c2, c3, p, q⟩ := h3 k x hx
  exact ⟨i1, i2, g, off, lv, cv, e, cell_up b c0, cell_up b c1, cell_up b c2, cell_up b c3, p.up b, q.up b⟩
theorem ObV.up {L : List ObjA} (h : ObV w v L) (b : Below w.heap.size w w1) : ObV w1 v L := by
  obtain ⟨ad, cap, rfl, h1, h2, h3⟩ := h.ex
  refine ⟨ad, cap, rfl, h1, h2, fun k x hx => ?_⟩
  obtain ⟨i1, g, off, fv, e, c0, c1, p⟩ := h3 k x hx
  exact ⟨i1, g, off, fv, e, cell_up b c0, cell_up b c1, p.up b⟩
theorem UnV.up {nv cv mv ov : Value} {U : UnitA} (h : UnV w nv cv mv ov U) (b : Below w.heap.size w w1) : UnV w1 nv cv mv ov U := ⟨h.n.up b, h.c.up b, h.m.up b, h.o.up b⟩
end
theorem NmV.own {w : World} {g : Nat} {T : List ByteArray} {e : TypeId} (h : w.heap[g]? = some (.cells (strs T).toArray e (0, 0))) (hm : T.length ≤ maxLen) : NmV w (.slice (some ⟨g, 0, none⟩) T.length T.length) T :=
  ⟨_, T.length, rfl, Nat.le_refl _, hm, fun k x hx => ⟨g, 0, rfl, cell_in h (by simp [strs, hx])⟩⟩
theorem ByV.own {w : World} {base : Nat} {e : TypeId} {v : Value} {T : List Int} (h : w.ownsRow base e 1 v T.length (bys T)) (hb : ∀ x ∈ T, 0 ≤ x ∧ x ≤ 255) : ByV w v T := by
  rcases h.2 with ⟨rfl, h0⟩ | ⟨g, cap, cur, rfl, h1, h2, h3, h4, _⟩
  · have : T = [] := List.length_eq_zero_iff.1 h0
    subst this
    exact ⟨none, 0, rfl, by simp, by decide, fun k x hx => by simp at hx⟩
  · refine ⟨_, cap, rfl, h3, h4, fun k x hx => ⟨hb x (List.mem_of_getElem? hx), g, 0, rfl, ?_⟩⟩
    have hk := (List.getElem?_eq_some_iff.1 hx).1
    rw [Nat.zero_add]
    exact (h.cellAt k (by omega)).trans (by simp [bys, hx])
theorem MtV.own {w : World} {base : Nat} {e : TypeId} {v : Value} {T : List (MethA × Value × Value)} (h : w.ownsRow base e 4 v T.length (mt4s T)) (hb : ∀ x ∈ T, In64 x.1.args ∧ In64 x.1.temps ∧ PrV w x.2.1 x.1.lits ∧ ByV w x.2.2 x.1.code) : MtV w v (T.map (·.1)) := by
  rcases h.2 with ⟨rfl, h0⟩ | ⟨g, cap, cur, rfl, h1, h2, h3, h4, _⟩
  · have : T = [] := List.length_eq_zero_iff.1 h0
    subst this
    exact ⟨none, 0, rfl, by simp, by decide, fun k x hx => by simp at hx⟩
  · refine ⟨some ⟨g, 0, none⟩, cap, by simp, by simpa using h3, h4, fun k c hc => ?_⟩
    obtain ⟨x, hx, rfl⟩ : ∃ x, T[k]? = some x ∧ x.1 = c := by simpa using hc
    have hk := (List.getElem?_eq_some_iff.1 hx).1
    obtain ⟨c0, c1, c2, c3⟩ := mt4s_get T k x hx
    obtain ⟨b0, b1, b2, b3⟩ := hb x (List.mem_of_getElem? hx)
    refine ⟨b0, b1, g, 0, x.2.1, x.2.2, rfl, ?_, ?_, ?_, ?_, b2, b3⟩
    · rw [Nat.zero_add]; exact (h.cellAt (k * 4) (by omega)).trans c0
    · rw [Nat.zero_add]; exact (h.cellAt (k * 4 + 1) (by omega)).trans c1
    · rw [Nat.zero_add]; exact (h.cellAt (k * 4 + 2) (by omega)).trans c2
    · rw [Nat.zero_add]; exact (h.cellAt (k * 4 + 3) (by omega)).trans c3
theorem ObV.own {w : World} {base : Nat} {e : TypeId} {v : Value} {T : List (ObjA × Value)} (h : w.ownsRow base e 2 v T.length (ob2s T)) (hb : ∀ x ∈ T, In64 x.1.cls ∧ PrV w x.2 x.1.flds) : ObV w v (T.map (·.1)) := by
  rcases h.2 with ⟨rfl, h0⟩ | ⟨g, cap, cur, rfl, h1, h2, h3, h4, _⟩
  · have : T = [] := List.length_eq_zero_iff.1 h0
    subst this
    exact ⟨none, 0, rfl, by simp, by decide, fun k x hx => by simp at hx⟩
  · refine ⟨some ⟨g, 0, none⟩, cap, by simp, by simpa using h3, h4, fun k c hc => ?_⟩
    obtain ⟨x, hx, rfl⟩ : ∃ x, T[k]? = some x ∧ x.1 = c := by simpa using hc
    have hk := (List.getElem?_eq_some_iff.1 hx).1
    obtain ⟨c0, c1⟩ := ob2s_get T k x hx
    obtain ⟨b0, b1⟩ := hb x (List.mem_of_getElem? hx)
    refine ⟨b0, g, 0, x.2, rfl, ?_, ?_, b1⟩
    · rw [Nat.zero_add]; exact (h.cellAt (k * 2) (by omega)).trans c0
    · rw [Nat.zero_add]; exact (h.cellAt (k * 2 + 1) (by omega)).trans c1
/-- what a tape's program is -/
structure TapeU (U : UnitA) : Prop where
  names : U.names = nameL
  cl0 : 3 ≤ U.classes.length
  cl1 : U.classes.length ≤ 5
  cls : ∀ (k : Nat) c, U.classes[k]? = some c → clsOk U.classes k c ∧ (k = 0 → c.binds = []) ∧ bndSub 6 c.binds
  ml : U.methods.length = 9
  mts : ∀ (k : Nat) x, U.methods[k]? = some x → methOk (U.classes.length : Int) k x
  ob0 : 1 ≤ U.objects.length
  ob1 : U.objects.length ≤ 5
  obs : ∀ (k : Nat) x, U.objects[k]? = some x → objOk U.classes U.objects.length k x
  main : U.main = 6
theorem wr8_bd (x : Int) : 0 ≤ wr8 x ∧ wr8 x ≤ 255 := by
  unfold wr8
  have h1 := Int.emod_nonneg x (show (256 : Int) ≠ 0 by decide)
  have h2 := Int.emod_lt_of_pos x (show (0 : Int) < 256 by decide)
  have e : IntKind.u8.wrap x = x % 256 := by
    unfold IntKind.wrap
    rfl
  rw [e]; omega
end Wd
end Go.Proofs.Ythlijmdohejheaa
