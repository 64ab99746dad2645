/- Texts joined: KX, OPure, ORef, OFet, OLit, UNO, UNF, FPure, UNL, UNS, UNT, UNU, USA0, OInst, OMeth, USU. -/
import Derived.Test.YtgfnelhbdhbklaaGreatJ2
import Derived.Deep.DeepCutAuto
import Derived.Deep.RegionHeld3
import Derived.Deep.RegionWith
import Derived.Laws.BitsAllLaws
import Derived.Laws.BitsLemmas
import Derived.RowKit
import Derived.LoopN
import Derived.StillTailTactics
import Derived.Laws.IdiomStrings
import Derived.BigRegion
/- A tape's program, whole: what is read of it. -/
namespace Go.Proofs.YtgfnelhbdhbklaaGreat
open Go.RowKit
set_option linter.unusedVariables false
set_option maxRecDepth 20000
namespace Wd
def by2 (y : Int × Int) : Prop := (0 ≤ y.1 ∧ y.1 ≤ 255) ∧ (0 ≤ y.2 ∧ y.2 ≤ 255)
theorem by2_wr8 (a b : Int) : by2 (wr8 a, wr8 b) := ⟨wr8_bd a, wr8_bd b⟩
theorem pieceOk_by {l : List (Int × Int)} (h : pieceOk l) : ∀ y ∈ l, by2 y := by
  unfold pieceOk at h
  rcases h with h | h | h | h | h | h | h | h | h | h | h | h | h | h | h | h | h | h
  · obtain ⟨_, _, rfl⟩ := h
    intro y hy
    simp only [List.mem_cons, List.not_mem_nil, or_false] at hy
    rcases hy with rfl | rfl | rfl <;> exact by2_wr8 _ _
  · obtain ⟨_, _, rfl⟩ := h
    intro y hy
    simp only [List.mem_cons, List.not_mem_nil, or_false] at hy
    rcases hy with rfl | rfl | rfl <;> exact by2_wr8 _ _
  · obtain ⟨_, _, _, _, rfl⟩ := h
    intro y hy
    simp only [List.mem_cons, List.not_mem_nil, or_false] at hy
    rcases hy with rfl | rfl | rfl | rfl | rfl <;> exact by2_wr8 _ _
  · obtain ⟨_, _, _, _, _, _, rfl⟩ := h
    intro y hy
    simp only [List.mem_cons, List.not_mem_nil, or_false] at hy
    rcases hy with rfl | rfl | rfl | rfl | rfl <;> exact by2_wr8 _ _
  · obtain ⟨_, _, _, _, rfl⟩ := h
    intro y hy
    simp only [List.mem_cons, List.not_mem_nil, or_false] at hy
    rcases hy with rfl | rfl | rfl <;> exact by2_wr8 _ _
  · obtain ⟨_, _, _, _, rfl⟩ := h
    intro y hy
    simp only [List.mem_cons, List.not_mem_nil, or_false] at hy
    rcases hy with rfl | rfl | rfl | rfl <;> exact by2_wr8 _ _
  · obtain ⟨_, _, _, _, _, _, _, _, rfl⟩ := h
    intro y hy
    simp only [List.mem_cons, List.not_mem_nil, or_false] at hy
    rcases hy with rfl | rfl | rfl | rfl | rfl <;> exact by2_wr8 _ _
  · obtain ⟨_, _, _, _, rfl⟩ := h
    intro y hy
    simp only [List.mem_cons, List.not_mem_nil, or_false] at hy
    rcases hy with rfl | rfl | rfl | rfl <;> exact by2_wr8 _ _
  · cases h
    intro y hy
    simp only [List.mem_cons, List.not_mem_nil, or_false] at hy
    rcases hy with rfl | rfl | rfl <;> exact by2_wr8 _ _
  · obtain ⟨_, _, rfl⟩ := h
    intro y hy
    simp only [List.mem_cons, List.not_mem_nil, or_false] at hy
    rcases hy with rfl | rfl | rfl | rfl <;> exact by2_wr8 _ _
  · obtain ⟨_, _, rfl⟩ := h
    intro y hy
    simp only [List.mem_cons, List.not_mem_nil, or_false] at hy
    rcases hy with rfl | rfl | rfl | rfl <;> exact by2_wr8 _ _
  · obtain ⟨_, _, _, _, rfl⟩ := h
    intro y hy
    simp only [List.mem_cons, List.not_mem_nil, or_false] at hy
    rcases hy with rfl | rfl | rfl <;> exact by2_wr8 _ _
  · obtain ⟨_, _, rfl⟩ := h
    intro y hy
    simp only [List.mem_cons, List.not_mem_nil, or_false] at hy
    rcases hy with rfl | rfl <;> exact by2_wr8 _ _
  · obtain ⟨_, _, _, _, rfl⟩ := h
    intro y hy
    simp only [List.mem_cons, List.not_mem_nil, or_false] at hy
    rcases hy with rfl | rfl | rfl | rfl <;> exact by2_wr8 _ _
  · obtain ⟨_, _, rfl⟩ := h
    intro y hy
    simp only [List.mem_cons, List.not_mem_nil, or_false] at hy
    rcases hy with rfl | rfl | rfl | rfl | rfl <;> exact by2_wr8 _ _
  · obtain ⟨_, _, rfl⟩ := h
    intro y hy
    simp only [List.mem_cons, List.not_mem_nil, or_false] at hy
    rcases hy with rfl | rfl | rfl | rfl <;> exact by2_wr8 _ _
  · obtain ⟨_, _, _, _, rfl⟩ := h
    intro y hy
    simp only [List.mem_cons, List.not_mem_nil, or_false] at hy
    rcases hy with rfl | rfl | rfl <;> exact by2_wr8 _ _
  · obtain ⟨_, _, _, _, rfl⟩ := h
    intro y hy
    simp only [List.mem_cons, List.not_mem_nil, or_false] at hy
    rcases hy with rfl | rfl <;> exact by2_wr8 _ _
theorem codeOk_by {bl : Bool} {I : List (Int × Int)} (h : codeOk bl I) : ∀ y ∈ I, by2 y := by
  obtain ⟨P, S, q, r, l, rfl, _, _, hP, hS, _⟩ := h.ex
  intro y hy
  rcases List.mem_append.1 hy with hy | hy
  · rcases List.mem_append.1 hy with hy | hy
    · obtain ⟨x, hx, hyx⟩ := List.mem_flatten.1 hy
      exact pieceOk_by (hP x hx) y hyx
    · rcases hS with rfl | rfl
      · cases hy
      · simp only [List.mem_cons, List.not_mem_nil, or_false] at hy
        rcases hy with rfl | rfl <;> exact by2_wr8 _ _
  · simp only [List.mem_cons, List.not_mem_nil, or_false] at hy
    rcases hy with rfl | rfl <;> exact by2_wr8 _ _
theorem flat_by {I : List (Int × Int)} (h : ∀ y ∈ I, by2 y) : ∀ x ∈ flat I, 0 ≤ x ∧ x ≤ 255 := by
  intro x hx
  obtain ⟨y, hy, hxy⟩ := List.mem_flatMap.1 hx
  simp only [List.mem_cons, List.not_mem_nil, or_false] at hxy
  rcases hxy with rfl | rfl
  · exact (h y hy).1
  · exact (h y hy).2
theorem in64_of {x : Int} (h0 : -1000000000000 ≤ x) (h1 : x ≤ 1000000000000) : In64 x := ⟨by omega, by omega⟩
theorem bnd_in {k : Nat} {b : List (Int × Int)} (h : bndSub k b) (hk : k ≤ 1000) : ∀ x ∈ b, In64 x.1 ∧ In64 x.2 := by
  obtain ⟨S, _, h2, rfl⟩ := h
  intro x hx
  obtain ⟨s, hs, rfl⟩ := List.mem_map.1 hx
  have := h2 s hs
  exact ⟨in64_of (by simp only; omega) (by simp only; omega), in64_of (by simp only; omega) (by simp only; omega)⟩
theorem lits_in {c : Int} {X : List (Int × Int)} (h : litsOk c X) (hc : c ≤ 1000) : ∀ x ∈ X, In64 x.1 ∧ In64 x.2 := by
  obtain ⟨A, B, rfl, _, _, hA, hB⟩ := h
  intro x hx
  rcases List.mem_append.1 hx with hx | hx
  · rcases List.mem_append.1 hx with hx | hx
    · rcases List.mem_append.1 hx with hx | hx
      · obtain ⟨e, h⟩ := hA x hx
        exact ⟨in64_of (by omega) (by omega), in64_of (by omega) (by omega)⟩
      · obtain ⟨s, hs, rfl⟩ := List.mem_map.1 hx
        have := List.mem_range.1 hs
        exact ⟨in64_of (by simp only; omega) (by simp only; omega), in64_of (by simp only; omega) (by simp only; omega)⟩
    · obtain ⟨e, h0, h1⟩ := hB x hx
      exact ⟨in64_of (by omega) (by omega), in64_of (by omega) (by omega)⟩
  · simp only [List.mem_cons, List.not_mem_nil, or_false] at hx
    rcases hx with rfl | rfl <;> exact ⟨in64_of (by simp only; omega) (by simp only; omega), in64_of (by simp only; omega) (by simp only; omega)⟩
theorem val_in {N : Nat} {v : Int × Int} (h : valOk N v) (hN : N ≤ 1000) : In64 v.1 ∧ In64 v.2 := by
  rcases h with rfl | rfl | rfl | ⟨e, h0, h1⟩ | ⟨e, h0, h1⟩
  · exact ⟨in64_of (by simp only; omega) (by simp only; omega), in64_of (by simp only; omega) (by simp only; omega)⟩
  · exact ⟨in64_of (by simp only; omega) (by simp only; omega), in64_of (by simp only; omega) (by simp only; omega)⟩
  · exact ⟨in64_of (by simp only; omega) (by simp only; omega), in64_of (by simp only; omega) (by simp only; omega)⟩
  · exact ⟨in64_of (by omega) (by omega), in64_of (by omega) (by omega)⟩
  · exact ⟨in64_of (by omega) (by omega), in64_of (by omega) (by omega)⟩
theorem cls_in {L : List ClassA} {k : Nat} {c : ClassA} (h : clsOk L k c) (hk : k ≤ 1000) : In64 c.super ∧ In64 c.fields := by
  rcases (show k = 0 ∨ k = 1 ∨ 2 ≤ k by omega) with e | e | e
  · obtain ⟨_, a, b⟩ := h.z e
    rw [a, b]
    exact ⟨in64_of (by omega) (by omega), in64_of (by omega) (by omega)⟩
  · obtain ⟨_, a, b⟩ := h.o e
    rw [a, b]
    exact ⟨in64_of (by omega) (by omega), in64_of (by omega) (by omega)⟩
  · obtain ⟨a, b⟩ := h.fld e
    refine ⟨?_, in64_of (by omega) (by omega)⟩
    rcases h.sup e with e1 | ⟨e1, e2, _⟩
    · rw [e1]; exact in64_of (by omega) (by omega)
    · exact in64_of (by omega) (by omega)
theorem meth_in {c : Int} {j : Nat} {x : MethA} (h : methOk c j x) : In64 x.args ∧ In64 x.temps := by
  refine ⟨?_, by rw [h.temps]; exact in64_of (by omega) (by omega)⟩
  rw [h.args]
  split
  · have := argOf_le j; exact in64_of (by omega) (by omega)
  · split <;> exact in64_of (by omega) (by omega)
theorem obj_in {L : List ClassA} {N j : Nat} {x : ObjA} (h : objOk L N j x) (hL : L.length ≤ 1000) : In64 x.cls := by
  rcases h.cls with ⟨h2, d, hd, _⟩ | ⟨_, e, _⟩
  · have := (List.getElem?_eq_some_iff.1 hd).1
    exact in64_of (by omega) (by omega)
  · rw [e]; exact in64_of (by omega) (by omega)
/-- five cells are written -/
abbrev set5 (w : World) (q : Nat) (v0 v1 v2 v3 v4 : Value) : World := (set4 w q v0 v1 v2 v3).setCell ⟨q, 4, none⟩ v4
theorem cell_far5 {w : World} {q i j : Nat} {v : Value} (hij : i ≠ j) : (w.setCell ⟨q, i, none⟩ v).cell? ⟨q, j, none⟩ = w.cell? ⟨q, j, none⟩ := World.cell?_setCell_other _ _ _ _ (by intro e; injection e with _ h2; omega)
theorem set4_five {w : World} {q : Nat} {v0 v1 v2 v3 u4 : Value} (c4 : w.cell? ⟨q, 4, none⟩ = some u4) : (set4 w q v0 v1 v2 v3).cell? ⟨q, 4, none⟩ = some u4 :=
  (cell_far5 (by decide)).trans ((cell_far5 (by decide)).trans ((cell_far5 (by decide)).trans ((cell_far5 (by decide)).trans c4)))
theorem set1_at {w : World} {q : Nat} {v0 v1 v2 v3 v4 u4 : Value} (a0 : w.cell? ⟨q, 0, none⟩ = some v0) (a1 : w.cell? ⟨q, 1, none⟩ = some v1) (a2 : w.cell? ⟨q, 2, none⟩ = some v2) (a3 : w.cell? ⟨q, 3, none⟩ = some v3) (a4 : w.cell? ⟨q, 4, none⟩ = some u4) : (w.setCell ⟨q, 4, none⟩ v4).cell? ⟨q, 0, none⟩ = some v0 ∧ (w.setCell ⟨q, 4, none⟩ v4).cell? ⟨q, 1, none⟩ = some v1 ∧ (w.setCell ⟨q, 4, none⟩ v4).cell? ⟨q, 2, none⟩ = some v2 ∧ (w.setCell ⟨q, 4, none⟩ v4).cell? ⟨q, 3, none⟩ = some v3 ∧ (w.setCell ⟨q, 4, none⟩ v4).cell? ⟨q, 4, none⟩ = some v4 :=
  ⟨(cell_far5 (by decide)).trans a0, (cell_far5 (by decide)).trans a1, (cell_far5 (by decide)).trans a2, (cell_far5 (by decide)).trans a3, World.cell?_setCell_same _ _ _ a4⟩
theorem set5_at {w : World} {q : Nat} {v0 v1 v2 v3 v4 u0 u1 u2 u3 u4 : Value} (c0 : w.cell? ⟨q, 0, none⟩ = some u0) (c1 : w.cell? ⟨q, 1, none⟩ = some u1) (c2 : w.cell? ⟨q, 2, none⟩ = some u2) (c3 : w.cell? ⟨q, 3, none⟩ = some u3) (c4 : w.cell? ⟨q, 4, none⟩ = some u4) : (set5 w q v0 v1 v2 v3 v4).cell? ⟨q, 0, none⟩ = some v0 ∧ (set5 w q v0 v1 v2 v3 v4).cell? ⟨q, 1, none⟩ = some v1 ∧ (set5 w q v0 v1 v2 v3 v4).cell? ⟨q, 2, none⟩ = some v2 ∧ (set5 w q v0 v1 v2 v3 v4).cell? ⟨q, 3, none⟩ = some v3 ∧ (set5 w q v0 v1 v2 v3 v4).cell? ⟨q, 4, none⟩ = some v4 := by
  obtain ⟨a0, a1, a2, a3⟩ := set4_at (v0 := v0) (v1 := v1) (v2 := v2) (v3 := v3) c0 c1 c2 c3
  exact set1_at a0 a1 a2 a3 (set4_five c4)
theorem set5_cg (w : World) (q : Nat) (v0 v1 v2 v3 v4 : Value) : Cg (fun k => k = q) w (set5 w q v0 v1 v2 v3 v4) :=
  (((((Cg.refl (fun k => k = q) w).set ⟨q, 0, none⟩ rfl v0).set ⟨q, 1, none⟩ rfl v1).set ⟨q, 2, none⟩ rfl v2).set ⟨q, 3, none⟩ rfl v3).set ⟨q, 4, none⟩ rfl v4
/-- a program that lies in blocks from s on; the rows of its methods -/
def UnF (s : Nat) (w : World) (nv cv mv ov : Value) (U : UnitA) : Prop := ∃ M : List (MethA × Value × Value), M.map (·.1) = U.methods ∧ ∀ (G : Nat → Prop) (w2 : World), Cg G w w2 → (∀ k, G k → k < s) → UnV w2 nv cv mv ov U ∧ ∃ g cap, mv = .slice (some ⟨g, 0, none⟩) U.methods.length cap ∧ ∀ (k : Nat) x, M[k]? = some x → w2.cell? ⟨g, k * 4, none⟩ = some (.int .i64 x.1.args) ∧ w2.cell? ⟨g, k * 4 + 1, none⟩ = some (.int .i64 x.1.temps) ∧ w2.cell? ⟨g, k * 4 + 2, none⟩ = some x.2.1 ∧ w2.cell? ⟨g, k * 4 + 3, none⟩ = some x.2.2 ∧ In64 x.1.args ∧ In64 x.1.temps ∧ PrV w2 x.2.1 x.1.lits ∧ ByV w2 x.2.2 x.1.code
theorem mt_own {w : World} {base : Nat} {e : TypeId} {v : Value} {T : List (MethA × Value × Value)} (h : w.ownsRow base e 4 v T.length (mt4s T)) (h0 : 0 < T.length) : ∃ g cap, v = .slice (some ⟨g, 0, none⟩) T.length cap ∧ ∀ (k : Nat) x, T[k]? = some x → w.cell? ⟨g, k * 4, none⟩ = some (.int .i64 x.1.args) ∧ w.cell? ⟨g, k * 4 + 1, none⟩ = some (.int .i64 x.1.temps) ∧ w.cell? ⟨g, k * 4 + 2, none⟩ = some x.2.1 ∧ w.cell? ⟨g, k * 4 + 3, none⟩ = some x.2.2 := by
  rcases h.2 with ⟨rfl, hz⟩ | ⟨g, cap, cur, rfl, h1, h2, h3, h4, _⟩
  · omega
  · refine ⟨g, cap, rfl, fun k x hx => ?_⟩
    have hk := (List.getElem?_eq_some_iff.1 hx).1
    obtain ⟨c0, c1, c2, c3⟩ := mt4s_get T k x hx
    exact ⟨(h.cellAt (k * 4) (by omega)).trans c0, (h.cellAt (k * 4 + 1) (by omega)).trans c1, (h.cellAt (k * 4 + 2) (by omega)).trans c2, (h.cellAt (k * 4 + 3) (by omega)).trans c3⟩
theorem P4.done {w wB wr : World} {p n B Bn g cp m H H3 H4 N : Nat} {ad : Option Addr} {mv ov : Value} {T : List (ClassA × Value)} {M : List (MethA × Value × Value)} {O : List (ObjA × Value)} (h : P4 w wB wr p n ad B (.slice (some ⟨Bn, 0, none⟩) 6 6) g cp m T H mv M H3 H4 N ov N O) (hm : 3 ≤ m ∧ m ≤ 5) (hN1 : 1 ≤ N) (hN5 : N ≤ 5) (e1 : wB.heap[Bn]? = some (.cells (strs nameL).toArray 9 (0, 0))) (hb : w.heap.size + 1 = Bn) (hB : Bn + 1 = B) {w9 : World} (hc : Cg (fun k => k = w.heap.size) wr w9) : ∃ U, UnV w9 (.slice (some ⟨Bn, 0, none⟩) 6 6) (.slice (some ⟨g, 0, none⟩) m cp) mv ov U ∧ TapeU U ∧ Tp w9 p ad n ∧ Cg (fun k => k = p) w w9 ∧ UnF (w.heap.size + 1) w9 (.slice (some ⟨Bn, 0, none⟩) 6 6) (.slice (some ⟨g, 0, none⟩) m cp) mv ov U := by
  have hks := h.un.ks.other hc (fun k hk => by omega)
  have hpB := h.un.ks.p0
  have hrow : ∀ {b sz len : Nat} {e : TypeId} {v : Value} {xs : List Value}, wr.ownsRow b e sz v len xs → w.heap.size < b → w9.ownsRow b e sz v len xs := fun ho hlt => row_cg ho hc (fun k hk hf => by have := (ho.lt k hk).1; omega)
  have hBH := h.fin.BH
  have hHH := h.fin.HH
  have hHB := h.HB
  have hlT := h.fin.len
  have hlM := h.fin.mr.len
  have hlO := h.len
  have hnm : w9.heap[Bn]? = some (.cells (strs nameL).toArray 9 (0, 0)) := by
    have hsz := h.un.cg.size
    have hbs := h.un.bs
    exact (hc.block Bn (by omega) (by omega)).trans ((h.un.cg.block Bn (by omega) (by omega)).trans e1)
  have hnm2 : ∀ (G : Nat → Prop) (w2 : World), Cg G w9 w2 → (∀ k, G k → k < w.heap.size + 1) → UnV w2 (.slice (some ⟨Bn, 0, none⟩) 6 6) (.slice (some ⟨g, 0, none⟩) m cp) mv ov ⟨nameL, T.map (·.1), M.map (·.1), O.map (·.1), 6⟩ := by
    intro G w2 hG hlt2
    have hrow2 : ∀ {b sz len : Nat} {e : TypeId} {v : Value} {xs : List Value}, wr.ownsRow b e sz v len xs → w.heap.size < b → w2.ownsRow b e sz v len xs := fun ho hlt => row_cg (hrow ho hlt) hG (fun k hk hf => by have := (ho.lt k hk).1; have := hlt2 k hf; omega)
    have hB9 := (Array.getElem?_eq_some_iff.1 hnm).1
    have hnmw : w2.heap[Bn]? = some (.cells (strs nameL).toArray 9 (0, 0)) := (hG.block Bn hB9 (fun hf => by have := hlt2 _ hf; omega)).trans hnm
    refine ⟨NmV.own hnmw (by decide), ?_, ?_, ?_⟩
    · have hr := hrow2 h.fin.row (by omega)
      rw [hlT] at hr ⊢
      refine ClV.own hr (fun x hx => ?_)
      obtain ⟨k, hk⟩ := List.getElem?_of_mem hx
      have hkl := (List.getElem?_eq_some_iff.1 hk).1
      obtain ⟨i1, i2⟩ := cls_in (h.fin.ok k x hk) (by omega)
      exact ⟨i1, i2, PrV.own (hrow2 (h.fin.bnd k x hk) (by omega)) (bnd_in (h.fin.don k x hk).2 (by omega))⟩
    · have hr := hrow2 h.fin.mr.row (by omega)
      rw [hlM] at hr
      refine MtV.own hr (fun x hx => ?_)
      obtain ⟨k, hk⟩ := List.getElem?_of_mem hx
      have ho := h.fin.mr.ok k x hk
      obtain ⟨i1, i2⟩ := meth_in ho
      have hs := h.fin.mr.sub x hx
      obtain ⟨I, hI, eI⟩ := ho.code
      exact ⟨i1, i2, PrV.own (hrow2 hs.l (by omega)) (lits_in ho.lits (by omega)), ByV.own (hrow2 hs.c (by omega)) (by rw [eI]; exact flat_by (codeOk_by hI))⟩
    · have hr := hrow2 h.row (by omega)
      rw [hlO] at hr
      refine ObV.own hr (fun x hx => ?_)
      obtain ⟨k, hk⟩ := List.getElem?_of_mem hx
      have ho := h.ok k x hk
      exact ⟨obj_in ho (by simp; omega), PrV.own (hrow2 (h.sub x hx) (by omega)) (fun v hv => val_in (ho.flds v hv) (by omega))⟩
  refine ⟨_, hnm2 (fun _ => False) w9 (Cg.refl _ _) (fun _ e => e.elim), ⟨rfl, by simp; omega, by simp; omega, ?_, by simp; omega, ?_, by simp; omega, by simp; omega, ?_, rfl⟩, hks.tp, hks.cg, M, rfl, fun G w2 hG hlt2 => ⟨hnm2 G w2 hG hlt2, ?_⟩⟩
  · intro k c hc'
    obtain ⟨x, hx, rfl⟩ : ∃ x, T[k]? = some x ∧ x.1 = c := by simpa using hc'
    obtain ⟨a, b⟩ := h.fin.don k x hx
    exact ⟨h.fin.ok k x hx, a, b⟩
  · intro k c hc'
    obtain ⟨x, hx, rfl⟩ : ∃ x, M[k]? = some x ∧ x.1 = c := by simpa using hc'
    have := h.fin.mr.ok k x hx
    rw [hlT] at this
    simpa using this
  · intro k c hc'
    obtain ⟨x, hx, rfl⟩ : ∃ x, O[k]? = some x ∧ x.1 = c := by simpa using hc'
    have := h.ok k x hx
    simpa [← hlO] using this
  · have hrow2 : ∀ {b sz len : Nat} {e : TypeId} {v : Value} {xs : List Value}, wr.ownsRow b e sz v len xs → w.heap.size < b → w2.ownsRow b e sz v len xs := fun ho hlt => row_cg (hrow ho hlt) hG (fun k hk hf => by have := (ho.lt k hk).1; have := hlt2 k hf; omega)
    have hr := hrow2 h.fin.mr.row (by omega)
    rw [hlM] at hr
    obtain ⟨g', cap', e', hcl⟩ := mt_own hr (by omega)
    refine ⟨g', cap', by rw [e']; simp, fun k x hx => ?_⟩
    obtain ⟨c0, c1, c2, c3⟩ := hcl k x hx
    have ho := h.fin.mr.ok k x hx
    obtain ⟨i1, i2⟩ := meth_in ho
    have hs := h.fin.mr.sub x (List.mem_of_getElem? hx)
    obtain ⟨I, hI, eI⟩ := ho.code
    exact ⟨c0, c1, c2, c3, i1, i2, PrV.own (hrow2 hs.l (by omega)) (lits_in ho.lits (by omega)), ByV.own (hrow2 hs.c (by omega)) (by rw [eI]; exact flat_by (codeOk_by hI))⟩
end Wd
end Go.Proofs.YtgfnelhbdhbklaaGreat

/- Methods, plainly: instructions, whether they are right. -/
namespace Go.Proofs.YtgfnelhbdhbklaaGreat
open Go.RowKit
set_option linter.unusedVariables false
set_option maxRecDepth 20000
namespace Wd
/-- a method, by value -/
structure MeV (w : World) (v : Value) (m : MethA) : Prop where
  mk ::
  ex : ∃ la lc ca cc, v = .agg #[.int .i64 m.args, .int .i64 m.temps, .slice la m.lits.length lc, .slice ca m.code.length cc] ∧ PrV w (.slice la m.lits.length lc) m.lits ∧ ByV w (.slice ca m.code.length cc) m.code
  a64 : In64 m.args
  t64 : In64 m.temps
theorem PrV.le {w : World} {v : Value} {L : List (Int × Int)} (h : PrV w v L) : L.length ≤ maxLen := by
  obtain ⟨ad, cap, _, h1, h2, _⟩ := h.ex; omega
theorem ByV.form {w : World} {v : Value} {L : List Int} (h : ByV w v L) : ∃ ad cap, v = .slice ad L.length cap ∧ L.length ≤ cap ∧ cap ≤ maxLen := by
  obtain ⟨ad, cap, e, h1, h2, h3⟩ := h.ex
  exact ⟨ad, cap, e, h1, h2⟩
theorem ByV.le {w : World} {v : Value} {L : List Int} (h : ByV w v L) : L.length ≤ maxLen := by
  obtain ⟨ad, cap, _, h1, h2⟩ := h.form; omega
theorem ByV.at {w : World} {ad : Option Addr} {n cap : Nat} {L : List Int} (h : ByV w (.slice ad n cap) L) {k : Nat} {x : Int} (hk : L[k]? = some x) : (0 ≤ x ∧ x ≤ 255) ∧ ∃ g off, ad = some ⟨g, off, none⟩ ∧ w.cell? ⟨g, off + k, none⟩ = some (.int .u8 x) := by
  obtain ⟨ad', cap', e, h1, h2, h3⟩ := h.ex
  cases e
  exact h3 k x hk
theorem ByV.take {w : World} {ad : Option Addr} {n cap : Nat} {L : List Int} (h : ByV w (.slice ad n cap) L) (k : Nat) (hk : k ≤ L.length) : ByV w (.slice ad k cap) (L.take k) := by
  obtain ⟨ad', cap', e, h1, h2, h3⟩ := h.ex
  cases e
  have hl : (L.take k).length = k := by rw [List.length_take]; omega
  refine ⟨ad, cap, by rw [hl], by omega, h2, fun j x hx => h3 j x ?_⟩
  rw [List.getElem?_take] at hx
  split at hx
  · exact hx
  · cases hx
theorem MeV.up {w w1 : World} {v : Value} {m : MethA} (h : MeV w v m) (b : Below w.heap.size w w1) : MeV w1 v m := by
  obtain ⟨la, lc, ca, cc, e, h1, h2⟩ := h.ex
  exact ⟨⟨la, lc, ca, cc, e, h1.up b, h2.up b⟩, h.a64, h.t64⟩
/-- a byte -/
def byAt (C : List Int) (k : Nat) : Int := C.getD k 0
theorem byAt_some {C : List Int} {k : Nat} (h : k < C.length) : C[k]? = some (byAt C k) := by
  unfold byAt
  rw [List.getD_eq_getElem?_getD, List.getElem?_eq_getElem h]; rfl
def fetR (C : List Int) (pc : Int) : Int × Int × Bool := if pc < 0 ∨ pc % 2 ≠ 0 ∨ pc > (C.length : Int) - 2 then (0, 0, false) else (byAt C pc.toNat, byAt C (pc.toNat + 1), true)
def takL : List Int := [2, 2, 2, 2, 2, 2, 1, 1, 2, 3, 1, 1, 2, 2, 0, 1, 1, 0, 1, 3, 2, 0, 1, 0]
def takR (p : Int) : Int := if p < 0 ∨ p > 23 then -1 else takL.getD p.toNat 0
def litAt (L : List (Int × Int)) (i : Int) : Int × Int := L.getD i.toNat (0, 0)
def hasLit (L : List (Int × Int)) (i kind : Int) : Bool := decide (i < (L.length : Int)) && decide ((litAt L i).1 = kind)
/-- an instruction at pc, of so many bytes -/
def insR (m : MethA) (pc op arg : Int) : Bool :=
  if op = 0 ∨ op = 10 then decide (arg < m.args + m.temps)
  else if op = 1 ∨ op = 11 then decide (arg < 62)
  else if op = 2 then hasLit m.lits arg 3
  else if op = 12 ∨ op = 13 then hasLit m.lits arg 5
  else if op = 20 then hasLit m.lits arg 6 && decide ((litAt m.lits arg).2 > 1)
  else if op = 18 then hasLit m.lits arg 7
  else if op = 15 ∨ op = 17 then decide (pc + 2 + 2 * arg < (m.code.length : Int))
  else if op = 16 then decide (2 * arg ≤ pc)
  else if op = 21 then decide (arg ≤ 23)
  else decide (op ≤ 21)
def litR (x : Int × Int) (nn nc nm : Nat) : Bool :=
  if x.1 = 3 then decide (-1073741824 ≤ x.2) && decide (x.2 ≤ 1073741823)
  else if x.1 = 5 then decide (0 ≤ x.2) && decide (x.2 < (nn : Int))
  else if x.1 = 6 then decide (0 ≤ x.2) && decide (x.2 < (nc : Int))
  else if x.1 = 7 then decide (0 ≤ x.2) && decide (x.2 < (nm : Int))
  else false
/-- the instructions from pc on -/
def insF (m : MethA) : Nat → Nat → Bool
  | 0, _ => true
  | f + 1, pc => insR m (pc : Int) (byAt m.code pc) (byAt m.code (pc + 1)) && insF m f (pc + 2)
def metR (m : MethA) (nn nc nm : Nat) : Int :=
  if m.code.length > 128 ∨ m.lits.length > 16 ∨ m.args < 0 ∨ m.temps < 0 ∨ m.args > 8 ∨ m.temps > 8 - m.args then 3
  else if m.code.length < 2 ∨ m.code.length % 2 ≠ 0 then 12
  else if byAt m.code (m.code.length - 2) ≠ 14 ∧ byAt m.code (m.code.length - 2) ≠ 19 ∧ byAt m.code (m.code.length - 2) ≠ 16 then 12
  else if m.lits.all (fun x => litR x nn nc nm) = false then 12
  else if insF m (m.code.length / 2) 0 = false then 12
  else 0
theorem fet_no {C : List Int} {pc : Int} (h : pc < 0 ∨ pc % 2 ≠ 0 ∨ pc > (C.length : Int) - 2) : fetR C pc = (0, 0, false) := if_pos h
theorem fet_yes {C : List Int} {pc : Int} (h0 : 0 ≤ pc) (h1 : pc % 2 = 0) (h2 : pc ≤ (C.length : Int) - 2) : fetR C pc = (byAt C pc.toNat, byAt C (pc.toNat + 1), true) := if_neg (by omega)
theorem mod2 {n : Nat} : Int.tmod (n : Int) 2 = ((n % 2 : Nat) : Int) := by
  show Int.tmod _ ((2 : Nat) : Int) = _
  rw [← Int.ofNat_tmod]
end Wd
end Go.Proofs.YtgfnelhbdhbklaaGreat

/- The document's own instructions: Fetch, Takes, Name, literals. -/
namespace Go.Proofs.YtgfnelhbdhbklaaGreat
open Go.RowKit
set_option linter.unusedVariables false
set_option maxRecDepth 20000
namespace Wd
end Wd
end Go.Proofs.YtgfnelhbdhbklaaGreat

/- The document's own instructions: Fetch, one of a method; is it right? -/
namespace Go.Proofs.YtgfnelhbdhbklaaGreat
open Go.RowKit
set_option linter.unusedVariables false
set_option maxRecDepth 20000
namespace Wd
/-- a method in a box of its own -/
structure MeB (w : World) (q : Nat) (v : Value) (m : MethA) (la ca : Option Addr) (lc cc : Nat) : Prop where
  e : v = .agg #[.int .i64 m.args, .int .i64 m.temps, .slice la m.lits.length lc, .slice ca m.code.length cc]
  c0 : w.cell? ⟨q, 0, none⟩ = some (.int .i64 m.args)
  c1 : w.cell? ⟨q, 1, none⟩ = some (.int .i64 m.temps)
  c2 : w.cell? ⟨q, 2, none⟩ = some (.slice la m.lits.length lc)
  c3 : w.cell? ⟨q, 3, none⟩ = some (.slice ca m.code.length cc)
  me : MeV w v m
theorem MeB.born {w : World} {m : MethA} {la ca : Option Addr} {lc cc : Nat} (h : MeV w (.agg #[.int .i64 m.args, .int .i64 m.temps, .slice la m.lits.length lc, .slice ca m.code.length cc]) m) : MeB (w.alloc (.cells #[.int .i64 m.args, .int .i64 m.temps, .slice la m.lits.length lc, .slice ca m.code.length cc] 63)) w.heap.size (.agg #[.int .i64 m.args, .int .i64 m.temps, .slice la m.lits.length lc, .slice ca m.code.length cc]) m la ca lc cc :=
  ⟨rfl, by simp, by simp, by simp, by simp, h.up ((Below.refl _ _).alloc (Nat.le_refl _) _)⟩
theorem MeB.lt {w : World} {q : Nat} {v : Value} {m : MethA} {la ca : Option Addr} {lc cc : Nat} (h : MeB w q v m la ca lc cc) : q < w.heap.size := World.block_lt_of_cell? w _ h.c0
theorem MeB.up {w w1 : World} {q : Nat} {v : Value} {m : MethA} {la ca : Option Addr} {lc cc : Nat} (h : MeB w q v m la ca lc cc) (b : Below w.heap.size w w1) : MeB w1 q v m la ca lc cc :=
  ⟨h.e, cell_up b h.c0, cell_up b h.c1, cell_up b h.c2, cell_up b h.c3, h.me.up b⟩
theorem MeB.py {w : World} {q : Nat} {v : Value} {m : MethA} {la ca : Option Addr} {lc cc : Nat} (h : MeB w q v m la ca lc cc) : PrV w (.slice la m.lits.length lc) m.lits ∧ ByV w (.slice ca m.code.length cc) m.code := by
  obtain ⟨la', lc', ca', cc', e, h1, h2⟩ := h.me.ex
  rw [h.e] at e
  cases e
  exact ⟨h1, h2⟩
theorem len_le {n : Nat} (h : n ≤ maxLen) : (n : Int) ≤ 9223372036854775807 := by
  have : maxLen ≤ 9223372036854775807 := by decide
  omega
end Wd
end Go.Proofs.YtgfnelhbdhbklaaGreat

/- The document's own instructions: has a method such a literal? is a literal right? -/
namespace Go.Proofs.YtgfnelhbdhbklaaGreat
open Go.RowKit
set_option linter.unusedVariables false
set_option maxRecDepth 20000
namespace Wd
theorem litAt_some {L : List (Int × Int)} {k : Nat} (h : k < L.length) : L[k]? = some (litAt L (k : Int)) := by
  unfold litAt
  rw [Int.toNat_natCast, List.getD_eq_getElem?_getD, List.getElem?_eq_getElem h]; rfl
/-- a program, by value -/
structure UnK (w : World) (v : Value) (U : UnitA) : Prop where
  mk ::
  ex : ∃ na nc ca cc ma mc oa oc, v = .agg #[.slice na U.names.length nc, .slice ca U.classes.length cc, .slice ma U.methods.length mc, .slice oa U.objects.length oc, .int .i64 U.main] ∧ UnV w (.slice na U.names.length nc) (.slice ca U.classes.length cc) (.slice ma U.methods.length mc) (.slice oa U.objects.length oc) U
theorem UnK.up {w w1 : World} {v : Value} {U : UnitA} (h : UnK w v U) (b : Below w.heap.size w w1) : UnK w1 v U := by
  obtain ⟨na, nc, ca, cc, ma, mc, oa, oc, e, h⟩ := h.ex
  exact ⟨⟨na, nc, ca, cc, ma, mc, oa, oc, e, h.up b⟩⟩
def num30 (x : Int) : Bool := decide (-1073741824 ≤ x) && decide (x ≤ 1073741823)
def inN (x : Int) (n : Nat) : Bool := decide (0 ≤ x) && decide (x < (n : Int))
theorem lit_num (x : Int) (nn nc nm : Nat) : litR (3, x) nn nc nm = num30 x := rfl
theorem lit_sel (x : Int) (nn nc nm : Nat) : litR (5, x) nn nc nm = inN x nn := rfl
theorem lit_cls (x : Int) (nn nc nm : Nat) : litR (6, x) nn nc nm = inN x nc := rfl
theorem lit_blk (x : Int) (nn nc nm : Nat) : litR (7, x) nn nc nm = inN x nm := rfl
theorem lit_no {k x : Int} (nn nc nm : Nat) (h3 : k ≠ 3) (h5 : k ≠ 5) (h6 : k ≠ 6) (h7 : k ≠ 7) : litR (k, x) nn nc nm = false := by
  unfold litR
  rw [if_neg h3, if_neg h5, if_neg h6, if_neg h7]
end Wd
end Go.Proofs.YtgfnelhbdhbklaaGreat

/- The document's own judgement of an object. -/
namespace Go.Proofs.YtgfnelhbdhbklaaGreat
open Go.RowKit
set_option linter.unusedVariables false
set_option maxRecDepth 20000
namespace Wd
/-- an object, by value -/
structure ObK (w : World) (v : Value) (x : ObjA) : Prop where
  mk ::
  c64 : In64 x.cls
  ex : ∃ fa fc, v = .agg #[.int .i64 x.cls, .slice fa x.flds.length fc] ∧ PrV w (.slice fa x.flds.length fc) x.flds
theorem ObK.up {w w1 : World} {v : Value} {x : ObjA} (h : ObK w v x) (b : Below w.heap.size w w1) : ObK w1 v x := by
  obtain ⟨fa, fc, e, p⟩ := h.ex
  exact ⟨h.c64, fa, fc, e, p.up b⟩
def fldOk (v : Int × Int) (no : Nat) : Bool := if v.1 = 0 ∨ v.1 = 1 ∨ v.1 = 2 then v.2 == 0 else if v.1 = 3 then num30 v.2 else if v.1 = 4 then inN v.2 no else false
/-- how many fields its class asks -/
def clsF (C : List ClassA) (c : Int) : Int := match C[c.toNat]? with
  | some x => x.fields
  | none => 0
def objHead (o : ObjA) (C : List ClassA) : Bool := if o.cls < 1 ∨ (C.length : Int) ≤ o.cls then false else if 1 < o.cls ∧ (o.flds.length : Int) ≠ clsF C o.cls then false else decide (o.flds.length ≤ 62)
def objB (o : ObjA) (C : List ClassA) (no : Nat) : Bool := objHead o C && o.flds.all (fldOk · no)
theorem clsF_at {C : List ClassA} {k : Nat} {x : ClassA} (h : C[k]? = some x) : clsF C (k : Int) = x.fields := by
  unfold clsF; rw [Int.toNat_natCast, h]
theorem head_low {o : ObjA} {C : List ClassA} (h : o.cls < 1) : objHead o C = false := by
  unfold objHead; rw [if_pos (Or.inl h)]
theorem head_high {o : ObjA} {C : List ClassA} (h : (C.length : Int) ≤ o.cls) : objHead o C = false := by
  unfold objHead; rw [if_pos (Or.inr h)]
theorem head_ok {o : ObjA} {C : List ClassA} (h0 : ¬ (o.cls < 1 ∨ (C.length : Int) ≤ o.cls)) (h1 : ¬ (1 < o.cls ∧ (o.flds.length : Int) ≠ clsF C o.cls)) (h2 : o.flds.length ≤ 62) : objHead o C = true := by
  unfold objHead
  rw [if_neg h0, if_neg h1, decide_eq_true h2]
theorem objB_no {o : ObjA} {C : List ClassA} (h : objHead o C = false) (no : Nat) : objB o C no = false := by unfold objB; rw [h]; rfl
theorem objB_yes {o : ObjA} {C : List ClassA} (h : objHead o C = true) (no : Nat) : objB o C no = o.flds.all (fldOk · no) := by unfold objB; rw [h]; rfl
/-- k fields are right -/
structure FdR (L : List (Int × Int)) (no k : Nat) : Prop where
  mk ::
  all : ∀ x ∈ L.take k, fldOk x no = true
theorem FdR.start (L : List (Int × Int)) (no : Nat) : FdR L no 0 := ⟨by simp⟩
theorem FdR.step {L : List (Int × Int)} {no k : Nat} {x : Int × Int} (h : FdR L no k) (hx : L[k]? = some x) (e : fldOk x no = true) : FdR L no (k + 1) := by
  refine ⟨fun y hy => ?_⟩
  rw [take_next hx] at hy
  rcases List.mem_append.1 hy with hy | hy
  · exact h.all y hy
  · rw [List.mem_singleton.1 hy]; exact e
theorem FdR.last {L : List (Int × Int)} {no : Nat} (h : FdR L no L.length) : L.all (fldOk · no) = true := by
  rw [List.all_eq_true]
  intro x hx
  exact h.all x (by rw [List.take_length]; exact hx)
theorem fd_bad {L : List (Int × Int)} {no k : Nat} {x : Int × Int} (hx : L[k]? = some x) (e : fldOk x no = false) : L.all (fldOk · no) = false := by
  rw [List.all_eq_false]
  exact ⟨x, List.mem_of_getElem? hx, by simp [e]⟩
theorem fld_012 {k x : Int} (no : Nat) (h : k = 0 ∨ k = 1 ∨ k = 2) : fldOk (k, x) no = (x == 0) := if_pos h
theorem fld_3 (x : Int) (no : Nat) : fldOk (3, x) no = num30 x := rfl
theorem fld_4 (x : Int) (no : Nat) : fldOk (4, x) no = inN x no := rfl
theorem fld_no {k x : Int} (no : Nat) (h : ¬ (k = 0 ∨ k = 1 ∨ k = 2)) (h3 : k ≠ 3) (h4 : k ≠ 4) : fldOk (k, x) no = false := by
  unfold fldOk
  rw [if_neg h, if_neg h3, if_neg h4]
end Wd
end Go.Proofs.YtgfnelhbdhbklaaGreat

/- The document's own search for a method. -/
namespace Go.Proofs.YtgfnelhbdhbklaaGreat
open Go.RowKit
set_option linter.unusedVariables false
set_option maxRecDepth 20000
namespace Wd
/-- what a row binds a name to -/
def bindIn (B : List (Int × Int)) (sel : Int) : Option Int := (B.find? (fun x => x.1 == sel)).map (·.2)
def bindsAt (C : List ClassA) (c : Int) : List (Int × Int) := match C[c.toNat]? with
  | some x => x.binds
  | none => []
def findIn (C : List ClassA) (sel : Int) : List Int → Int
  | [] => -1
  | c :: r => match bindIn (bindsAt C c) sel with
    | some m => m
    | none => findIn C sel r
/-- k of the row bind another name -/
structure BdN (B : List (Int × Int)) (sel : Int) (k : Nat) : Prop where
  mk ::
  all : bindIn B sel = bindIn (B.drop k) sel
theorem BdN.start (B : List (Int × Int)) (sel : Int) : BdN B sel 0 := ⟨rfl⟩
theorem BdN.step {B : List (Int × Int)} {sel : Int} {k : Nat} {x : Int × Int} (h : BdN B sel k) (hx : B[k]? = some x) (e : ¬ x.1 = sel) : BdN B sel (k + 1) := by
  refine ⟨h.all.trans ?_⟩
  unfold bindIn
  rw [drop_next hx, List.find?_cons_of_neg (by simpa using e)]
theorem BdN.last {B : List (Int × Int)} {sel : Int} (h : BdN B sel B.length) : bindIn B sel = none := by
  refine h.all.trans ?_
  rw [List.drop_length]
  rfl
/-- k classes of the chain bind it not -/
structure FnR (C : List ClassA) (R : List Int) (sel : Int) (k : Nat) : Prop where
  mk ::
  all : findIn C sel R = findIn C sel (R.drop k)
theorem FnR.start (C : List ClassA) (R : List Int) (sel : Int) : FnR C R sel 0 := ⟨rfl⟩
theorem FnR.step {C : List ClassA} {R : List Int} {sel c : Int} {k : Nat} (h : FnR C R sel k) (hx : R[k]? = some c) (e : bindIn (bindsAt C c) sel = none) : FnR C R sel (k + 1) := by
  refine ⟨h.all.trans ?_⟩
  rw [drop_next hx, findIn, e]
theorem FnR.last {C : List ClassA} {R : List Int} {sel : Int} (h : FnR C R sel R.length) : findIn C sel R = -1 := by
  refine h.all.trans ?_
  rw [List.drop_length]
  rfl
end Wd
end Go.Proofs.YtgfnelhbdhbklaaGreat

/- Plain facts on sizes, chapter 3: no program is named here. -/
namespace Go.Proofs.YtgfnelhbdhbklaaGreat
open Go.RowKit
namespace Wd

/-- the words of a cell of that size -/
def wd (n : Int) : Int := if n = 0 then 4 else if n = 1 then 8 else if n = 2 then 16 else if n = 3 then 32 else if n = 4 then 64 else 0
/-- the least size that takes so many fields -/
def fo (n : Int) : Int := if n < 0 then -1 else if n ≤ 2 then 0 else if n ≤ 6 then 1 else if n ≤ 14 then 2 else if n ≤ 30 then 3 else if n ≤ 62 then 4 else -1
theorem wd_bd (n : Int) : 0 ≤ wd n ∧ wd n ≤ 64 := by unfold wd; repeat' split <;> omega
end Wd
end Go.Proofs.YtgfnelhbdhbklaaGreat

/- What the functions of chapter 1's own answer return; the words of a program. -/
namespace Go.Proofs.YtgfnelhbdhbklaaGreat
open Go.RowKit
set_option linter.unusedVariables false
set_option maxRecDepth 20000
namespace Wd
def wordsB (O : List ObjA) : Int := (O.map (fun o => wd (fo (o.flds.length : Int)))).sum
theorem ObV.form {w : World} {v : Value} {L : List ObjA} (h : ObV w v L) : ∃ ad cap, v = .slice ad L.length cap ∧ L.length ≤ cap ∧ cap ≤ maxLen := by
  obtain ⟨ad, cap, e, h1, h2, _⟩ := h.ex
  exact ⟨ad, cap, e, h1, h2⟩
theorem ObV.at {w : World} {ad : Option Addr} {n cap : Nat} {L : List ObjA} (h : ObV w (.slice ad n cap) L) {k : Nat} {x : ObjA} (hx : L[k]? = some x) : In64 x.cls ∧ ∃ g off fv, ad = some ⟨g, off, none⟩ ∧ w.cell? ⟨g, off + k * 2, none⟩ = some (.int .i64 x.cls) ∧ w.cell? ⟨g, off + k * 2 + 1, none⟩ = some fv ∧ PrV w fv x.flds := by
  obtain ⟨ad', cap', e, _, _, h3⟩ := h.ex
  cases e
  exact h3 k x hx
/-- k objects are counted -/
structure WdR (O : List ObjA) (k : Nat) (s : Int) : Prop where
  mk ::
  eq : s = wordsB (O.take k)
  lo : 0 ≤ s
  hi : s ≤ 64 * (k : Int)
theorem WdR.start (O : List ObjA) : WdR O 0 0 := ⟨rfl, by omega, by omega⟩
theorem WdR.step {O : List ObjA} {k : Nat} {s : Int} {x : ObjA} (h : WdR O k s) (hx : O[k]? = some x) : WdR O (k + 1) (s + wd (fo (x.flds.length : Int))) := by
  have b := wd_bd (fo (x.flds.length : Int))
  refine ⟨?_, by have := h.lo; omega, by have := h.hi; push_cast; omega⟩
  rw [take_next hx, h.eq]
  unfold wordsB
  simp
theorem WdR.last {O : List ObjA} {s : Int} (h : WdR O O.length s) : s = wordsB O := by
  have := h.eq
  rwa [List.take_length] at this
end Wd
end Go.Proofs.YtgfnelhbdhbklaaGreat

/- Are two rows of pairs alike? (the document's own vals and binds) -/
namespace Go.Proofs.YtgfnelhbdhbklaaGreat
open Go.RowKit
set_option linter.unusedVariables false
set_option maxRecDepth 20000
namespace Wd
/-- k pairs are alike -/
structure EqR {T : Type} (A B : List T) (k : Nat) : Prop where
  mk ::
  eq : A.take k = B.take k
theorem EqR.start {T : Type} (A B : List T) : EqR A B 0 := ⟨by simp⟩
theorem EqR.step {T : Type} {A B : List T} {k : Nat} {x y : T} (h : EqR A B k) (hx : A[k]? = some x) (hy : B[k]? = some y) (e : x = y) : EqR A B (k + 1) := by
  refine ⟨?_⟩
  rw [take_next hx, take_next hy, h.eq, e]
theorem EqR.last {T : Type} [DecidableEq T] {A B : List T} {n : Nat} (h : EqR A B n) (ha : n = A.length) (hb : n = B.length) : decide (A = B) = true := by
  have := h.eq
  rw [ha, List.take_length, ← ha, hb, List.take_length] at this
  exact decide_eq_true this
theorem eq_not {T : Type} [DecidableEq T] {A B : List T} {k : Nat} {x y : T} (hx : A[k]? = some x) (hy : B[k]? = some y) (e : ¬ x = y) : decide (A = B) = false := by
  refine decide_eq_false (fun h => e ?_)
  subst h
  rw [hx] at hy
  exact Option.some.inj hy
theorem eq_len {T : Type} [DecidableEq T] {A B : List T} (e : ¬ A.length = B.length) : decide (A = B) = false := decide_eq_false (fun h => e (by rw [h]))
set_option maxHeartbeats 8000000 in
theorem rvals_c {w : World} {a b : Value} {A B : List (Int × Int)} (ha : PrV w a A) (hb : PrV w b B) :
    Calls Tryz.prog 43 #[a, b] w fun e w' => e = .returned (.bool (decide (A = B))) ∧ Below w.heap.size w w' := by
  obtain ⟨aa, ac, rfl, ha1, ha2⟩ := ha.form
  obtain ⟨ba, bc, rfl, hb1, hb2⟩ := hb.form
  have hle := len_le (Nat.le_trans ha1 ha2)
  by_cases hl : A.length = B.length
  · have hl' : ((A.length : Int) != (B.length : Int)) = false := by simp [hl]
    obtain ⟨n, hn⟩ : ∃ n, n = A.length := ⟨_, rfl⟩
    obtain ⟨m, hm⟩ : ∃ m, m = B.length := ⟨_, rfl⟩
    have hn' := Lib.hid hn
    have hm' := Lib.hid hm
    have hnm := Lib.hid (show n = m by omega)
    rw [← hn] at ha hle hl' ⊢
    rw [← hm] at hb hl' ⊢
    replace ha := Lib.hid ha
    replace hb := Lib.hid hb
    have hst := Lib.hid (EqR.start A B)
    clear hl hn hm ha1 ha2 hb1 hb2
    go_enter Tryz.func43, Tryz.ntmps43
    go_wp2
    go_loopw [13] (fun i wr => ∃ (k : Nat), k ≤ n ∧ i = .int .i64 k ∧ Hid (EqR A B k) ∧ Hid (Below w.heap.size w wr)) (fun i _ => n - (intOf i).toNat)
    case atStart => exact ⟨0, by omega, rfl, hst, Lib.hid (Below.refl _ _)⟩
    case round =>
      obtain ⟨k, hk, rfl, hE, hB⟩ := hrel
      by_cases hlt : k < n
      · have hlt' : decide ((k : Int) < (n : Int)) = true := by simp; omega
        have p0 : (0 : Int) ≤ (k : Int) := by omega
        have p1 : (k : Int) < (n : Int) := by omega
        have p2 : (k : Int) < (m : Int) := by have := hnm.out; omega
        obtain ⟨⟨x1, x2⟩, hx⟩ : ∃ x, A[k]? = some x := ⟨A[k]'(by have := hn'.out; omega), by simp⟩
        obtain ⟨⟨y1, y2⟩, hy⟩ : ∃ x, B[k]? = some x := ⟨B[k]'(by have := hm'.out; omega), by simp⟩
        obtain ⟨_, _, g, off, rfl, c0, c1⟩ := PrV.at (ha.out.up hB.out) hx
        obtain ⟨_, _, h, off2, rfl, d0, d1⟩ := PrV.at (hb.out.up hB.out) hy
        simp only at c0 c1 d0 d1
        have hxH := Lib.hid hx
        have hyH := Lib.hid hy
        have hB' := Lib.hid (hB.out.trans (((Below.refl wr.heap.size wr).drew).mono hB.out.size))
        clear hx hy hst hlt
        by_cases e1 : x1 = y1
        · by_cases e2 : x2 = y2
          · have f1 : (x1 == y1) = true := by simpa using e1
            have f2 : (x2 == y2) = true := by simpa using e2
            have hE' := Lib.hid (hE.out.step hxH.out hyH.out (by rw [e1, e2]))
            clear e1 e2
            go_upto_region 6 with fail
            refine wp_region_still_lit (by kernel_rfl) (by kernel_rfl) ?_
            iterate 9 still_step
            refine wpStill_nil ?_
            change Exit.then _ _ Exit.normal _ wr.drew
            go_wp2_with fail
            go_roundw
            case rel => exact ⟨k + 1, by omega, by go_num, hE', hB'⟩
            case measure => simp [intOf]; omega
          · have f1 : (x1 == y1) = true := by simpa using e1
            have f2 : (x2 == y2) = false := by simpa using e2
            have e := Lib.hid (eq_not hxH.out hyH.out (fun h => e2 (congrArg Prod.snd h)))
            clear e1 e2
            go_upto_region 6 with fail
            refine wp_region_still_lit (by kernel_rfl) (by kernel_rfl) ?_
            iterate 9 still_step
            refine wpStill_nil ?_
            change Exit.then _ _ Exit.normal _ wr.drew
            go_wp2_with fail
            go_ret
            exact ⟨congrArg (fun b => Ending.returned (Value.bool b)) e.out.symm, hB'.out⟩
        · have f1 : (x1 == y1) = false := by simpa using e1
          have e := Lib.hid (eq_not hxH.out hyH.out (fun h => e1 (congrArg Prod.fst h)))
          clear e1
          go_upto_region 6 with fail
          refine wp_region_still_lit (by kernel_rfl) (by kernel_rfl) ?_
          iterate 9 still_step
          refine wpStill_nil ?_
          change Exit.then _ _ Exit.normal _ wr.drew
          go_wp2_with fail
          go_ret
          exact ⟨congrArg (fun b => Ending.returned (Value.bool b)) e.out.symm, hB'.out⟩
      · have e := Lib.hid (EqR.last (A := A) (B := B) (n := n) (by have := hE.out; rw [show k = n by omega] at this; exact this) hn'.out (by rw [hnm.out]; exact hm'.out))
        have hlt' : decide ((k : Int) < (n : Int)) = false := by simp; omega
        go_wp2
        go_ret
        exact ⟨congrArg (fun b => Ending.returned (Value.bool b)) e.out.symm, hB.out⟩
  · have hl' : ((A.length : Int) != (B.length : Int)) = true := by simp; omega
    have e := Lib.hid (eq_len hl)
    clear hl
    go_enter Tryz.func43, Tryz.ntmps43
    go_wp2
    go_ret
    exact ⟨congrArg (fun b => Ending.returned (Value.bool b)) e.out.symm, Below.refl _ _⟩
set_option maxHeartbeats 8000000 in
theorem rbinds_c {w : World} {a b : Value} {A B : List (Int × Int)} (ha : PrV w a A) (hb : PrV w b B) :
    Calls Tryz.prog 41 #[a, b] w fun e w' => e = .returned (.bool (decide (A = B))) ∧ Below w.heap.size w w' := by
  obtain ⟨aa, ac, rfl, ha1, ha2⟩ := ha.form
  obtain ⟨ba, bc, rfl, hb1, hb2⟩ := hb.form
  have hle := len_le (Nat.le_trans ha1 ha2)
  by_cases hl : A.length = B.length
  · have hl' : ((A.length : Int) != (B.length : Int)) = false := by simp [hl]
    obtain ⟨n, hn⟩ : ∃ n, n = A.length := ⟨_, rfl⟩
    obtain ⟨m, hm⟩ : ∃ m, m = B.length := ⟨_, rfl⟩
    have hn' := Lib.hid hn
    have hm' := Lib.hid hm
    have hnm := Lib.hid (show n = m by omega)
    rw [← hn] at ha hle hl' ⊢
    rw [← hm] at hb hl' ⊢
    replace ha := Lib.hid ha
    replace hb := Lib.hid hb
    have hst := Lib.hid (EqR.start A B)
    clear hl hn hm ha1 ha2 hb1 hb2
    go_enter Tryz.func41, Tryz.ntmps41
    go_wp2
    go_loopw [13] (fun i wr => ∃ (k : Nat), k ≤ n ∧ i = .int .i64 k ∧ Hid (EqR A B k) ∧ Hid (Below w.heap.size w wr)) (fun i _ => n - (intOf i).toNat)
    case atStart => exact ⟨0, by omega, rfl, hst, Lib.hid (Below.refl _ _)⟩
    case round =>
      obtain ⟨k, hk, rfl, hE, hB⟩ := hrel
      by_cases hlt : k < n
      · have hlt' : decide ((k : Int) < (n : Int)) = true := by simp; omega
        have p0 : (0 : Int) ≤ (k : Int) := by omega
        have p1 : (k : Int) < (n : Int) := by omega
        have p2 : (k : Int) < (m : Int) := by have := hnm.out; omega
        obtain ⟨⟨x1, x2⟩, hx⟩ : ∃ x, A[k]? = some x := ⟨A[k]'(by have := hn'.out; omega), by simp⟩
        obtain ⟨⟨y1, y2⟩, hy⟩ : ∃ x, B[k]? = some x := ⟨B[k]'(by have := hm'.out; omega), by simp⟩
        obtain ⟨_, _, g, off, rfl, c0, c1⟩ := PrV.at (ha.out.up hB.out) hx
        obtain ⟨_, _, h, off2, rfl, d0, d1⟩ := PrV.at (hb.out.up hB.out) hy
        simp only at c0 c1 d0 d1
        have hxH := Lib.hid hx
        have hyH := Lib.hid hy
        have hB' := Lib.hid (hB.out.trans (((Below.refl wr.heap.size wr).drew).mono hB.out.size))
        clear hx hy hst hlt
        by_cases e1 : x1 = y1
        · by_cases e2 : x2 = y2
          · have f1 : (x1 == y1) = true := by simpa using e1
            have f2 : (x2 == y2) = true := by simpa using e2
            have hE' := Lib.hid (hE.out.step hxH.out hyH.out (by rw [e1, e2]))
            clear e1 e2
            go_upto_region 6 with fail
            refine wp_region_still_lit (by kernel_rfl) (by kernel_rfl) ?_
            iterate 9 still_step
            refine wpStill_nil ?_
            change Exit.then _ _ Exit.normal _ wr.drew
            go_wp2_with fail
            go_roundw
            case rel => exact ⟨k + 1, by omega, by go_num, hE', hB'⟩
            case measure => simp [intOf]; omega
          · have f1 : (x1 == y1) = true := by simpa using e1
            have f2 : (x2 == y2) = false := by simpa using e2
            have e := Lib.hid (eq_not hxH.out hyH.out (fun h => e2 (congrArg Prod.snd h)))
            clear e1 e2
            go_upto_region 6 with fail
            refine wp_region_still_lit (by kernel_rfl) (by kernel_rfl) ?_
            iterate 9 still_step
            refine wpStill_nil ?_
            change Exit.then _ _ Exit.normal _ wr.drew
            go_wp2_with fail
            go_ret
            exact ⟨congrArg (fun b => Ending.returned (Value.bool b)) e.out.symm, hB'.out⟩
        · have f1 : (x1 == y1) = false := by simpa using e1
          have e := Lib.hid (eq_not hxH.out hyH.out (fun h => e1 (congrArg Prod.fst h)))
          clear e1
          go_upto_region 6 with fail
          refine wp_region_still_lit (by kernel_rfl) (by kernel_rfl) ?_
          iterate 9 still_step
          refine wpStill_nil ?_
          change Exit.then _ _ Exit.normal _ wr.drew
          go_wp2_with fail
          go_ret
          exact ⟨congrArg (fun b => Ending.returned (Value.bool b)) e.out.symm, hB'.out⟩
      · have e := Lib.hid (EqR.last (A := A) (B := B) (n := n) (by have := hE.out; rw [show k = n by omega] at this; exact this) hn'.out (by rw [hnm.out]; exact hm'.out))
        have hlt' : decide ((k : Int) < (n : Int)) = false := by simp; omega
        go_wp2
        go_ret
        exact ⟨congrArg (fun b => Ending.returned (Value.bool b)) e.out.symm, hB.out⟩
  · have hl' : ((A.length : Int) != (B.length : Int)) = true := by simp; omega
    have e := Lib.hid (eq_len hl)
    clear hl
    go_enter Tryz.func41, Tryz.ntmps41
    go_wp2
    go_ret
    exact ⟨congrArg (fun b => Ending.returned (Value.bool b)) e.out.symm, Below.refl _ _⟩
end Wd
end Go.Proofs.YtgfnelhbdhbklaaGreat

/- Bytes as a text. -/
namespace Go.Proofs.YtgfnelhbdhbklaaGreat
open Go.RowKit
set_option linter.unusedVariables false
set_option maxRecDepth 20000
namespace Wd
def byteL (L : List Int) : List UInt8 := L.map (fun x => UInt8.ofNat x.toNat)
def textOf (L : List Int) : ByteArray := ⟨(byteL L).toArray⟩
theorem byte_of {x : Int} (h : 0 ≤ x ∧ x ≤ 255) : (((UInt8.ofNat x.toNat).toNat : Nat) : Int) = x := by
  have : x.toNat < 256 := by omega
  rw [UInt8.toNat_ofNat_of_lt' (by simpa [UInt8.size] using this)]
  omega
theorem textOf_inj : ∀ {A B : List Int}, (∀ x ∈ A, 0 ≤ x ∧ x ≤ 255) → (∀ x ∈ B, 0 ≤ x ∧ x ≤ 255) → textOf A = textOf B → A = B := by
  have key : ∀ (A B : List Int), (∀ x ∈ A, 0 ≤ x ∧ x ≤ 255) → (∀ x ∈ B, 0 ≤ x ∧ x ≤ 255) → byteL A = byteL B → A = B := by
    intro A
    induction A with
    | nil =>
      intro B _ _ h
      cases B with
      | nil => rfl
      | cons y B => simp [byteL] at h
    | cons x A ih =>
      intro B hA hB h
      cases B with
      | nil => simp [byteL] at h
      | cons y B =>
        simp only [byteL, List.map_cons, List.cons.injEq] at h
        obtain ⟨h1, h2⟩ := h
        have e : x = y := by
          rw [← byte_of (hA x (List.mem_cons_self ..)), ← byte_of (hB y (List.mem_cons_self ..)), h1]
        rw [e, ih B (fun z hz => hA z (List.mem_cons_of_mem _ hz)) (fun z hz => hB z (List.mem_cons_of_mem _ hz)) h2]
  intro A B hA hB h
  refine key A B hA hB ?_
  have : (byteL A).toArray = (byteL B).toArray := congrArg ByteArray.data h
  simpa using this
theorem ByV.bd {w : World} {v : Value} {L : List Int} (h : ByV w v L) : ∀ x ∈ L, 0 ≤ x ∧ x ≤ 255 := by
  obtain ⟨ad, cap, rfl, _⟩ := h.form
  intro x hx
  obtain ⟨k, hk⟩ := List.getElem?_of_mem hx
  exact (h.at hk).1
theorem by_text {w : World} {v : Value} {L : List Int} (h : ByV w v L) : (convert 36 9 v).run Tryz.prog w = .ok (.string (textOf L)) w := by
  obtain ⟨ad, cap, rfl, _⟩ := h.form
  have hlen : L.length = (byteL L).length := by simp [byteL]
  cases hL : L with
  | nil =>
    rw [run_convert_bytes_string (P := Tryz.prog) w 36 9 5 ad ([] : List Int).length cap Tryz.underlying36 Tryz.underlying5 Tryz.underlying9]
    have hl := run_loadCells_list (P := Tryz.prog) (w := w)
    cases ad with
    | none => simp [Conv.bytesToString, Sem.run_pure, textOf, byteL] <;> rfl
    | some a =>
      have h0 := hl a [] (fun j v hj => by simp at hj)
      simp [Conv.bytesToString, Sem.run_bind, textOf, byteL] at h0 ⊢
      first | done | (rw [h0]; rfl) | simp [h0]
  | cons x R =>
    rw [← hL]
    obtain ⟨_, g, off, rfl, _⟩ := h.at (k := 0) (x := x) (by rw [hL]; rfl)
    rw [hlen]
    refine run_convert_bytes_back (P := Tryz.prog) w 36 9 5 ⟨g, off, none⟩ cap (byteL L) Tryz.underlying36 Tryz.underlying5 Tryz.underlying9 (fun j hj => ?_)
    rw [Addr.add_lit]
    have hj' : j < L.length := by rw [hlen]; exact hj
    obtain ⟨b, g', off', e, c0⟩ := h.at (List.getElem?_eq_getElem hj')
    cases e
    rw [c0]
    simp only [byteL, List.getElem_map]
    rw [byte_of b]
end Wd
end Go.Proofs.YtgfnelhbdhbklaaGreat

/- Are two methods the same? (the document's own) -/
namespace Go.Proofs.YtgfnelhbdhbklaaGreat
open Go.RowKit
set_option linter.unusedVariables false
set_option maxRecDepth 20000
namespace Wd
/-- two methods lie boxed -/
structure Sm2 (w wr : World) (A B : MethA) (la lb ca cb : Option Addr) (lac lbc cac cbc : Nat) : Prop where
  mk ::
  cells : wr.cell? ⟨w.heap.size, 0, none⟩ = some (.int .i64 A.args) ∧ wr.cell? ⟨w.heap.size, 1, none⟩ = some (.int .i64 A.temps) ∧ wr.cell? ⟨w.heap.size, 2, none⟩ = some (.slice la A.lits.length lac) ∧ wr.cell? ⟨w.heap.size, 3, none⟩ = some (.slice ca A.code.length cac) ∧ wr.cell? ⟨w.heap.size + 1, 0, none⟩ = some (.int .i64 B.args) ∧ wr.cell? ⟨w.heap.size + 1, 1, none⟩ = some (.int .i64 B.temps) ∧ wr.cell? ⟨w.heap.size + 1, 2, none⟩ = some (.slice lb B.lits.length lbc) ∧ wr.cell? ⟨w.heap.size + 1, 3, none⟩ = some (.slice cb B.code.length cbc) ∧ ByV wr (.slice ca A.code.length cac) A.code ∧ ByV wr (.slice cb B.code.length cbc) B.code
  pa : PrV wr (.slice la A.lits.length lac) A.lits
  pb : PrV wr (.slice lb B.lits.length lbc) B.lits
  bel : Below w.heap.size w wr
theorem Sm2.up {w wr w2 : World} {A B : MethA} {la lb ca cb : Option Addr} {lac lbc cac cbc : Nat} (h : Sm2 w wr A B la lb ca cb lac lbc cac cbc) (b : Below wr.heap.size wr w2) : Sm2 w w2 A B la lb ca cb lac lbc cac cbc := by
  obtain ⟨a0, a1, a2, a3, b0, b1, b2, b3, y0, y1⟩ := h.cells
  exact ⟨⟨cell_up b a0, cell_up b a1, cell_up b a2, cell_up b a3, cell_up b b0, cell_up b b1, cell_up b b2, cell_up b b3, y0.up b, y1.up b⟩, h.pa.up b, h.pb.up b, h.bel.trans (b.mono h.bel.size)⟩
def methEq (A B : MethA) : Bool := decide (A.args = B.args) && (decide (A.temps = B.temps) && (decide (A.lits = B.lits) && decide (A.code = B.code)))
theorem meq1 {A B : MethA} (h : ¬ A.args = B.args) : methEq A B = false := by unfold methEq; rw [decide_eq_false h]; rfl
theorem meq2 {A B : MethA} (h : ¬ A.temps = B.temps) : methEq A B = false := by unfold methEq; rw [decide_eq_false h, Bool.false_and, Bool.and_false]
theorem meq3 {A B : MethA} (h : ¬ A.lits = B.lits) : methEq A B = false := by unfold methEq; rw [decide_eq_false h, Bool.false_and, Bool.and_false, Bool.and_false]
theorem meq4 {A B : MethA} (h : ¬ A.code = B.code) : methEq A B = false := by unfold methEq; rw [decide_eq_false h, Bool.and_false, Bool.and_false, Bool.and_false]
theorem meq5 {A B : MethA} (h1 : A.args = B.args) (h2 : A.temps = B.temps) (h3 : A.lits = B.lits) (h4 : A.code = B.code) : methEq A B = true := by unfold methEq; rw [decide_eq_true h1, decide_eq_true h2, decide_eq_true h3, decide_eq_true h4]; rfl
set_option maxHeartbeats 16000000 in
theorem rsamem_c {w : World} {a b : Value} {A B : MethA} (ha : MeV w a A) (hb : MeV w b B) :
    Calls Tryz.prog 42 #[a, b] w fun e w' => e = .returned (.bool (methEq A B)) ∧ Below w.heap.size w w' := by
  obtain ⟨la, lac, ca, cac, rfl, hla, hca⟩ := ha.ex
  obtain ⟨lb, lbc, cb, cbc, rfl, hlb, hcb⟩ := hb.ex
  have hw1 := (Below.refl w.heap.size w).alloc (Nat.le_refl _) (.cells #[.int .i64 A.args, .int .i64 A.temps, .slice la A.lits.length lac, .slice ca A.code.length cac] 63)
  have hw2 := hw1.alloc (by simp only [World.size_alloc]; omega) (.cells #[.int .i64 B.args, .int .i64 B.temps, .slice lb B.lits.length lbc, .slice cb B.code.length cbc] 63)
  have i1 : (w.alloc (.cells #[.int .i64 A.args, .int .i64 A.temps, .slice la A.lits.length lac, .slice ca A.code.length cac] 63)).heap.size = w.heap.size + 1 := by simp
  have hS : Hid (Sm2 w ((w.alloc (.cells #[.int .i64 A.args, .int .i64 A.temps, .slice la A.lits.length lac, .slice ca A.code.length cac] 63)).alloc (.cells #[.int .i64 B.args, .int .i64 B.temps, .slice lb B.lits.length lbc, .slice cb B.code.length cbc] 63)) A B la lb ca cb lac lbc cac cbc) := Lib.hid ⟨⟨(World.cell?_alloc_old _ _ _ (by simp)).trans (by simp), (World.cell?_alloc_old _ _ _ (by simp)).trans (by simp), (World.cell?_alloc_old _ _ _ (by simp)).trans (by simp), (World.cell?_alloc_old _ _ _ (by simp)).trans (by simp), by rw [← i1]; simp, by rw [← i1]; simp, by rw [← i1]; simp, by rw [← i1]; simp, hca.up hw2, hcb.up hw2⟩, hla.up hw2, hlb.up hw2, hw2⟩
  have PV := Lib.hid (fun (w' : World) (h1 : PrV w' (.slice la A.lits.length lac) A.lits) (h2 : PrV w' (.slice lb B.lits.length lbc) B.lits) => rvals_c h1 h2)
  have hcd := Lib.hid (fun h => textOf_inj (A := A.code) (B := B.code) hca.bd hcb.bd h)
  clear ha hb hla hca hlb hcb hw1 hw2 i1
  go_enter Tryz.func42, Tryz.ntmps42
  go_upto_region 1 with fail
  generalize ((w.alloc (.cells #[.int .i64 A.args, .int .i64 A.temps, .slice la A.lits.length lac, .slice ca A.code.length cac] 63)).alloc (.cells #[.int .i64 B.args, .int .i64 B.temps, .slice lb B.lits.length lbc, .slice cb B.code.length cbc] 63)) = W at *
  by_cases g1 : ¬ A.args = B.args
  · have d1 : (A.args == B.args) = false := by simpa using g1
    have e := Lib.hid (meq1 g1)
    clear g1 PV hcd
    obtain ⟨a0, a1, a2, a3, b0, b1, b2, b3, y0, y1⟩ := hS.out.cells
    go_wp2
    go_ret
    exact ⟨congrArg (fun b => Ending.returned (Value.bool b)) e.out.symm, hS.out.bel⟩
  replace g1 : A.args = B.args := Decidable.not_not.1 g1
  have d1 : (A.args == B.args) = true := by simpa using g1
  by_cases g2 : ¬ A.temps = B.temps
  · have d2 : (A.temps == B.temps) = false := by simpa using g2
    have e := Lib.hid (meq2 g2)
    clear g1 g2 PV hcd
    obtain ⟨a0, a1, a2, a3, b0, b1, b2, b3, y0, y1⟩ := hS.out.cells
    go_wp2
    go_ret
    exact ⟨congrArg (fun b => Ending.returned (Value.bool b)) e.out.symm, hS.out.bel⟩
  replace g2 : A.temps = B.temps := Decidable.not_not.1 g2
  have d2 : (A.temps == B.temps) = true := by simpa using g2
  by_cases g3 : ¬ A.lits = B.lits
  · rw [decide_eq_false g3] at PV
    have e := Lib.hid (meq3 g3)
    clear g1 g2 g3 hcd
    obtain ⟨a0, a1, a2, a3, b0, b1, b2, b3, y0, y1⟩ := hS.out.cells
    go_wp2_with (first | (go_at_call 43; ((with_reducible refine (PV.out _ hS.out.pa hS.out.pb).mono ?_); rintro e1 z1 ⟨rfl, hb⟩; replace hS := Lib.hid (hS.out.up hb); clear hb a0 a1 a2 a3 b0 b1 b2 b3 y0 y1; obtain ⟨a0, a1, a2, a3, b0, b1, b2, b3, y0, y1⟩ := hS.out.cells; have hcv1 := by_text y0; have hcv2 := by_text y1; go_wp2_with fail)))
    go_ret
    exact ⟨congrArg (fun b => Ending.returned (Value.bool b)) e.out.symm, hS.out.bel⟩
  replace g3 : A.lits = B.lits := Decidable.not_not.1 g3
  rw [decide_eq_true g3] at PV
  by_cases g4 : ¬ A.code = B.code
  · have d4 : ((textOf A.code).toList == (textOf B.code).toList) = false := bl_ne (fun h => g4 (hcd.out h))
    have e := Lib.hid (meq4 g4)
    clear g1 g2 g3 g4 hcd
    obtain ⟨a0, a1, a2, a3, b0, b1, b2, b3, y0, y1⟩ := hS.out.cells
    go_wp2_with (first | (go_at_call 43; ((with_reducible refine (PV.out _ hS.out.pa hS.out.pb).mono ?_); rintro e1 z1 ⟨rfl, hb⟩; replace hS := Lib.hid (hS.out.up hb); clear hb a0 a1 a2 a3 b0 b1 b2 b3 y0 y1; obtain ⟨a0, a1, a2, a3, b0, b1, b2, b3, y0, y1⟩ := hS.out.cells; have hcv1 := by_text y0; have hcv2 := by_text y1; go_wp2_with fail)))
    go_ret
    exact ⟨congrArg (fun b => Ending.returned (Value.bool b)) e.out.symm, hS.out.bel⟩
  replace g4 : A.code = B.code := Decidable.not_not.1 g4
  have d4 : ((textOf A.code).toList == (textOf B.code).toList) = true := bl_eq (by rw [g4])
  have e := Lib.hid (meq5 g1 g2 g3 g4)
  clear g1 g2 g3 g4 hcd
  obtain ⟨a0, a1, a2, a3, b0, b1, b2, b3, y0, y1⟩ := hS.out.cells
  go_wp2_with (first | (go_at_call 43; ((with_reducible refine (PV.out _ hS.out.pa hS.out.pb).mono ?_); rintro e1 z1 ⟨rfl, hb⟩; replace hS := Lib.hid (hS.out.up hb); clear hb a0 a1 a2 a3 b0 b1 b2 b3 y0 y1; obtain ⟨a0, a1, a2, a3, b0, b1, b2, b3, y0, y1⟩ := hS.out.cells; have hcv1 := by_text y0; have hcv2 := by_text y1; go_wp2_with fail)))
  go_ret
  exact ⟨congrArg (fun b => Ending.returned (Value.bool b)) e.out.symm, hS.out.bel⟩
end Wd
end Go.Proofs.YtgfnelhbdhbklaaGreat

/- Are two programs the same? (the document's own) -/
namespace Go.Proofs.YtgfnelhbdhbklaaGreat
open Go.RowKit
set_option linter.unusedVariables false
set_option maxRecDepth 20000
namespace Wd
instance decClassA : DecidableEq ClassA := fun a b => decidable_of_iff (a.nm = b.nm ∧ a.super = b.super ∧ a.fields = b.fields ∧ a.binds = b.binds) (by
  cases a; cases b; simp)
instance decMethA : DecidableEq MethA := fun a b => decidable_of_iff (a.args = b.args ∧ a.temps = b.temps ∧ a.lits = b.lits ∧ a.code = b.code) (by
  cases a; cases b; simp)
instance decObjA : DecidableEq ObjA := fun a b => decidable_of_iff (a.cls = b.cls ∧ a.flds = b.flds) (by
  cases a; cases b; simp)
def sameU (U V : UnitA) : Bool := decide (U.names = V.names) && (decide (U.classes = V.classes) && (decide (U.methods = V.methods) && (decide (U.objects = V.objects) && decide (U.main = V.main))))
theorem sameU_iff (U V : UnitA) : sameU U V = true ↔ U = V := by
  unfold sameU
  simp only [Bool.and_eq_true, decide_eq_true_iff]
  cases U; cases V; simp
theorem sameU_ne {U V : UnitA} (h : ¬ U = V) : sameU U V = false := by
  cases e : sameU U V with
  | false => rfl
  | true => exact absurd ((sameU_iff U V).1 e) h
theorem sameU_self (U : UnitA) : sameU U U = true := (sameU_iff U U).2 rfl
theorem methEq_iff (A B : MethA) : methEq A B = decide (A = B) := by
  unfold methEq
  cases A; cases B
  simp [Bool.decide_and]
theorem MtV.at {w : World} {ad : Option Addr} {n cap : Nat} {L : List MethA} (h : MtV w (.slice ad n cap) L) {k : Nat} {x : MethA} (hx : L[k]? = some x) : ∃ g off la lc ca cc, ad = some ⟨g, off, none⟩ ∧ w.cell? ⟨g, off + k * 4, none⟩ = some (.int .i64 x.args) ∧ w.cell? ⟨g, off + k * 4 + 1, none⟩ = some (.int .i64 x.temps) ∧ w.cell? ⟨g, off + k * 4 + 2, none⟩ = some (.slice la x.lits.length lc) ∧ w.cell? ⟨g, off + k * 4 + 3, none⟩ = some (.slice ca x.code.length cc) ∧ MeV w (.agg #[.int .i64 x.args, .int .i64 x.temps, .slice la x.lits.length lc, .slice ca x.code.length cc]) x := by
  obtain ⟨ad', cap', e, _, _, h3⟩ := h.ex
  cases e
  obtain ⟨i1, i2, g, off, lv, cv, e, c0, c1, c2, c3, p, q⟩ := h3 k x hx
  obtain ⟨la, lc, rfl, _, _⟩ := p.form
  obtain ⟨cb, cc, rfl, _, _⟩ := q.form
  exact ⟨g, off, la, lc, cb, cc, e, c0, c1, c2, c3, ⟨⟨la, lc, cb, cc, rfl, p, q⟩, i1, i2⟩⟩
/-- two programs lie boxed -/
structure S5 (w wr : World) (U V : UnitA) (na : Option Addr) (nc : Nat) (ca : Option Addr) (cc : Nat) (ma : Option Addr) (mc : Nat) (oa : Option Addr) (oc : Nat) (pa : Option Addr) (pc : Nat) (qa : Option Addr) (qc : Nat) (ra : Option Addr) (rc : Nat) (sa : Option Addr) (sc : Nat) (l1 l2 l3 l4 r1 r2 r3 r4 : Nat) : Prop where
  mk ::
  cells : wr.cell? ⟨w.heap.size, 0, none⟩ = some (.slice na l1 nc) ∧ wr.cell? ⟨w.heap.size, 1, none⟩ = some (.slice ca l2 cc) ∧ wr.cell? ⟨w.heap.size, 2, none⟩ = some (.slice ma l3 mc) ∧ wr.cell? ⟨w.heap.size, 3, none⟩ = some (.slice oa l4 oc) ∧ wr.cell? ⟨w.heap.size, 4, none⟩ = some (.int .i64 U.main) ∧ wr.cell? ⟨w.heap.size + 1, 0, none⟩ = some (.slice pa r1 pc) ∧ wr.cell? ⟨w.heap.size + 1, 1, none⟩ = some (.slice qa r2 qc) ∧ wr.cell? ⟨w.heap.size + 1, 2, none⟩ = some (.slice ra r3 rc) ∧ wr.cell? ⟨w.heap.size + 1, 3, none⟩ = some (.slice sa r4 sc) ∧ wr.cell? ⟨w.heap.size + 1, 4, none⟩ = some (.int .i64 V.main)
  views : NmV wr (.slice na l1 nc) U.names ∧ ClV wr (.slice ca l2 cc) U.classes ∧ MtV wr (.slice ma l3 mc) U.methods ∧ ObV wr (.slice oa l4 oc) U.objects ∧ NmV wr (.slice pa r1 pc) V.names ∧ ClV wr (.slice qa r2 qc) V.classes ∧ MtV wr (.slice ra r3 rc) V.methods ∧ ObV wr (.slice sa r4 sc) V.objects
  lens : l1 = U.names.length ∧ l2 = U.classes.length ∧ l3 = U.methods.length ∧ l4 = U.objects.length ∧ r1 = V.names.length ∧ r2 = V.classes.length ∧ r3 = V.methods.length ∧ r4 = V.objects.length
  les : l1 ≤ maxLen ∧ l2 ≤ maxLen ∧ l3 ≤ maxLen ∧ l4 ≤ maxLen
  caps : l1 ≤ nc ∧ l2 ≤ cc ∧ l3 ≤ mc ∧ l4 ≤ oc ∧ r1 ≤ pc ∧ r2 ≤ qc ∧ r3 ≤ rc ∧ r4 ≤ sc
  bel : Below w.heap.size w wr
section
variable {w wr w2 : World} {U V : UnitA} {na ca ma oa pa qa ra sa : Option Addr} {nc cc mc oc pc qc rc sc l1 l2 l3 l4 r1 r2 r3 r4 : Nat}
theorem S5.up (h : S5 w wr U V na nc ca cc ma mc oa oc pa pc qa qc ra rc sa sc l1 l2 l3 l4 r1 r2 r3 r4) (b : Below wr.heap.size wr w2) : S5 w w2 U V na nc ca cc ma mc oa oc pa pc qa qc ra rc sa sc l1 l2 l3 l4 r1 r2 r3 r4 := by
  obtain ⟨a0, a1, a2, a3, a4, a5, a6, a7, a8, a9⟩ := h.cells
  obtain ⟨v0, v1, v2, v3, v4, v5, v6, v7⟩ := h.views
  exact ⟨⟨cell_up b a0, cell_up b a1, cell_up b a2, cell_up b a3, cell_up b a4, cell_up b a5, cell_up b a6, cell_up b a7, cell_up b a8, cell_up b a9⟩, ⟨v0.up b, v1.up b, v2.up b, v3.up b, v4.up b, v5.up b, v6.up b, v7.up b⟩, h.lens, h.les, h.caps, h.bel.trans (b.mono h.bel.size)⟩
theorem S5.drew (h : S5 w wr U V na nc ca cc ma mc oa oc pa pc qa qc ra rc sa sc l1 l2 l3 l4 r1 r2 r3 r4) : S5 w wr.drew U V na nc ca cc ma mc oa oc pa pc qa qc ra rc sa sc l1 l2 l3 l4 r1 r2 r3 r4 := h.up ((Below.refl _ _).drew)
theorem S5.no1 (h : S5 w wr U V na nc ca cc ma mc oa oc pa pc qa qc ra rc sa sc l1 l2 l3 l4 r1 r2 r3 r4) (e : ¬ l1 = r1) : sameU U V = false := sameU_ne (fun q => e (by obtain ⟨h1, h2, h3, h4, h5, h6, h7, h8⟩ := h.lens; rw [h1, h5, q]))
theorem S5.no2 (h : S5 w wr U V na nc ca cc ma mc oa oc pa pc qa qc ra rc sa sc l1 l2 l3 l4 r1 r2 r3 r4) (e : ¬ l2 = r2) : sameU U V = false := sameU_ne (fun q => e (by obtain ⟨h1, h2, h3, h4, h5, h6, h7, h8⟩ := h.lens; rw [h2, h6, q]))
theorem S5.no3 (h : S5 w wr U V na nc ca cc ma mc oa oc pa pc qa qc ra rc sa sc l1 l2 l3 l4 r1 r2 r3 r4) (e : ¬ l3 = r3) : sameU U V = false := sameU_ne (fun q => e (by obtain ⟨h1, h2, h3, h4, h5, h6, h7, h8⟩ := h.lens; rw [h3, h7, q]))
theorem S5.no4 (h : S5 w wr U V na nc ca cc ma mc oa oc pa pc qa qc ra rc sa sc l1 l2 l3 l4 r1 r2 r3 r4) (e : ¬ l4 = r4) : sameU U V = false := sameU_ne (fun q => e (by obtain ⟨h1, h2, h3, h4, h5, h6, h7, h8⟩ := h.lens; rw [h4, h8, q]))
end
theorem sameU_no1 {U V : UnitA} {k : Nat} {x y : ByteArray} (hx : U.names[k]? = some x) (hy : V.names[k]? = some y) (e : ¬ x = y) : sameU U V = false := sameU_ne (fun q => e (by subst q; rw [hx] at hy; exact Option.some.inj hy))
theorem sameU_no2 {U V : UnitA} {k : Nat} {x y : ClassA} (hx : U.classes[k]? = some x) (hy : V.classes[k]? = some y) (e : ¬ x = y) : sameU U V = false := sameU_ne (fun q => e (by subst q; rw [hx] at hy; exact Option.some.inj hy))
theorem sameU_no3 {U V : UnitA} {k : Nat} {x y : MethA} (hx : U.methods[k]? = some x) (hy : V.methods[k]? = some y) (e : ¬ x = y) : sameU U V = false := sameU_ne (fun q => e (by subst q; rw [hx] at hy; exact Option.some.inj hy))
theorem sameU_no4 {U V : UnitA} {k : Nat} {x y : ObjA} (hx : U.objects[k]? = some x) (hy : V.objects[k]? = some y) (e : ¬ x = y) : sameU U V = false := sameU_ne (fun q => e (by subst q; rw [hx] at hy; exact Option.some.inj hy))
theorem EqR.all {T : Type} {A B : List T} {n : Nat} (h : EqR A B n) (ha : n = A.length) (hb : n = B.length) : A = B := by
  have := h.eq
  rwa [ha, List.take_length, ← ha, hb, List.take_length] at this
end Wd
end Go.Proofs.YtgfnelhbdhbklaaGreat

/- The document's own instructions: is one right where it stands? -/
namespace Go.Proofs.YtgfnelhbdhbklaaGreat
open Go.RowKit
set_option linter.unusedVariables false
set_option maxRecDepth 20000
namespace Wd
theorem ins_other {m : MethA} {pc op arg : Int} (h : op ≠ 0 ∧ op ≠ 10 ∧ op ≠ 1 ∧ op ≠ 11 ∧ op ≠ 2 ∧ op ≠ 12 ∧ op ≠ 13 ∧ op ≠ 20 ∧ op ≠ 18 ∧ op ≠ 15 ∧ op ≠ 17 ∧ op ≠ 16 ∧ op ≠ 21) : insR m pc op arg = decide (op ≤ 21) := by
  unfold insR
  rw [if_neg (by omega), if_neg (by omega), if_neg (by omega), if_neg (by omega), if_neg (by omega), if_neg (by omega), if_neg (by omega), if_neg (by omega), if_neg (by omega)]
end Wd
end Go.Proofs.YtgfnelhbdhbklaaGreat

/- The document's own instructions: is a method right? -/
namespace Go.Proofs.YtgfnelhbdhbklaaGreat
open Go.RowKit
set_option linter.unusedVariables false
set_option maxRecDepth 20000
namespace Wd
/-- a program in a box of its own -/
structure UnB (w : World) (q : Nat) (u : Value) (U : UnitA) (na ka ma oa : Option Addr) (nc kc mc oc : Nat) : Prop where
  e : u = .agg #[.slice na U.names.length nc, .slice ka U.classes.length kc, .slice ma U.methods.length mc, .slice oa U.objects.length oc, .int .i64 U.main]
  c0 : w.cell? ⟨q, 0, none⟩ = some (.slice na U.names.length nc)
  c1 : w.cell? ⟨q, 1, none⟩ = some (.slice ka U.classes.length kc)
  c2 : w.cell? ⟨q, 2, none⟩ = some (.slice ma U.methods.length mc)
  c3 : w.cell? ⟨q, 3, none⟩ = some (.slice oa U.objects.length oc)
  c4 : w.cell? ⟨q, 4, none⟩ = some (.int .i64 U.main)
  un : UnK w u U
theorem UnB.born {w : World} {U : UnitA} {na ka ma oa : Option Addr} {nc kc mc oc : Nat} (h : UnK w (.agg #[.slice na U.names.length nc, .slice ka U.classes.length kc, .slice ma U.methods.length mc, .slice oa U.objects.length oc, .int .i64 U.main]) U) : UnB (w.alloc (.cells #[.slice na U.names.length nc, .slice ka U.classes.length kc, .slice ma U.methods.length mc, .slice oa U.objects.length oc, .int .i64 U.main] 27)) w.heap.size (.agg #[.slice na U.names.length nc, .slice ka U.classes.length kc, .slice ma U.methods.length mc, .slice oa U.objects.length oc, .int .i64 U.main]) U na ka ma oa nc kc mc oc :=
  ⟨rfl, by simp, by simp, by simp, by simp, by simp, h.up ((Below.refl _ _).alloc (Nat.le_refl _) _)⟩
theorem UnB.up {w w1 : World} {q : Nat} {u : Value} {U : UnitA} {na ka ma oa : Option Addr} {nc kc mc oc : Nat} (h : UnB w q u U na ka ma oa nc kc mc oc) (b : Below w.heap.size w w1) : UnB w1 q u U na ka ma oa nc kc mc oc :=
  ⟨h.e, cell_up b h.c0, cell_up b h.c1, cell_up b h.c2, cell_up b h.c3, cell_up b h.c4, h.un.up b⟩
def metT (m : MethA) (nn nc nm : Nat) : Int := if m.lits.all (fun x => litR x nn nc nm) = false then 12 else if insF m (m.code.length / 2) 0 = false then 12 else 0
theorem met_long {m : MethA} {nn nc nm : Nat} (h : m.code.length > 128 ∨ m.lits.length > 16 ∨ m.args < 0 ∨ m.temps < 0 ∨ m.args > 8 ∨ m.temps > 8 - m.args) : metR m nn nc nm = 3 := if_pos h
theorem met_len {m : MethA} {nn nc nm : Nat} (h : ¬ (m.code.length > 128 ∨ m.lits.length > 16 ∨ m.args < 0 ∨ m.temps < 0 ∨ m.args > 8 ∨ m.temps > 8 - m.args)) (h2 : m.code.length < 2 ∨ m.code.length % 2 ≠ 0) : metR m nn nc nm = 12 := by
  unfold metR; rw [if_neg h, if_pos h2]
theorem met_last {m : MethA} {nn nc nm : Nat} (h : ¬ (m.code.length > 128 ∨ m.lits.length > 16 ∨ m.args < 0 ∨ m.temps < 0 ∨ m.args > 8 ∨ m.temps > 8 - m.args)) (h2 : ¬ (m.code.length < 2 ∨ m.code.length % 2 ≠ 0)) (h3 : byAt m.code (m.code.length - 2) ≠ 14 ∧ byAt m.code (m.code.length - 2) ≠ 19 ∧ byAt m.code (m.code.length - 2) ≠ 16) : metR m nn nc nm = 12 := by
  unfold metR; rw [if_neg h, if_neg h2, if_pos h3]
theorem met_t {m : MethA} {nn nc nm : Nat} (h : ¬ (m.code.length > 128 ∨ m.lits.length > 16 ∨ m.args < 0 ∨ m.temps < 0 ∨ m.args > 8 ∨ m.temps > 8 - m.args)) (h2 : ¬ (m.code.length < 2 ∨ m.code.length % 2 ≠ 0)) (h3 : ¬ (byAt m.code (m.code.length - 2) ≠ 14 ∧ byAt m.code (m.code.length - 2) ≠ 19 ∧ byAt m.code (m.code.length - 2) ≠ 16)) : metR m nn nc nm = metT m nn nc nm := by
  unfold metR; rw [if_neg h, if_neg h2, if_neg h3]; rfl
theorem metT_lit {m : MethA} {nn nc nm : Nat} (h : m.lits.all (fun x => litR x nn nc nm) = false) : metT m nn nc nm = 12 := if_pos h
theorem metT_ins {m : MethA} {nn nc nm : Nat} (h : m.lits.all (fun x => litR x nn nc nm) = true) (h2 : insF m (m.code.length / 2) 0 = false) : metT m nn nc nm = 12 := by
  unfold metT; rw [if_neg (by rw [h]; decide), if_pos h2]
theorem metT_ok {m : MethA} {nn nc nm : Nat} (h : m.lits.all (fun x => litR x nn nc nm) = true) (h2 : insF m (m.code.length / 2) 0 = true) : metT m nn nc nm = 0 := by
  unfold metT; rw [if_neg (by rw [h]; decide), if_neg (by rw [h2]; decide)]
theorem all_next {α : Type} {L : List α} {f : α → Bool} {k : Nat} {x : α} (h : L[k]? = some x) : (L.drop k).all f = (f x && (L.drop (k + 1)).all f) := by
  obtain ⟨hk, e⟩ := List.getElem?_eq_some_iff.1 h
  rw [← e, List.drop_eq_getElem_cons hk, List.all_cons]
theorem ins_next {m : MethA} {N j : Nat} (h : j < N) : insF m (N - j) (2 * j) = (insR m ((2 * j : Nat) : Int) (byAt m.code (2 * j)) (byAt m.code (2 * j + 1)) && insF m (N - (j + 1)) (2 * (j + 1))) := by
  rw [show N - j = (N - (j + 1)) + 1 by omega, insF, show 2 * j + 2 = 2 * (j + 1) by omega]
/-- all that follows the first tests -/
structure MSt (w0 wr : World) (q q2 : Nat) (v u : Value) (m : MethA) (U : UnitA) (la ca na ka ma oa : Option Addr) (lc cc nc kc mc oc : Nat) : Prop where
  b : MeB wr q v m la ca lc cc
  u : UnB wr q2 u U na ka ma oa nc kc mc oc
  bel : Below w0.heap.size w0 wr
theorem MSt.up {w0 w w1 : World} {q q2 : Nat} {v u : Value} {m : MethA} {U : UnitA} {la ca na ka ma oa : Option Addr} {lc cc nc kc mc oc : Nat} (h : MSt w0 w q q2 v u m U la ca na ka ma oa lc cc nc kc mc oc) (b : Below w.heap.size w w1) : MSt w0 w1 q q2 v u m U la ca na ka ma oa lc cc nc kc mc oc :=
  ⟨h.b.up b, h.u.up b, h.bel.trans (b.mono h.bel.size)⟩
end Wd
end Go.Proofs.YtgfnelhbdhbklaaGreat

/- Is a program right? (the document's own) -/
namespace Go.Proofs.YtgfnelhbdhbklaaGreat
open Go.RowKit
set_option linter.unusedVariables false
set_option maxRecDepth 20000
namespace Wd
/-- the first thing that is wrong -/
def firstE : List Int → Int
  | [] => 0
  | e :: L => if e = 0 then firstE L else e
def eBinds (B : List (Int × Int)) : Int := if (ofD B D0).isSome = true then 0 else 14
def nmAt (L : List ByteArray) (i : Int) : ByteArray := L.getD i.toNat ⟨#[]⟩
def agAt (L : List MethA) (i : Int) : Int := match L[i.toNat]? with
  | some x => x.args
  | none => 0
def eArg (U : UnitA) (b : Int × Int) : Int := if argsR (nmAt U.names b.1) = agAt U.methods b.2 then 0 else 15
def eArgs (U : UnitA) : List ClassA → List Int
  | [] => []
  | c :: C => c.binds.map (eArg U) ++ eArgs U C
def longB (U : UnitA) : Bool := decide (48 < U.names.length) || (decide (U.methods.length < 1) || (decide (32 < U.methods.length) || (decide (U.objects.length < 1) || decide (40 < U.objects.length))))
def mainE (U : UnitA) : Int := if 0 ≤ U.main ∧ U.main < (U.methods.length : Int) ∧ agAt U.methods U.main = 0 then 0 else 15
def restO (U : UnitA) (k : Nat) : List Int := (U.objects.drop k).map (fun x => if objB x U.classes U.objects.length = true then (0 : Int) else 16) ++ [mainE U]
def restA (U : UnitA) (k : Nat) : List Int := eArgs U (U.classes.drop k) ++ restO U 0
def restM (U : UnitA) (k : Nat) : List Int := (U.methods.drop k).map (fun m => metR m U.names.length U.classes.length U.methods.length) ++ restA U 0
def restC (U : UnitA) (k : Nat) : List Int := (U.classes.drop k).map (fun c => eBinds c.binds) ++ restM U 0
/-- what is wrong with a program; 0: nothing -/
def unitR (U : UnitA) : Int := firstE ((if longB U = true then (3 : Int) else 0) :: (if namesB U.names = true then (0 : Int) else 13) :: shapeR U.classes U.names.length U.methods.length :: restC U 0)
/-- so far nothing is wrong; X: what is still looked at -/
structure StU (U : UnitA) (X : List Int) : Prop where
  mk ::
  eq : unitR U = firstE X
theorem StU.ok {U : UnitA} {X : List Int} {e : Int} (h : StU U (e :: X)) (he : e = 0) : StU U X := ⟨by rw [h.eq, firstE, if_pos he]⟩
theorem StU.bad {U : UnitA} {X : List Int} {e : Int} (h : StU U (e :: X)) (he : ¬ e = 0) : unitR U = e := by rw [h.eq, firstE, if_neg he]
theorem StU.start (U : UnitA) : StU U ((if longB U = true then (3 : Int) else 0) :: (if namesB U.names = true then (0 : Int) else 13) :: shapeR U.classes U.names.length U.methods.length :: restC U 0) := ⟨rfl⟩
theorem drop_all {T : Type} {L : List T} {k : Nat} (h : k = L.length) : L.drop k = [] := by subst h; exact List.drop_length
/-- classes that are right: each bind is -/
theorem from_binds {L : List ClassA} {names methods : Int} : ∀ (C : List ClassA) (i : Nat), shapeFrom L names methods i C = 0 → ∀ c ∈ C, bindsOk c.binds names methods = true
  | [], _, _, c, h => by cases h
  | d :: C, i, e, c, h => by
    rw [shapeFrom] at e
    split at e
    · cases e
    · split at e
      · cases e
      · split at e
        · cases e
        · split at e
          · cases e
          · rename_i hb
            rcases List.mem_cons.1 h with rfl | h
            · simpa using hb
            · exact from_binds C (i + 1) e c h
theorem shape_binds {L : List ClassA} {names methods : Int} (e : shapeR L names methods = 0) {k : Nat} {c : ClassA} (hc : L[k]? = some c) {j : Nat} {b : Int × Int} (hb : c.binds[j]? = some b) : 0 ≤ b.1 ∧ b.1 < names ∧ 0 ≤ b.2 ∧ b.2 < methods := by
  unfold shapeR at e
  split at e
  · cases e
  · split at e
    · cases e
    · have h1 := from_binds L 0 e c (List.mem_of_getElem? hc)
      unfold bindsOk at h1
      simp only [Bool.and_eq_true, List.all_eq_true] at h1
      have h2 := h1.1.1 b (List.mem_of_getElem? hb)
      unfold bindOk at h2
      simp only [Bool.and_eq_true, decide_eq_true_iff] at h2
      omega
theorem eBinds_14 {B : List (Int × Int)} (e : ¬ eBinds B = 0) : eBinds B = 14 := by
  unfold eBinds at e ⊢
  split
  · rename_i h; rw [if_pos h] at e; exact absurd rfl e
  · rfl
/-- a program lies boxed -/
structure V1 (w wr : World) (U : UnitA) (na : Option Addr) (nc : Nat) (ca : Option Addr) (cc : Nat) (ma : Option Addr) (mc : Nat) (oa : Option Addr) (oc : Nat) (l1 l2 l3 l4 : Nat) : Prop where
  mk ::
  cells : wr.cell? ⟨w.heap.size, 0, none⟩ = some (.slice na l1 nc) ∧ wr.cell? ⟨w.heap.size, 1, none⟩ = some (.slice ca l2 cc) ∧ wr.cell? ⟨w.heap.size, 2, none⟩ = some (.slice ma l3 mc) ∧ wr.cell? ⟨w.heap.size, 3, none⟩ = some (.slice oa l4 oc) ∧ wr.cell? ⟨w.heap.size, 4, none⟩ = some (.int .i64 U.main)
  views : NmV wr (.slice na l1 nc) U.names ∧ ClV wr (.slice ca l2 cc) U.classes ∧ MtV wr (.slice ma l3 mc) U.methods ∧ ObV wr (.slice oa l4 oc) U.objects
  lens : l1 = U.names.length ∧ l2 = U.classes.length ∧ l3 = U.methods.length ∧ l4 = U.objects.length
  les : l1 ≤ maxLen ∧ l2 ≤ maxLen ∧ l3 ≤ maxLen ∧ l4 ≤ maxLen
  caps : l1 ≤ nc ∧ l2 ≤ cc ∧ l3 ≤ mc ∧ l4 ≤ oc
  bel : Below w.heap.size w wr
section
variable {w wr w2 : World} {U : UnitA} {na ca ma oa : Option Addr} {nc cc mc oc l1 l2 l3 l4 : Nat}
theorem V1.up (h : V1 w wr U na nc ca cc ma mc oa oc l1 l2 l3 l4) (b : Below wr.heap.size wr w2) : V1 w w2 U na nc ca cc ma mc oa oc l1 l2 l3 l4 := by
  obtain ⟨a0, a1, a2, a3, a4⟩ := h.cells
  obtain ⟨v0, v1, v2, v3⟩ := h.views
  exact ⟨⟨cell_up b a0, cell_up b a1, cell_up b a2, cell_up b a3, cell_up b a4⟩, ⟨v0.up b, v1.up b, v2.up b, v3.up b⟩, h.lens, h.les, h.caps, h.bel.trans (b.mono h.bel.size)⟩
theorem V1.drew (h : V1 w wr U na nc ca cc ma mc oa oc l1 l2 l3 l4) : V1 w wr.drew U na nc ca cc ma mc oa oc l1 l2 l3 l4 := h.up ((Below.refl _ _).drew)
theorem V1.unk (h : V1 w wr U na nc ca cc ma mc oa oc l1 l2 l3 l4) : UnK wr (.agg #[.slice na l1 nc, .slice ca l2 cc, .slice ma l3 mc, .slice oa l4 oc, .int .i64 U.main]) U := by
  obtain ⟨v0, v1, v2, v3⟩ := h.views
  obtain ⟨e1, e2, e3, e4⟩ := h.lens
  subst e1; subst e2; subst e3; subst e4
  exact ⟨⟨na, nc, ca, cc, ma, mc, oa, oc, rfl, ⟨v0, v1, v2, v3⟩⟩⟩
end
end Wd
end Go.Proofs.YtgfnelhbdhbklaaGreat
