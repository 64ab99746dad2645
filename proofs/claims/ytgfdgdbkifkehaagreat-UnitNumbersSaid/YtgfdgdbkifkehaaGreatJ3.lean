/- Texts joined: KX, OPure, ORef, OFet, OLit, UNO, UNF, FPure, UNL, UNS. -/
import Derived.Test.YtgfdgdbkifkehaaGreatJ1
import Derived.Test.YtgfdgdbkifkehaaGreatJ2
import Derived.Deep.DeepCutAuto
import Derived.Deep.RegionHeld3
import Derived.Deep.RegionWith
import Derived.Laws.BitsAllLaws
import Derived.Laws.BitsLemmas
import Derived.RowKit
import Derived.LoopN
import Derived.StillTailTactics
/- A tape's program, whole: what is read of it. -/
namespace Go.Proofs.YtgfdgdbkifkehaaGreat
open Go.RowKit
set_option linter.unusedVariables false
set_option maxRecDepth 20000
namespace Wd
def by2 (y : Int × Int) : Prop := (0 ≤ y.1 ∧ y.1 ≤ 255) ∧ (0 ≤ y.2 ∧ y.2 ≤ 255)
theorem by2_wr8 (a b : Int) : by2 (wr8 a, wr8 b) := ⟨wr8_bd a, wr8_bd b⟩
theorem pieceOk_by {l : List (Int × Int)} (h : pieceOk l) : ∀ y ∈ l, by2 y := by
  unfold pieceOk at h
  rcases h with h | h | h | h | h | h | h | h | h | h | h | h | h | h | h | h | h | h
  · obtain ⟨_, _, rfl⟩ := h
    intro y hy
    simp only [List.mem_cons, List.not_mem_nil, or_false] at hy
    rcases hy with rfl | rfl | rfl <;> exact by2_wr8 _ _
  · obtain ⟨_, _, rfl⟩ := h
    intro y hy
    simp only [List.mem_cons, List.not_mem_nil, or_false] at hy
    rcases hy with rfl | rfl | rfl <;> exact by2_wr8 _ _
  · obtain ⟨_, _, _, _, rfl⟩ := h
    intro y hy
    simp only [List.mem_cons, List.not_mem_nil, or_false] at hy
    rcases hy with rfl | rfl | rfl | rfl | rfl <;> exact by2_wr8 _ _
  · obtain ⟨_, _, _, _, _, _, rfl⟩ := h
    intro y hy
    simp only [List.mem_cons, List.not_mem_nil, or_false] at hy
    rcases hy with rfl | rfl | rfl | rfl | rfl <;> exact by2_wr8 _ _
  · obtain ⟨_, _, _, _, rfl⟩ := h
    intro y hy
    simp only [List.mem_cons, List.not_mem_nil, or_false] at hy
    rcases hy with rfl | rfl | rfl <;> exact by2_wr8 _ _
  · obtain ⟨_, _, _, _, rfl⟩ := h
    intro y hy
    simp only [List.mem_cons, List.not_mem_nil, or_false] at hy
    rcases hy with rfl | rfl | rfl | rfl <;> exact by2_wr8 _ _
  · obtain ⟨_, _, _, _, _, _, _, _, rfl⟩ := h
    intro y hy
    simp only [List.mem_cons, List.not_mem_nil, or_false] at hy
    rcases hy with rfl | rfl | rfl | rfl | rfl <;> exact by2_wr8 _ _
  · obtain ⟨_, _, _, _, rfl⟩ := h
    intro y hy
    simp only [List.mem_cons, List.not_mem_nil, or_false] at hy
    rcases hy with rfl | rfl | rfl | rfl <;> exact by2_wr8 _ _
  · cases h
    intro y hy
    simp only [List.mem_cons, List.not_mem_nil, or_false] at hy
    rcases hy with rfl | rfl | rfl <;> exact by2_wr8 _ _
  · obtain ⟨_, _, rfl⟩ := h
    intro y hy
    simp only [List.mem_cons, List.not_mem_nil, or_false] at hy
    rcases hy with rfl | rfl | rfl | rfl <;> exact by2_wr8 _ _
  · obtain ⟨_, _, rfl⟩ := h
    intro y hy
    simp only [List.mem_cons, List.not_mem_nil, or_false] at hy
    rcases hy with rfl | rfl | rfl | rfl <;> exact by2_wr8 _ _
  · obtain ⟨_, _, _, _, rfl⟩ := h
    intro y hy
    simp only [List.mem_cons, List.not_mem_nil, or_false] at hy
    rcases hy with rfl | rfl | rfl <;> exact by2_wr8 _ _
  · obtain ⟨_, _, rfl⟩ := h
    intro y hy
    simp only [List.mem_cons, List.not_mem_nil, or_false] at hy
    rcases hy with rfl | rfl <;> exact by2_wr8 _ _
  · obtain ⟨_, _, _, _, rfl⟩ := h
    intro y hy
    simp only [List.mem_cons, List.not_mem_nil, or_false] at hy
    rcases hy with rfl | rfl | rfl | rfl <;> exact by2_wr8 _ _
  · obtain ⟨_, _, rfl⟩ := h
    intro y hy
    simp only [List.mem_cons, List.not_mem_nil, or_false] at hy
    rcases hy with rfl | rfl | rfl | rfl | rfl <;> exact by2_wr8 _ _
  · obtain ⟨_, _, rfl⟩ := h
    intro y hy
    simp only [List.mem_cons, List.not_mem_nil, or_false] at hy
    rcases hy with rfl | rfl | rfl | rfl <;> exact by2_wr8 _ _
  · obtain ⟨_, _, _, _, rfl⟩ := h
    intro y hy
    simp only [List.mem_cons, List.not_mem_nil, or_false] at hy
    rcases hy with rfl | rfl | rfl <;> exact by2_wr8 _ _
  · obtain ⟨_, _, _, _, rfl⟩ := h
    intro y hy
    simp only [List.mem_cons, List.not_mem_nil, or_false] at hy
    rcases hy with rfl | rfl <;> exact by2_wr8 _ _
theorem codeOk_by {bl : Bool} {I : List (Int × Int)} (h : codeOk bl I) : ∀ y ∈ I, by2 y := by
  obtain ⟨P, S, q, r, l, rfl, _, _, hP, hS, _⟩ := h.ex
  intro y hy
  rcases List.mem_append.1 hy with hy | hy
  · rcases List.mem_append.1 hy with hy | hy
    · obtain ⟨x, hx, hyx⟩ := List.mem_flatten.1 hy
      exact pieceOk_by (hP x hx) y hyx
    · rcases hS with rfl | rfl
      · cases hy
      · simp only [List.mem_cons, List.not_mem_nil, or_false] at hy
        rcases hy with rfl | rfl <;> exact by2_wr8 _ _
  · simp only [List.mem_cons, List.not_mem_nil, or_false] at hy
    rcases hy with rfl | rfl <;> exact by2_wr8 _ _
theorem flat_by {I : List (Int × Int)} (h : ∀ y ∈ I, by2 y) : ∀ x ∈ flat I, 0 ≤ x ∧ x ≤ 255 := by
  intro x hx
  obtain ⟨y, hy, hxy⟩ := List.mem_flatMap.1 hx
  simp only [List.mem_cons, List.not_mem_nil, or_false] at hxy
  rcases hxy with rfl | rfl
  · exact (h y hy).1
  · exact (h y hy).2
theorem in64_of {x : Int} (h0 : -1000000000000 ≤ x) (h1 : x ≤ 1000000000000) : In64 x := ⟨by omega, by omega⟩
theorem bnd_in {k : Nat} {b : List (Int × Int)} (h : bndSub k b) (hk : k ≤ 1000) : ∀ x ∈ b, In64 x.1 ∧ In64 x.2 := by
  obtain ⟨S, _, h2, rfl⟩ := h
  intro x hx
  obtain ⟨s, hs, rfl⟩ := List.mem_map.1 hx
  have := h2 s hs
  exact ⟨in64_of (by simp only; omega) (by simp only; omega), in64_of (by simp only; omega) (by simp only; omega)⟩
theorem lits_in {c : Int} {X : List (Int × Int)} (h : litsOk c X) (hc : c ≤ 1000) : ∀ x ∈ X, In64 x.1 ∧ In64 x.2 := by
  obtain ⟨A, B, rfl, _, _, hA, hB⟩ := h
  intro x hx
  rcases List.mem_append.1 hx with hx | hx
  · rcases List.mem_append.1 hx with hx | hx
    · rcases List.mem_append.1 hx with hx | hx
      · obtain ⟨e, h⟩ := hA x hx
        exact ⟨in64_of (by omega) (by omega), in64_of (by omega) (by omega)⟩
      · obtain ⟨s, hs, rfl⟩ := List.mem_map.1 hx
        have := List.mem_range.1 hs
        exact ⟨in64_of (by simp only; omega) (by simp only; omega), in64_of (by simp only; omega) (by simp only; omega)⟩
    · obtain ⟨e, h0, h1⟩ := hB x hx
      exact ⟨in64_of (by omega) (by omega), in64_of (by omega) (by omega)⟩
  · simp only [List.mem_cons, List.not_mem_nil, or_false] at hx
    rcases hx with rfl | rfl <;> exact ⟨in64_of (by simp only; omega) (by simp only; omega), in64_of (by simp only; omega) (by simp only; omega)⟩
theorem val_in {N : Nat} {v : Int × Int} (h : valOk N v) (hN : N ≤ 1000) : In64 v.1 ∧ In64 v.2 := by
  rcases h with rfl | rfl | rfl | ⟨e, h0, h1⟩ | ⟨e, h0, h1⟩
  · exact ⟨in64_of (by simp only; omega) (by simp only; omega), in64_of (by simp only; omega) (by simp only; omega)⟩
  · exact ⟨in64_of (by simp only; omega) (by simp only; omega), in64_of (by simp only; omega) (by simp only; omega)⟩
  · exact ⟨in64_of (by simp only; omega) (by simp only; omega), in64_of (by simp only; omega) (by simp only; omega)⟩
  · exact ⟨in64_of (by omega) (by omega), in64_of (by omega) (by omega)⟩
  · exact ⟨in64_of (by omega) (by omega), in64_of (by omega) (by omega)⟩
theorem cls_in {L : List ClassA} {k : Nat} {c : ClassA} (h : clsOk L k c) (hk : k ≤ 1000) : In64 c.super ∧ In64 c.fields := by
  rcases (show k = 0 ∨ k = 1 ∨ 2 ≤ k by omega) with e | e | e
  · obtain ⟨_, a, b⟩ := h.z e
    rw [a, b]
    exact ⟨in64_of (by omega) (by omega), in64_of (by omega) (by omega)⟩
  · obtain ⟨_, a, b⟩ := h.o e
    rw [a, b]
    exact ⟨in64_of (by omega) (by omega), in64_of (by omega) (by omega)⟩
  · obtain ⟨a, b⟩ := h.fld e
    refine ⟨?_, in64_of (by omega) (by omega)⟩
    rcases h.sup e with e1 | ⟨e1, e2, _⟩
    · rw [e1]; exact in64_of (by omega) (by omega)
    · exact in64_of (by omega) (by omega)
theorem meth_in {c : Int} {j : Nat} {x : MethA} (h : methOk c j x) : In64 x.args ∧ In64 x.temps := by
  refine ⟨?_, by rw [h.temps]; exact in64_of (by omega) (by omega)⟩
  rw [h.args]
  split
  · have := argOf_le j; exact in64_of (by omega) (by omega)
  · split <;> exact in64_of (by omega) (by omega)
theorem obj_in {L : List ClassA} {N j : Nat} {x : ObjA} (h : objOk L N j x) (hL : L.length ≤ 1000) : In64 x.cls := by
  rcases h.cls with ⟨h2, d, hd, _⟩ | ⟨_, e, _⟩
  · have := (List.getElem?_eq_some_iff.1 hd).1
    exact in64_of (by omega) (by omega)
  · rw [e]; exact in64_of (by omega) (by omega)
/-- five cells are written -/
abbrev set5 (w : World) (q : Nat) (v0 v1 v2 v3 v4 : Value) : World := (set4 w q v0 v1 v2 v3).setCell ⟨q, 4, none⟩ v4
theorem cell_far5 {w : World} {q i j : Nat} {v : Value} (hij : i ≠ j) : (w.setCell ⟨q, i, none⟩ v).cell? ⟨q, j, none⟩ = w.cell? ⟨q, j, none⟩ := World.cell?_setCell_other _ _ _ _ (by intro e; injection e with _ h2; omega)
theorem set4_five {w : World} {q : Nat} {v0 v1 v2 v3 u4 : Value} (c4 : w.cell? ⟨q, 4, none⟩ = some u4) : (set4 w q v0 v1 v2 v3).cell? ⟨q, 4, none⟩ = some u4 :=
  (cell_far5 (by decide)).trans ((cell_far5 (by decide)).trans ((cell_far5 (by decide)).trans ((cell_far5 (by decide)).trans c4)))
theorem set1_at {w : World} {q : Nat} {v0 v1 v2 v3 v4 u4 : Value} (a0 : w.cell? ⟨q, 0, none⟩ = some v0) (a1 : w.cell? ⟨q, 1, none⟩ = some v1) (a2 : w.cell? ⟨q, 2, none⟩ = some v2) (a3 : w.cell? ⟨q, 3, none⟩ = some v3) (a4 : w.cell? ⟨q, 4, none⟩ = some u4) : (w.setCell ⟨q, 4, none⟩ v4).cell? ⟨q, 0, none⟩ = some v0 ∧ (w.setCell ⟨q, 4, none⟩ v4).cell? ⟨q, 1, none⟩ = some v1 ∧ (w.setCell ⟨q, 4, none⟩ v4).cell? ⟨q, 2, none⟩ = some v2 ∧ (w.setCell ⟨q, 4, none⟩ v4).cell? ⟨q, 3, none⟩ = some v3 ∧ (w.setCell ⟨q, 4, none⟩ v4).cell? ⟨q, 4, none⟩ = some v4 :=
  ⟨(cell_far5 (by decide)).trans a0, (cell_far5 (by decide)).trans a1, (cell_far5 (by decide)).trans a2, (cell_far5 (by decide)).trans a3, World.cell?_setCell_same _ _ _ a4⟩
theorem set5_at {w : World} {q : Nat} {v0 v1 v2 v3 v4 u0 u1 u2 u3 u4 : Value} (c0 : w.cell? ⟨q, 0, none⟩ = some u0) (c1 : w.cell? ⟨q, 1, none⟩ = some u1) (c2 : w.cell? ⟨q, 2, none⟩ = some u2) (c3 : w.cell? ⟨q, 3, none⟩ = some u3) (c4 : w.cell? ⟨q, 4, none⟩ = some u4) : (set5 w q v0 v1 v2 v3 v4).cell? ⟨q, 0, none⟩ = some v0 ∧ (set5 w q v0 v1 v2 v3 v4).cell? ⟨q, 1, none⟩ = some v1 ∧ (set5 w q v0 v1 v2 v3 v4).cell? ⟨q, 2, none⟩ = some v2 ∧ (set5 w q v0 v1 v2 v3 v4).cell? ⟨q, 3, none⟩ = some v3 ∧ (set5 w q v0 v1 v2 v3 v4).cell? ⟨q, 4, none⟩ = some v4 := by
  obtain ⟨a0, a1, a2, a3⟩ := set4_at (v0 := v0) (v1 := v1) (v2 := v2) (v3 := v3) c0 c1 c2 c3
  exact set1_at a0 a1 a2 a3 (set4_five c4)
theorem set5_cg (w : World) (q : Nat) (v0 v1 v2 v3 v4 : Value) : Cg (fun k => k = q) w (set5 w q v0 v1 v2 v3 v4) :=
  (((((Cg.refl (fun k => k = q) w).set ⟨q, 0, none⟩ rfl v0).set ⟨q, 1, none⟩ rfl v1).set ⟨q, 2, none⟩ rfl v2).set ⟨q, 3, none⟩ rfl v3).set ⟨q, 4, none⟩ rfl v4
/-- a program that lies in blocks from s on; the rows of its methods -/
def UnF (s : Nat) (w : World) (nv cv mv ov : Value) (U : UnitA) : Prop := ∃ M : List (MethA × Value × Value), M.map (·.1) = U.methods ∧ ∀ (G : Nat → Prop) (w2 : World), Cg G w w2 → (∀ k, G k → k < s) → UnV w2 nv cv mv ov U ∧ ∃ g cap, mv = .slice (some ⟨g, 0, none⟩) U.methods.length cap ∧ ∀ (k : Nat) x, M[k]? = some x → w2.cell? ⟨g, k * 4, none⟩ = some (.int .i64 x.1.args) ∧ w2.cell? ⟨g, k * 4 + 1, none⟩ = some (.int .i64 x.1.temps) ∧ w2.cell? ⟨g, k * 4 + 2, none⟩ = some x.2.1 ∧ w2.cell? ⟨g, k * 4 + 3, none⟩ = some x.2.2 ∧ In64 x.1.args ∧ In64 x.1.temps ∧ PrV w2 x.2.1 x.1.lits ∧ ByV w2 x.2.2 x.1.code
theorem mt_own {w : World} {base : Nat} {e : TypeId} {v : Value} {T : List (MethA × Value × Value)} (h : w.ownsRow base e 4 v T.length (mt4s T)) (h0 : 0 < T.length) : ∃ g cap, v = .slice (some ⟨g, 0, none⟩) T.length cap ∧ ∀ (k : Nat) x, T[k]? = some x → w.cell? ⟨g, k * 4, none⟩ = some (.int .i64 x.1.args) ∧ w.cell? ⟨g, k * 4 + 1, none⟩ = some (.int .i64 x.1.temps) ∧ w.cell? ⟨g, k * 4 + 2, none⟩ = some x.2.1 ∧ w.cell? ⟨g, k * 4 + 3, none⟩ = some x.2.2 := by
  rcases h.2 with ⟨rfl, hz⟩ | ⟨g, cap, cur, rfl, h1, h2, h3, h4, _⟩
  · omega
  · refine ⟨g, cap, rfl, fun k x hx => ?_⟩
    have hk := (List.getElem?_eq_some_iff.1 hx).1
    obtain ⟨c0, c1, c2, c3⟩ := mt4s_get T k x hx
    exact ⟨(h.cellAt (k * 4) (by omega)).trans c0, (h.cellAt (k * 4 + 1) (by omega)).trans c1, (h.cellAt (k * 4 + 2) (by omega)).trans c2, (h.cellAt (k * 4 + 3) (by omega)).trans c3⟩
theorem P4.done {w wB wr : World} {p n B Bn g cp m H H3 H4 N : Nat} {ad : Option Addr} {mv ov : Value} {T : List (ClassA × Value)} {M : List (MethA × Value × Value)} {O : List (ObjA × Value)} (h : P4 w wB wr p n ad B (.slice (some ⟨Bn, 0, none⟩) 6 6) g cp m T H mv M H3 H4 N ov N O) (hm : 3 ≤ m ∧ m ≤ 5) (hN1 : 1 ≤ N) (hN5 : N ≤ 5) (e1 : wB.heap[Bn]? = some (.cells (strs nameL).toArray 9 (0, 0))) (hb : w.heap.size + 1 = Bn) (hB : Bn + 1 = B) {w9 : World} (hc : Cg (fun k => k = w.heap.size) wr w9) : ∃ U, UnV w9 (.slice (some ⟨Bn, 0, none⟩) 6 6) (.slice (some ⟨g, 0, none⟩) m cp) mv ov U ∧ TapeU U ∧ Tp w9 p ad n ∧ Cg (fun k => k = p) w w9 ∧ UnF (w.heap.size + 1) w9 (.slice (some ⟨Bn, 0, none⟩) 6 6) (.slice (some ⟨g, 0, none⟩) m cp) mv ov U := by
  have hks := h.un.ks.other hc (fun k hk => by omega)
  have hpB := h.un.ks.p0
  have hrow : ∀ {b sz len : Nat} {e : TypeId} {v : Value} {xs : List Value}, wr.ownsRow b e sz v len xs → w.heap.size < b → w9.ownsRow b e sz v len xs := fun ho hlt => row_cg ho hc (fun k hk hf => by have := (ho.lt k hk).1; omega)
  have hBH := h.fin.BH
  have hHH := h.fin.HH
  have hHB := h.HB
  have hlT := h.fin.len
  have hlM := h.fin.mr.len
  have hlO := h.len
  have hnm : w9.heap[Bn]? = some (.cells (strs nameL).toArray 9 (0, 0)) := by
    have hsz := h.un.cg.size
    have hbs := h.un.bs
    exact (hc.block Bn (by omega) (by omega)).trans ((h.un.cg.block Bn (by omega) (by omega)).trans e1)
  have hnm2 : ∀ (G : Nat → Prop) (w2 : World), Cg G w9 w2 → (∀ k, G k → k < w.heap.size + 1) → UnV w2 (.slice (some ⟨Bn, 0, none⟩) 6 6) (.slice (some ⟨g, 0, none⟩) m cp) mv ov ⟨nameL, T.map (·.1), M.map (·.1), O.map (·.1), 6⟩ := by
    intro G w2 hG hlt2
    have hrow2 : ∀ {b sz len : Nat} {e : TypeId} {v : Value} {xs : List Value}, wr.ownsRow b e sz v len xs → w.heap.size < b → w2.ownsRow b e sz v len xs := fun ho hlt => row_cg (hrow ho hlt) hG (fun k hk hf => by have := (ho.lt k hk).1; have := hlt2 k hf; omega)
    have hB9 := (Array.getElem?_eq_some_iff.1 hnm).1
    have hnmw : w2.heap[Bn]? = some (.cells (strs nameL).toArray 9 (0, 0)) := (hG.block Bn hB9 (fun hf => by have := hlt2 _ hf; omega)).trans hnm
    refine ⟨NmV.own hnmw (by decide), ?_, ?_, ?_⟩
    · have hr := hrow2 h.fin.row (by omega)
      rw [hlT] at hr ⊢
      refine ClV.own hr (fun x hx => ?_)
      obtain ⟨k, hk⟩ := List.getElem?_of_mem hx
      have hkl := (List.getElem?_eq_some_iff.1 hk).1
      obtain ⟨i1, i2⟩ := cls_in (h.fin.ok k x hk) (by omega)
      exact ⟨i1, i2, PrV.own (hrow2 (h.fin.bnd k x hk) (by omega)) (bnd_in (h.fin.don k x hk).2 (by omega))⟩
    · have hr := hrow2 h.fin.mr.row (by omega)
      rw [hlM] at hr
      refine MtV.own hr (fun x hx => ?_)
      obtain ⟨k, hk⟩ := List.getElem?_of_mem hx
      have ho := h.fin.mr.ok k x hk
      obtain ⟨i1, i2⟩ := meth_in ho
      have hs := h.fin.mr.sub x hx
      obtain ⟨I, hI, eI⟩ := ho.code
      exact ⟨i1, i2, PrV.own (hrow2 hs.l (by omega)) (lits_in ho.lits (by omega)), ByV.own (hrow2 hs.c (by omega)) (by rw [eI]; exact flat_by (codeOk_by hI))⟩
    · have hr := hrow2 h.row (by omega)
      rw [hlO] at hr
      refine ObV.own hr (fun x hx => ?_)
      obtain ⟨k, hk⟩ := List.getElem?_of_mem hx
      have ho := h.ok k x hk
      exact ⟨obj_in ho (by simp; omega), PrV.own (hrow2 (h.sub x hx) (by omega)) (fun v hv => val_in (ho.flds v hv) (by omega))⟩
  refine ⟨_, hnm2 (fun _ => False) w9 (Cg.refl _ _) (fun _ e => e.elim), ⟨rfl, by simp; omega, by simp; omega, ?_, by simp; omega, ?_, by simp; omega, by simp; omega, ?_, rfl⟩, hks.tp, hks.cg, M, rfl, fun G w2 hG hlt2 => ⟨hnm2 G w2 hG hlt2, ?_⟩⟩
  · intro k c hc'
    obtain ⟨x, hx, rfl⟩ : ∃ x, T[k]? = some x ∧ x.1 = c := by simpa using hc'
    obtain ⟨a, b⟩ := h.fin.don k x hx
    exact ⟨h.fin.ok k x hx, a, b⟩
  · intro k c hc'
    obtain ⟨x, hx, rfl⟩ : ∃ x, M[k]? = some x ∧ x.1 = c := by simpa using hc'
    have := h.fin.mr.ok k x hx
    rw [hlT] at this
    simpa using this
  · intro k c hc'
    obtain ⟨x, hx, rfl⟩ : ∃ x, O[k]? = some x ∧ x.1 = c := by simpa using hc'
    have := h.ok k x hx
    simpa [← hlO] using this
  · have hrow2 : ∀ {b sz len : Nat} {e : TypeId} {v : Value} {xs : List Value}, wr.ownsRow b e sz v len xs → w.heap.size < b → w2.ownsRow b e sz v len xs := fun ho hlt => row_cg (hrow ho hlt) hG (fun k hk hf => by have := (ho.lt k hk).1; have := hlt2 k hf; omega)
    have hr := hrow2 h.fin.mr.row (by omega)
    rw [hlM] at hr
    obtain ⟨g', cap', e', hcl⟩ := mt_own hr (by omega)
    refine ⟨g', cap', by rw [e']; simp, fun k x hx => ?_⟩
    obtain ⟨c0, c1, c2, c3⟩ := hcl k x hx
    have ho := h.fin.mr.ok k x hx
    obtain ⟨i1, i2⟩ := meth_in ho
    have hs := h.fin.mr.sub x (List.mem_of_getElem? hx)
    obtain ⟨I, hI, eI⟩ := ho.code
    exact ⟨c0, c1, c2, c3, i1, i2, PrV.own (hrow2 hs.l (by omega)) (lits_in ho.lits (by omega)), ByV.own (hrow2 hs.c (by omega)) (by rw [eI]; exact flat_by (codeOk_by hI))⟩
end Wd
end Go.Proofs.YtgfdgdbkifkehaaGreat

/- Methods, plainly: instructions, whether they are right. -/
namespace Go.Proofs.YtgfdgdbkifkehaaGreat
open Go.RowKit
set_option linter.unusedVariables false
set_option maxRecDepth 20000
namespace Wd
/-- a method, by value -/
structure MeV (w : World) (v : Value) (m : MethA) : Prop where
  mk ::
  ex : ∃ la lc ca cc, v = .agg #[.int .i64 m.args, .int .i64 m.temps, .slice la m.lits.length lc, .slice ca m.code.length cc] ∧ PrV w (.slice la m.lits.length lc) m.lits ∧ ByV w (.slice ca m.code.length cc) m.code
  a64 : In64 m.args
  t64 : In64 m.temps
theorem PrV.le {w : World} {v : Value} {L : List (Int × Int)} (h : PrV w v L) : L.length ≤ maxLen := by
  obtain ⟨ad, cap, _, h1, h2, _⟩ := h.ex; omega
theorem ByV.form {w : World} {v : Value} {L : List Int} (h : ByV w v L) : ∃ ad cap, v = .slice ad L.length cap ∧ L.length ≤ cap ∧ cap ≤ maxLen := by
  obtain ⟨ad, cap, e, h1, h2, h3⟩ := h.ex
  exact ⟨ad, cap, e, h1, h2⟩
theorem ByV.le {w : World} {v : Value} {L : List Int} (h : ByV w v L) : L.length ≤ maxLen := by
  obtain ⟨ad, cap, _, h1, h2⟩ := h.form; omega
theorem ByV.at {w : World} {ad : Option Addr} {n cap : Nat} {L : List Int} (h : ByV w (.slice ad n cap) L) {k : Nat} {x : Int} (hk : L[k]? = some x) : (0 ≤ x ∧ x ≤ 255) ∧ ∃ g off, ad = some ⟨g, off, none⟩ ∧ w.cell? ⟨g, off + k, none⟩ = some (.int .u8 x) := by
  obtain ⟨ad', cap', e, h1, h2, h3⟩ := h.ex
  cases e
  exact h3 k x hk
theorem ByV.take {w : World} {ad : Option Addr} {n cap : Nat} {L : List Int} (h : ByV w (.slice ad n cap) L) (k : Nat) (hk : k ≤ L.length) : ByV w (.slice ad k cap) (L.take k) := by
  obtain ⟨ad', cap', e, h1, h2, h3⟩ := h.ex
  cases e
  have hl : (L.take k).length = k := by rw [List.length_take]; omega
  refine ⟨ad, cap, by rw [hl], by omega, h2, fun j x hx => h3 j x ?_⟩
  rw [List.getElem?_take] at hx
  split at hx
  · exact hx
  · cases hx
theorem MeV.up {w w1 : World} {v : Value} {m : MethA} (h : MeV w v m) (b : Below w.heap.size w w1) : MeV w1 v m := by
  obtain ⟨la, lc, ca, cc, e, h1, h2⟩ := h.ex
  exact ⟨⟨la, lc, ca, cc, e, h1.up b, h2.up b⟩, h.a64, h.t64⟩
/-- a byte -/
def byAt (C : List Int) (k : Nat) : Int := C.getD k 0
theorem byAt_some {C : List Int} {k : Nat} (h : k < C.length) : C[k]? = some (byAt C k) := by
  unfold byAt
  rw [List.getD_eq_getElem?_getD, List.getElem?_eq_getElem h]; rfl
def fetR (C : List Int) (pc : Int) : Int × Int × Bool := if pc < 0 ∨ pc % 2 ≠ 0 ∨ pc > (C.length : Int) - 2 then (0, 0, false) else (byAt C pc.toNat, byAt C (pc.toNat + 1), true)
def takL : List Int := [2, 2, 2, 2, 2, 2, 1, 1, 2, 3, 1, 1, 2, 2, 0, 1, 1, 0, 1, 3, 2, 0, 1, 0]
def takR (p : Int) : Int := if p < 0 ∨ p > 23 then -1 else takL.getD p.toNat 0
def litAt (L : List (Int × Int)) (i : Int) : Int × Int := L.getD i.toNat (0, 0)
def hasLit (L : List (Int × Int)) (i kind : Int) : Bool := decide (i < (L.length : Int)) && decide ((litAt L i).1 = kind)
/-- an instruction at pc, of so many bytes -/
def insR (m : MethA) (pc op arg : Int) : Bool :=
  if op = 0 ∨ op = 10 then decide (arg < m.args + m.temps)
  else if op = 1 ∨ op = 11 then decide (arg < 62)
  else if op = 2 then hasLit m.lits arg 3
  else if op = 12 ∨ op = 13 then hasLit m.lits arg 5
  else if op = 20 then hasLit m.lits arg 6 && decide ((litAt m.lits arg).2 > 1)
  else if op = 18 then hasLit m.lits arg 7
  else if op = 15 ∨ op = 17 then decide (pc + 2 + 2 * arg < (m.code.length : Int))
  else if op = 16 then decide (2 * arg ≤ pc)
  else if op = 21 then decide (arg ≤ 23)
  else decide (op ≤ 21)
def litR (x : Int × Int) (nn nc nm : Nat) : Bool :=
  if x.1 = 3 then decide (-1073741824 ≤ x.2) && decide (x.2 ≤ 1073741823)
  else if x.1 = 5 then decide (0 ≤ x.2) && decide (x.2 < (nn : Int))
  else if x.1 = 6 then decide (0 ≤ x.2) && decide (x.2 < (nc : Int))
  else if x.1 = 7 then decide (0 ≤ x.2) && decide (x.2 < (nm : Int))
  else false
/-- the instructions from pc on -/
def insF (m : MethA) : Nat → Nat → Bool
  | 0, _ => true
  | f + 1, pc => insR m (pc : Int) (byAt m.code pc) (byAt m.code (pc + 1)) && insF m f (pc + 2)
def metR (m : MethA) (nn nc nm : Nat) : Int :=
  if m.code.length > 128 ∨ m.lits.length > 16 ∨ m.args < 0 ∨ m.temps < 0 ∨ m.args > 8 ∨ m.temps > 8 - m.args then 3
  else if m.code.length < 2 ∨ m.code.length % 2 ≠ 0 then 12
  else if byAt m.code (m.code.length - 2) ≠ 14 ∧ byAt m.code (m.code.length - 2) ≠ 19 ∧ byAt m.code (m.code.length - 2) ≠ 16 then 12
  else if m.lits.all (fun x => litR x nn nc nm) = false then 12
  else if insF m (m.code.length / 2) 0 = false then 12
  else 0
theorem fet_no {C : List Int} {pc : Int} (h : pc < 0 ∨ pc % 2 ≠ 0 ∨ pc > (C.length : Int) - 2) : fetR C pc = (0, 0, false) := if_pos h
theorem fet_yes {C : List Int} {pc : Int} (h0 : 0 ≤ pc) (h1 : pc % 2 = 0) (h2 : pc ≤ (C.length : Int) - 2) : fetR C pc = (byAt C pc.toNat, byAt C (pc.toNat + 1), true) := if_neg (by omega)
theorem mod2 {n : Nat} : Int.tmod (n : Int) 2 = ((n % 2 : Nat) : Int) := by
  show Int.tmod _ ((2 : Nat) : Int) = _
  rw [← Int.ofNat_tmod]
end Wd
end Go.Proofs.YtgfdgdbkifkehaaGreat

/- The document's own instructions: Fetch, Takes, Name, literals. -/
namespace Go.Proofs.YtgfdgdbkifkehaaGreat
open Go.RowKit
set_option linter.unusedVariables false
set_option maxRecDepth 20000
namespace Wd
set_option maxHeartbeats 4000000 in
theorem rnumber_c (x : Int) (w : World) :
    Calls Tryz.prog 95 #[.int .i64 x] w fun e w' => e = .returned (.bool (decide (-1073741824 ≤ x) && decide (x ≤ 1073741823))) ∧ w' = w := by
  by_cases h : -1073741824 ≤ x
  · by_cases h2 : x ≤ 1073741823
    · have d1 : decide (x ≥ -1073741824) = true := by simp; omega
      have d2 : decide (x ≤ 1073741823) = true := by simp; omega
      rw [decide_eq_true h, decide_eq_true h2]
      go_enter Tryz.func95, Tryz.ntmps95
      go_wp2
      go_ret
      exact ⟨rfl, rfl⟩
    · have d1 : decide (x ≥ -1073741824) = true := by simp; omega
      have d2 : decide (x ≤ 1073741823) = false := by simp; omega
      rw [decide_eq_true h, decide_eq_false h2]
      go_enter Tryz.func95, Tryz.ntmps95
      go_wp2
      go_ret
      exact ⟨rfl, rfl⟩
  · have d1 : decide (x ≥ -1073741824) = false := by simp; omega
    rw [decide_eq_false h]
    go_enter Tryz.func95, Tryz.ntmps95
    go_wp2
    go_ret
    exact ⟨rfl, rfl⟩
end Wd
end Go.Proofs.YtgfdgdbkifkehaaGreat

/- The document's own instructions: Fetch, one of a method; is it right? -/
namespace Go.Proofs.YtgfdgdbkifkehaaGreat
open Go.RowKit
set_option linter.unusedVariables false
set_option maxRecDepth 20000
namespace Wd
/-- a method in a box of its own -/
structure MeB (w : World) (q : Nat) (v : Value) (m : MethA) (la ca : Option Addr) (lc cc : Nat) : Prop where
  e : v = .agg #[.int .i64 m.args, .int .i64 m.temps, .slice la m.lits.length lc, .slice ca m.code.length cc]
  c0 : w.cell? ⟨q, 0, none⟩ = some (.int .i64 m.args)
  c1 : w.cell? ⟨q, 1, none⟩ = some (.int .i64 m.temps)
  c2 : w.cell? ⟨q, 2, none⟩ = some (.slice la m.lits.length lc)
  c3 : w.cell? ⟨q, 3, none⟩ = some (.slice ca m.code.length cc)
  me : MeV w v m
theorem MeB.born {w : World} {m : MethA} {la ca : Option Addr} {lc cc : Nat} (h : MeV w (.agg #[.int .i64 m.args, .int .i64 m.temps, .slice la m.lits.length lc, .slice ca m.code.length cc]) m) : MeB (w.alloc (.cells #[.int .i64 m.args, .int .i64 m.temps, .slice la m.lits.length lc, .slice ca m.code.length cc] 50)) w.heap.size (.agg #[.int .i64 m.args, .int .i64 m.temps, .slice la m.lits.length lc, .slice ca m.code.length cc]) m la ca lc cc :=
  ⟨rfl, by simp, by simp, by simp, by simp, h.up ((Below.refl _ _).alloc (Nat.le_refl _) _)⟩
theorem MeB.lt {w : World} {q : Nat} {v : Value} {m : MethA} {la ca : Option Addr} {lc cc : Nat} (h : MeB w q v m la ca lc cc) : q < w.heap.size := World.block_lt_of_cell? w _ h.c0
theorem MeB.up {w w1 : World} {q : Nat} {v : Value} {m : MethA} {la ca : Option Addr} {lc cc : Nat} (h : MeB w q v m la ca lc cc) (b : Below w.heap.size w w1) : MeB w1 q v m la ca lc cc :=
  ⟨h.e, cell_up b h.c0, cell_up b h.c1, cell_up b h.c2, cell_up b h.c3, h.me.up b⟩
theorem MeB.py {w : World} {q : Nat} {v : Value} {m : MethA} {la ca : Option Addr} {lc cc : Nat} (h : MeB w q v m la ca lc cc) : PrV w (.slice la m.lits.length lc) m.lits ∧ ByV w (.slice ca m.code.length cc) m.code := by
  obtain ⟨la', lc', ca', cc', e, h1, h2⟩ := h.me.ex
  rw [h.e] at e
  cases e
  exact ⟨h1, h2⟩
theorem len_le {n : Nat} (h : n ≤ maxLen) : (n : Int) ≤ 9223372036854775807 := by
  have : maxLen ≤ 9223372036854775807 := by decide
  omega
set_option maxHeartbeats 8000000 in
theorem rfetch_c {w : World} {v : Value} {m : MethA} (h : MeV w v m) (pc : Int) (hp : In64 pc) :
    Calls Tryz.prog 107 #[v, .int .i64 pc] w fun e w' => e = .returned (.tuple #[.int .i64 (fetR m.code pc).1, .int .i64 (fetR m.code pc).2.1, .bool (fetR m.code pc).2.2]) ∧ Below w.heap.size w w' := by
  obtain ⟨la, lc, ca, cc, rfl, hl, hc⟩ := h.ex
  have hB := Lib.hid (MeB.born h)
  have hW := Lib.hid ((Below.refl w.heap.size w).alloc (Nat.le_refl _) (.cells #[.int .i64 m.args, .int .i64 m.temps, .slice la m.lits.length lc, .slice ca m.code.length cc] 50))
  have hle := len_le hc.le
  obtain ⟨p0, p1⟩ := hp
  by_cases h0 : pc < 0
  · have d1 : decide (pc < 0) = true := by simpa using h0
    have e := Lib.hid (fet_no (C := m.code) (Or.inl h0))
    go_enter Tryz.func107, Tryz.ntmps107
    go_wp2
    go_returns
    exact ⟨by rw [e.out]; rfl, hW.out⟩
  · have d1 : decide (pc < 0) = false := by simpa using h0
    obtain ⟨k, rfl⟩ : ∃ k : Nat, pc = k := ⟨pc.toNat, by omega⟩
    have hm := mod2 (n := k)
    rcases (show k % 2 = 1 ∨ k % 2 = 0 by omega) with h1 | h1
    · have e := Lib.hid (fet_no (C := m.code) (pc := (k : Int)) (Or.inr (Or.inl (by omega))))
      rw [h1] at hm
      replace hm : Int.tmod (k : Int) 2 = 1 := hm
      go_enter Tryz.func107, Tryz.ntmps107
      go_wp2
      go_returns
      exact ⟨by rw [e.out]; rfl, hW.out⟩
    · rw [h1] at hm
      replace hm : Int.tmod (k : Int) 2 = 0 := hm
      have wm : IntKind.i64.wrap ((m.code.length : Int) - 2) = (m.code.length : Int) - 2 := by rw [IntKind.wrap_i64]; omega
      by_cases h2 : (k : Int) > (m.code.length : Int) - 2
      · have e := Lib.hid (fet_no (C := m.code) (pc := (k : Int)) (Or.inr (Or.inr h2)))
        have d2 : decide ((k : Int) > (m.code.length : Int) - 2) = true := by simpa using h2
        go_enter Tryz.func107, Tryz.ntmps107
        go_wp2
        go_returns
        exact ⟨by rw [e.out]; rfl, hW.out⟩
      · have e := fet_yes (C := m.code) (pc := (k : Int)) (by omega) (by omega) (by omega)
        have d2 : decide ((k : Int) > (m.code.length : Int) - 2) = false := by simpa using h2
        rw [Int.toNat_natCast] at e
        replace e := Lib.hid e
        have k0 : (0 : Int) ≤ (k : Int) := by omega
        have k1 : (k : Int) < (m.code.length : Int) := by omega
        have k2 : (0 : Int) ≤ (k : Int) + 1 := by omega
        have k3 : (k : Int) + 1 < (m.code.length : Int) := by omega
        have wk : IntKind.i64.wrap ((k : Int) + 1) = (k : Int) + 1 := by rw [IntKind.wrap_i64]; omega
        obtain ⟨b0, g, off, rfl, c0⟩ := hB.out.py.2.at (byAt_some (C := m.code) (k := k) (by omega))
        obtain ⟨b1, g', off', eg, c1⟩ := hB.out.py.2.at (byAt_some (C := m.code) (k := k + 1) (by omega))
        cases eg
        generalize byAt m.code k = x at *
        generalize byAt m.code (k + 1) = y at *
        have wx : IntKind.i64.wrap x = x := by rw [IntKind.wrap_i64]; omega
        have wy : IntKind.i64.wrap y = y := by rw [IntKind.wrap_i64]; omega
        have a0 := hB.out.c0
        have a1 := hB.out.c1
        have a2 := hB.out.c2
        have a3 := hB.out.c3
        go_enter Tryz.func107, Tryz.ntmps107
        go_upto_region 1 with fail
        generalize w.alloc (.cells #[.int .i64 m.args, .int .i64 m.temps, .slice la m.lits.length lc, .slice (some ⟨g, off, none⟩) m.code.length cc] 50) = W at *
        go_wp2
        go_big_quiet (fail)
        go_wp2
        go_returns
        exact ⟨by rw [e.out]; rfl, hW.out.trans (Below.mono (drewK _ _) hW.out.size)⟩
end Wd
end Go.Proofs.YtgfdgdbkifkehaaGreat

/- The document's own instructions: has a method such a literal? is a literal right? -/
namespace Go.Proofs.YtgfdgdbkifkehaaGreat
open Go.RowKit
set_option linter.unusedVariables false
set_option maxRecDepth 20000
namespace Wd
theorem litAt_some {L : List (Int × Int)} {k : Nat} (h : k < L.length) : L[k]? = some (litAt L (k : Int)) := by
  unfold litAt
  rw [Int.toNat_natCast, List.getD_eq_getElem?_getD, List.getElem?_eq_getElem h]; rfl
set_option maxHeartbeats 8000000 in
theorem rlit_c {w : World} {v : Value} {m : MethA} (h : MeV w v m) (i kind : Int) (i0 : 0 ≤ i) (i1 : i ≤ 255) :
    Calls Tryz.prog 108 #[v, .int .i64 i, .int .i64 kind] w fun e w' => e = .returned (.bool (hasLit m.lits i kind)) ∧ Below w.heap.size w w' := by
  obtain ⟨la, lc, ca, cc, rfl, hl, hc⟩ := h.ex
  have hB := Lib.hid (MeB.born h)
  have hW := Lib.hid ((Below.refl w.heap.size w).alloc (Nat.le_refl _) (.cells #[.int .i64 m.args, .int .i64 m.temps, .slice la m.lits.length lc, .slice ca m.code.length cc] 50))
  have hle := len_le hl.le
  obtain ⟨k, rfl⟩ : ∃ k : Nat, i = k := ⟨i.toNat, by omega⟩
  by_cases h0 : k < m.lits.length
  · have d0 : decide ((k : Int) < (m.lits.length : Int)) = true := by simp; omega
    have k0 : (0 : Int) ≤ (k : Int) := by omega
    have k1 : (k : Int) < (m.lits.length : Int) := by omega
    obtain ⟨_, _, g, off, rfl, c0, c1⟩ := hB.out.py.1.at (litAt_some h0)
    have e : Hid (hasLit m.lits (k : Int) kind = ((litAt m.lits (k : Int)).1 == kind)) := Lib.hid (by
      unfold hasLit; rw [d0, Bool.true_and]; rfl)
    generalize (litAt m.lits (k : Int)).1 = x at *
    have a2 := hB.out.c2
    go_enter Tryz.func108, Tryz.ntmps108
    go_upto_region 1 with fail
    generalize w.alloc (.cells #[.int .i64 m.args, .int .i64 m.temps, .slice (some ⟨g, off, none⟩) m.lits.length lc, .slice ca m.code.length cc] 50) = W at *
    go_wp2
    go_ret
    exact ⟨by rw [e.out]; rfl, hW.out⟩
  · have d0 : decide ((k : Int) < (m.lits.length : Int)) = false := by simp; omega
    have e : Hid (hasLit m.lits (k : Int) kind = false) := Lib.hid (by unfold hasLit; rw [d0]; rfl)
    have a2 := hB.out.c2
    go_enter Tryz.func108, Tryz.ntmps108
    go_wp2
    go_ret
    exact ⟨by rw [e.out]; rfl, hW.out⟩
/-- a program, by value -/
structure UnK (w : World) (v : Value) (U : UnitA) : Prop where
  mk ::
  ex : ∃ na nc ca cc ma mc oa oc, v = .agg #[.slice na U.names.length nc, .slice ca U.classes.length cc, .slice ma U.methods.length mc, .slice oa U.objects.length oc, .int .i64 U.main] ∧ UnV w (.slice na U.names.length nc) (.slice ca U.classes.length cc) (.slice ma U.methods.length mc) (.slice oa U.objects.length oc) U
theorem UnK.up {w w1 : World} {v : Value} {U : UnitA} (h : UnK w v U) (b : Below w.heap.size w w1) : UnK w1 v U := by
  obtain ⟨na, nc, ca, cc, ma, mc, oa, oc, e, h⟩ := h.ex
  exact ⟨⟨na, nc, ca, cc, ma, mc, oa, oc, e, h.up b⟩⟩
def num30 (x : Int) : Bool := decide (-1073741824 ≤ x) && decide (x ≤ 1073741823)
def inN (x : Int) (n : Nat) : Bool := decide (0 ≤ x) && decide (x < (n : Int))
theorem lit_num (x : Int) (nn nc nm : Nat) : litR (3, x) nn nc nm = num30 x := rfl
theorem lit_sel (x : Int) (nn nc nm : Nat) : litR (5, x) nn nc nm = inN x nn := rfl
theorem lit_cls (x : Int) (nn nc nm : Nat) : litR (6, x) nn nc nm = inN x nc := rfl
theorem lit_blk (x : Int) (nn nc nm : Nat) : litR (7, x) nn nc nm = inN x nm := rfl
theorem lit_no {k x : Int} (nn nc nm : Nat) (h3 : k ≠ 3) (h5 : k ≠ 5) (h6 : k ≠ 6) (h7 : k ≠ 7) : litR (k, x) nn nc nm = false := by
  unfold litR
  rw [if_neg h3, if_neg h5, if_neg h6, if_neg h7]
theorem inN_y {x : Int} {n : Nat} (h0 : 0 ≤ x) : inN x n = decide (x < (n : Int)) := by unfold inN; rw [decide_eq_true h0]; rfl
theorem inN_n {x : Int} {n : Nat} (h0 : ¬ 0 ≤ x) : inN x n = false := by unfold inN; rw [decide_eq_false h0]; rfl
set_option maxHeartbeats 8000000 in
theorem rliteral_c {w : World} {u : Value} {U : UnitA} (h : UnK w u U) (k x : Int) :
    Calls Tryz.prog 91 #[.agg #[.int .i64 k, .int .i64 x], u] w fun e w' => e = .returned (.bool (litR (k, x) U.names.length U.classes.length U.methods.length)) ∧ Below w.heap.size w w' := by
  obtain ⟨na, nc, ca, cc, ma, mc, oa, oc, rfl, hu⟩ := h.ex
  clear h hu
  generalize U.names.length = nn at *
  generalize U.classes.length = nk at *
  generalize U.methods.length = nm at *
  generalize U.objects.length = no at *
  generalize U.main = um at *
  have hW := Lib.hid (((Below.refl w.heap.size w).alloc (Nat.le_refl _) (.cells #[.int .i64 k, .int .i64 x] 57)).alloc (by simp only [World.size_alloc]; omega) (.cells #[.slice na nn nc, .slice ca nk cc, .slice ma nm mc, .slice oa no oc, .int .i64 um] 27))
  by_cases h3 : k = 3
  · subst h3
    have PN := Lib.hid (fun w => rnumber_c x w)
    have e : Hid (litR (3, x) nn nk nm = num30 x) := Lib.hid (lit_num x nn nk nm)
    go_enter Tryz.func91, Tryz.ntmps91
    go_wp2_with fail
    refine (PN.out _).mono ?_
    rintro e1 w1 ⟨rfl, hw⟩
    subst w1
    go_wp2
    go_ret
    exact ⟨by rw [e.out]; rfl, hW.out⟩
  by_cases h5 : k = 5
  · subst h5
    by_cases h0 : 0 ≤ x
    · have d0 : decide (x ≥ 0) = true := by simpa using h0
      have e : Hid (litR (5, x) nn nk nm = decide (x < (nn : Int))) := Lib.hid ((lit_sel x nn nk nm).trans (inN_y h0))
      go_enter Tryz.func91, Tryz.ntmps91
      go_wp2
      go_ret
      exact ⟨by rw [e.out]; rfl, hW.out⟩
    · have d0 : decide (x ≥ 0) = false := by simpa using h0
      have e : Hid (litR (5, x) nn nk nm = false) := Lib.hid ((lit_sel x nn nk nm).trans (inN_n h0))
      go_enter Tryz.func91, Tryz.ntmps91
      go_wp2
      go_ret
      exact ⟨by rw [e.out]; rfl, hW.out⟩
  by_cases h6 : k = 6
  · subst h6
    by_cases h0 : 0 ≤ x
    · have d0 : decide (x ≥ 0) = true := by simpa using h0
      have e : Hid (litR (6, x) nn nk nm = decide (x < (nk : Int))) := Lib.hid ((lit_cls x nn nk nm).trans (inN_y h0))
      go_enter Tryz.func91, Tryz.ntmps91
      go_wp2
      go_ret
      exact ⟨by rw [e.out]; rfl, hW.out⟩
    · have d0 : decide (x ≥ 0) = false := by simpa using h0
      have e : Hid (litR (6, x) nn nk nm = false) := Lib.hid ((lit_cls x nn nk nm).trans (inN_n h0))
      go_enter Tryz.func91, Tryz.ntmps91
      go_wp2
      go_ret
      exact ⟨by rw [e.out]; rfl, hW.out⟩
  by_cases h7 : k = 7
  · subst h7
    by_cases h0 : 0 ≤ x
    · have d0 : decide (x ≥ 0) = true := by simpa using h0
      have e : Hid (litR (7, x) nn nk nm = decide (x < (nm : Int))) := Lib.hid ((lit_blk x nn nk nm).trans (inN_y h0))
      go_enter Tryz.func91, Tryz.ntmps91
      go_wp2
      go_ret
      exact ⟨by rw [e.out]; rfl, hW.out⟩
    · have d0 : decide (x ≥ 0) = false := by simpa using h0
      have e : Hid (litR (7, x) nn nk nm = false) := Lib.hid ((lit_blk x nn nk nm).trans (inN_n h0))
      go_enter Tryz.func91, Tryz.ntmps91
      go_wp2
      go_ret
      exact ⟨by rw [e.out]; rfl, hW.out⟩
  have e : Hid (litR (k, x) nn nk nm = false) := Lib.hid (lit_no nn nk nm h3 h5 h6 h7)
  have f3 : (k == 3) = false := by simpa using h3
  have f5 : (k == 5) = false := by simpa using h5
  have f6 : (k == 6) = false := by simpa using h6
  have f7 : (k == 7) = false := by simpa using h7
  clear h3 h5 h6 h7
  go_enter Tryz.func91, Tryz.ntmps91
  go_wp2
  go_ret
  exact ⟨by rw [e.out]; rfl, hW.out⟩
end Wd
end Go.Proofs.YtgfdgdbkifkehaaGreat

/- The document's own judgement of an object. -/
namespace Go.Proofs.YtgfdgdbkifkehaaGreat
open Go.RowKit
set_option linter.unusedVariables false
set_option maxRecDepth 20000
namespace Wd
/-- an object, by value -/
structure ObK (w : World) (v : Value) (x : ObjA) : Prop where
  mk ::
  c64 : In64 x.cls
  ex : ∃ fa fc, v = .agg #[.int .i64 x.cls, .slice fa x.flds.length fc] ∧ PrV w (.slice fa x.flds.length fc) x.flds
theorem ObK.up {w w1 : World} {v : Value} {x : ObjA} (h : ObK w v x) (b : Below w.heap.size w w1) : ObK w1 v x := by
  obtain ⟨fa, fc, e, p⟩ := h.ex
  exact ⟨h.c64, fa, fc, e, p.up b⟩
def fldOk (v : Int × Int) (no : Nat) : Bool := if v.1 = 0 ∨ v.1 = 1 ∨ v.1 = 2 then v.2 == 0 else if v.1 = 3 then num30 v.2 else if v.1 = 4 then inN v.2 no else false
/-- how many fields its class asks -/
def clsF (C : List ClassA) (c : Int) : Int := match C[c.toNat]? with
  | some x => x.fields
  | none => 0
def objHead (o : ObjA) (C : List ClassA) : Bool := if o.cls < 1 ∨ (C.length : Int) ≤ o.cls then false else if 1 < o.cls ∧ (o.flds.length : Int) ≠ clsF C o.cls then false else decide (o.flds.length ≤ 62)
def objB (o : ObjA) (C : List ClassA) (no : Nat) : Bool := objHead o C && o.flds.all (fldOk · no)
theorem clsF_at {C : List ClassA} {k : Nat} {x : ClassA} (h : C[k]? = some x) : clsF C (k : Int) = x.fields := by
  unfold clsF; rw [Int.toNat_natCast, h]
theorem head_low {o : ObjA} {C : List ClassA} (h : o.cls < 1) : objHead o C = false := by
  unfold objHead; rw [if_pos (Or.inl h)]
theorem head_high {o : ObjA} {C : List ClassA} (h : (C.length : Int) ≤ o.cls) : objHead o C = false := by
  unfold objHead; rw [if_pos (Or.inr h)]
theorem head_many {o : ObjA} {C : List ClassA} (h0 : ¬ (o.cls < 1 ∨ (C.length : Int) ≤ o.cls)) (h1 : 1 < o.cls) (h2 : (o.flds.length : Int) ≠ clsF C o.cls) : objHead o C = false := by
  unfold objHead; rw [if_neg h0, if_pos ⟨h1, h2⟩]
theorem head_long {o : ObjA} {C : List ClassA} (h : 62 < o.flds.length) : objHead o C = false := by
  unfold objHead
  rw [decide_eq_false (by omega : ¬ o.flds.length ≤ 62)]
  split
  · rfl
  · split <;> rfl
theorem head_ok {o : ObjA} {C : List ClassA} (h0 : ¬ (o.cls < 1 ∨ (C.length : Int) ≤ o.cls)) (h1 : ¬ (1 < o.cls ∧ (o.flds.length : Int) ≠ clsF C o.cls)) (h2 : o.flds.length ≤ 62) : objHead o C = true := by
  unfold objHead
  rw [if_neg h0, if_neg h1, decide_eq_true h2]
theorem objB_no {o : ObjA} {C : List ClassA} (h : objHead o C = false) (no : Nat) : objB o C no = false := by unfold objB; rw [h]; rfl
theorem objB_yes {o : ObjA} {C : List ClassA} (h : objHead o C = true) (no : Nat) : objB o C no = o.flds.all (fldOk · no) := by unfold objB; rw [h]; rfl
/-- k fields are right -/
structure FdR (L : List (Int × Int)) (no k : Nat) : Prop where
  mk ::
  all : ∀ x ∈ L.take k, fldOk x no = true
theorem FdR.start (L : List (Int × Int)) (no : Nat) : FdR L no 0 := ⟨by simp⟩
theorem FdR.step {L : List (Int × Int)} {no k : Nat} {x : Int × Int} (h : FdR L no k) (hx : L[k]? = some x) (e : fldOk x no = true) : FdR L no (k + 1) := by
  refine ⟨fun y hy => ?_⟩
  rw [take_next hx] at hy
  rcases List.mem_append.1 hy with hy | hy
  · exact h.all y hy
  · rw [List.mem_singleton.1 hy]; exact e
theorem FdR.last {L : List (Int × Int)} {no : Nat} (h : FdR L no L.length) : L.all (fldOk · no) = true := by
  rw [List.all_eq_true]
  intro x hx
  exact h.all x (by rw [List.take_length]; exact hx)
theorem fd_bad {L : List (Int × Int)} {no k : Nat} {x : Int × Int} (hx : L[k]? = some x) (e : fldOk x no = false) : L.all (fldOk · no) = false := by
  rw [List.all_eq_false]
  exact ⟨x, List.mem_of_getElem? hx, by simp [e]⟩
theorem fld_012 {k x : Int} (no : Nat) (h : k = 0 ∨ k = 1 ∨ k = 2) : fldOk (k, x) no = (x == 0) := if_pos h
theorem fld_3 (x : Int) (no : Nat) : fldOk (3, x) no = num30 x := rfl
theorem fld_4 (x : Int) (no : Nat) : fldOk (4, x) no = inN x no := rfl
theorem fld_no {k x : Int} (no : Nat) (h : ¬ (k = 0 ∨ k = 1 ∨ k = 2)) (h3 : k ≠ 3) (h4 : k ≠ 4) : fldOk (k, x) no = false := by
  unfold fldOk
  rw [if_neg h, if_neg h3, if_neg h4]
set_option maxHeartbeats 8000000 in
theorem robject_c {w : World} {v u : Value} {o : ObjA} {U : UnitA} (h : ObK w v o) (hu : UnK w u U) :
    Calls Tryz.prog 57 #[v, u] w fun e w' => e = .returned (.bool (objB o U.classes U.objects.length)) ∧ Below w.heap.size w w' := by
  obtain ⟨fa, fc, rfl, hf⟩ := h.ex
  obtain ⟨na, nc, ca, cc, ma, mc, oa, oc, rfl, hU⟩ := hu.ex
  have hC := hU.c
  clear hU hu
  generalize U.names.length = nn at *
  generalize U.classes = C at *
  generalize U.methods.length = nm at *
  generalize U.objects.length = no at *
  generalize U.main = um at *
  obtain ⟨c0, c1⟩ := h.c64
  have hw1 := (Below.refl w.heap.size w).alloc (Nat.le_refl _) (.cells #[.int .i64 o.cls, .slice fa o.flds.length fc] 55)
  have hW := Lib.hid (hw1.alloc (by simp only [World.size_alloc]; omega) (.cells #[.slice na nn nc, .slice ca C.length cc, .slice ma nm mc, .slice oa no oc, .int .i64 um] 27))
  have i1 : (w.alloc (.cells #[.int .i64 o.cls, .slice fa o.flds.length fc] 55)).heap.size = w.heap.size + 1 := by simp
  have a0 : Hid (((w.alloc (.cells #[.int .i64 o.cls, .slice fa o.flds.length fc] 55)).alloc (.cells #[.slice na nn nc, .slice ca C.length cc, .slice ma nm mc, .slice oa no oc, .int .i64 um] 27)).cell? ⟨w.heap.size, 0, none⟩ = some (.int .i64 o.cls)) := Lib.hid ((World.cell?_alloc_old _ _ _ (by simp)).trans (by simp))
  have a1 : Hid (((w.alloc (.cells #[.int .i64 o.cls, .slice fa o.flds.length fc] 55)).alloc (.cells #[.slice na nn nc, .slice ca C.length cc, .slice ma nm mc, .slice oa no oc, .int .i64 um] 27)).cell? ⟨w.heap.size, 1, none⟩ = some (.slice fa o.flds.length fc)) := Lib.hid ((World.cell?_alloc_old _ _ _ (by simp)).trans (by simp))
  have b1 : Hid (((w.alloc (.cells #[.int .i64 o.cls, .slice fa o.flds.length fc] 55)).alloc (.cells #[.slice na nn nc, .slice ca C.length cc, .slice ma nm mc, .slice oa no oc, .int .i64 um] 27)).cell? ⟨w.heap.size + 1, 1, none⟩ = some (.slice ca C.length cc)) := Lib.hid (by rw [← i1]; simp)
  have b3 : Hid (((w.alloc (.cells #[.int .i64 o.cls, .slice fa o.flds.length fc] 55)).alloc (.cells #[.slice na nn nc, .slice ca C.length cc, .slice ma nm mc, .slice oa no oc, .int .i64 um] 27)).cell? ⟨w.heap.size + 1, 3, none⟩ = some (.slice oa no oc)) := Lib.hid (by rw [← i1]; simp)
  have hf' := Lib.hid (hf.up hW.out)
  have hC' := Lib.hid (hC.up hW.out)
  have hle : (o.flds.length : Int) ≤ 9223372036854775807 := by obtain ⟨_, _, _, p, q⟩ := hf.form; exact len_le (Nat.le_trans p q)
  have E1 := Lib.hid (fun h => head_low (o := o) (C := C) h)
  have E2 := Lib.hid (fun h => head_high (o := o) (C := C) h)
  have E3 := Lib.hid (fun (h0 : ¬ (o.cls < 1 ∨ (C.length : Int) ≤ o.cls)) h1 h2 => head_many h0 h1 h2)
  have E4 := Lib.hid (fun h => head_long (o := o) (C := C) h)
  have E5 := Lib.hid (fun (h0 : ¬ (o.cls < 1 ∨ (C.length : Int) ≤ o.cls)) h1 h2 => head_ok h0 h1 h2)
  clear hw1 i1 h hf hC
  go_enter Tryz.func57, Tryz.ntmps57
  go_upto_region 1 with fail
  generalize (w.alloc (.cells #[.int .i64 o.cls, .slice fa o.flds.length fc] 55)).alloc (.cells #[.slice na nn nc, .slice ca C.length cc, .slice ma nm mc, .slice oa no oc, .int .i64 um] 27) = W at *
  have hd := (Below.refl W.heap.size W).drew
  have hW' := Lib.hid (hW.out.trans (hd.mono hW.out.size))
  replace hf' := Lib.hid (hf'.out.up hd)
  replace hC' := Lib.hid (hC'.out.up hd)
  replace a0 := cell_up hd a0.out
  replace a1 := cell_up hd a1.out
  replace b1 := cell_up hd b1.out
  replace b3 := cell_up hd b3.out
  clear hd hW
  obtain ⟨r, hr⟩ : ∃ r, objHead o C = r := ⟨_, rfl⟩
  replace hr := Lib.hid hr
  have e0 := Lib.hid (fun h => (objB_no (hr.out.trans h) no))
  have e1 := Lib.hid (fun h => (objB_yes (hr.out.trans h) no))
  go_cut [41] (fun v41 wx => v41 = .bool (!r) ∧ wx = W.drew)
  case rest =>
    obtain ⟨rfl, rfl⟩ := hcut
    clear hr E1 E2 E3 E4 E5 c0 c1 hC' b1
    cases r
    · have e := Lib.hid (e0.out rfl)
      clear e0 e1
      go_wp2
      go_ret
      exact ⟨congrArg (fun b => Ending.returned (Value.bool b)) e.out.symm, hW'.out⟩
    have e := Lib.hid (e1.out rfl)
    clear e0 e1
    go_wp2
    generalize W.drew = V at *
    have hst := Lib.hid (FdR.start o.flds no)
    obtain ⟨n, hn⟩ : ∃ n, n = o.flds.length := ⟨_, rfl⟩
    have hn' := Lib.hid hn
    rw [← hn] at hf' hle a1 ⊢
    clear hn
    go_loopw [45] (fun i45 wr => ∃ (j : Nat), j ≤ n ∧ i45 = .int .i64 j ∧ Hid (FdR o.flds no j) ∧ Hid (Below V.heap.size V wr)) (fun i45 _ => n - (intOf i45).toNat)
    case atStart => exact ⟨0, by omega, rfl, hst, Lib.hid (Below.refl _ _)⟩
    case round =>
      obtain ⟨j, hj, rfl, hR, hB⟩ := hrel
      by_cases hlt : j < n
      · have hlt' : decide ((j : Int) < (n : Int)) = true := by simp; omega
        have p0 : (0 : Int) ≤ (j : Int) := by omega
        have p1 : (j : Int) < (n : Int) := by omega
        obtain ⟨⟨kx, x⟩, hx⟩ : ∃ x, o.flds[j]? = some x := ⟨o.flds[j]'(by have := hn'.out; omega), by simp⟩
        obtain ⟨_, ⟨x0, x1⟩, g, off, rfl, c0, c1⟩ := PrV.at (hf'.out.up hB.out) hx
        simp only at x0 x1 c0 c1
        have hx' := Lib.hid hx
        have d3 := cell_up hB.out b3
        have hs0 := hB.out.size
        have hBr := Lib.hid ((hW'.out.trans (hB.out.mono hW'.out.size)).alloc (by have := hW'.out.size; omega) (.cells #[.int .i64 kx, .int .i64 x] 57))
        have hB2 := Lib.hid (hB.out.alloc hs0 (.cells #[.int .i64 kx, .int .i64 x] 57))
        have d3' : (wr.alloc (.cells #[.int .i64 kx, .int .i64 x] 57)).cell? ⟨w.heap.size + 1, 3, none⟩ = some (.slice oa no oc) := (World.cell?_alloc_old _ _ _ (Nat.ne_of_lt (World.block_lt_of_cell? _ _ d3))).trans d3
        clear hx d3 hs0 hst a0 a1 b3 hlt
        by_cases k012 : kx = 0 ∨ kx = 1 ∨ kx = 2
        · have ef := Lib.hid (fld_012 (x := x) no k012)
          by_cases z : x = 0
          · have z' : (x != 0) = false := by simpa using z
            have hR' := Lib.hid (hR.out.step hx'.out (by rw [ef.out]; simpa using z))
            clear z
            rcases k012 with rfl | rfl | rfl <;> (
              go_wp2
              go_roundw
              case rel => exact ⟨j + 1, by omega, by go_num, hR', hB2⟩
              case measure => simp [intOf]; omega)
          · have z' : (x != 0) = true := by simpa using z
            have e' := Lib.hid (e.out.trans (fd_bad hx'.out (by rw [ef.out]; simpa using z)))
            clear z
            rcases k012 with rfl | rfl | rfl <;> (
              go_wp2
              go_ret
              exact ⟨congrArg (fun b => Ending.returned (Value.bool b)) e'.out.symm, hBr.out⟩)
        by_cases k3 : kx = 3
        · subst k3
          clear k012
          have PN := Lib.hid (fun w => rnumber_c x w)
          have ef := Lib.hid (fld_3 x no)
          unfold num30 at ef
          by_cases z : (decide (-1073741824 ≤ x) && decide (x ≤ 1073741823)) = true
          · rw [z] at PN ef
            have hR' := Lib.hid (hR.out.step hx'.out ef.out)
            clear z
            go_wp2_with (first | (go_at_call 95; ((with_reducible refine (PN.out _).mono ?_); rintro e1 w2 ⟨rfl, hw2⟩; subst w2)))
            go_roundw
            case rel => (repeat apply Exists.intro (α := Value)); exact ⟨⟨j + 1, by omega, by go_num, hR', hB2⟩, rfl⟩
            case measure => simp [intOf]; omega
          · have z2 : (decide (-1073741824 ≤ x) && decide (x ≤ 1073741823)) = false := by simpa using z
            rw [z2] at PN ef
            have e' := Lib.hid (e.out.trans (fd_bad hx'.out ef.out))
            clear z z2
            go_wp2_with (first | (go_at_call 95; ((with_reducible refine (PN.out _).mono ?_); rintro e1 w2 ⟨rfl, hw2⟩; subst w2)))
            go_ret
            exact ⟨congrArg (fun b => Ending.returned (Value.bool b)) e'.out.symm, hBr.out⟩
        by_cases k4 : kx = 4
        · subst k4
          clear k012 k3
          have ef := Lib.hid (fld_4 x no)
          by_cases z0 : x < 0
          · have z0' : decide (x < 0) = true := by simpa using z0
            have e' := Lib.hid (e.out.trans (fd_bad hx'.out (ef.out.trans (inN_n (by omega)))))
            clear z0
            go_wp2
            go_ret
            exact ⟨congrArg (fun b => Ending.returned (Value.bool b)) e'.out.symm, hBr.out⟩
          have z0' : decide (x < 0) = false := by simpa using z0
          by_cases z1 : (no : Int) ≤ x
          · have z1' : decide (x ≥ (no : Int)) = true := by simpa using z1
            have e' := Lib.hid (e.out.trans (fd_bad hx'.out (ef.out.trans ((inN_y (by omega)).trans (decide_eq_false (by omega))))))
            clear z0 z1
            go_wp2
            go_ret
            exact ⟨congrArg (fun b => Ending.returned (Value.bool b)) e'.out.symm, hBr.out⟩
          · have z1' : decide (x ≥ (no : Int)) = false := by simp; omega
            have hR' := Lib.hid (hR.out.step hx'.out (ef.out.trans ((inN_y (by omega)).trans (decide_eq_true (by omega)))))
            clear z0 z1
            go_wp2
            go_roundw
            case rel => exact ⟨j + 1, by omega, by go_num, hR', hB2⟩
            case measure => simp [intOf]; omega
        have e' := Lib.hid (e.out.trans (fd_bad hx'.out (fld_no no k012 k3 k4)))
        have f0 : (kx == 0) = false := by rw [beq_eq_false_iff_ne]; exact fun h => k012 (Or.inl h)
        have f1 : (kx == 1) = false := by rw [beq_eq_false_iff_ne]; exact fun h => k012 (Or.inr (Or.inl h))
        have f2 : (kx == 2) = false := by rw [beq_eq_false_iff_ne]; exact fun h => k012 (Or.inr (Or.inr h))
        have f3 : (kx == 3) = false := by simpa using k3
        have f4 : (kx == 4) = false := by simpa using k4
        clear k012 k3 k4
        go_wp2
        go_ret
        exact ⟨congrArg (fun b => Ending.returned (Value.bool b)) e'.out.symm, hBr.out⟩
      · have e' : Hid (objB o C no = true) := Lib.hid (e.out.trans (FdR.last (by have := hR.out; rw [show j = o.flds.length by have := hn'.out; omega] at this; exact this)))
        have hlt' : decide ((j : Int) < (n : Int)) = false := by simp; omega
        have hBr := Lib.hid (hW'.out.trans (hB.out.mono hW'.out.size))
        go_wp2
        go_ret
        exact ⟨congrArg (fun b => Ending.returned (Value.bool b)) e'.out.symm, hBr.out⟩
  clear e0 e1
  generalize hcl : o.cls = cl at *
  by_cases g1 : cl < 1
  · have dg1 : decide (cl < 1) = true := by simpa using g1
    have e := Lib.hid (E1.out g1)
    clear g1 hC' hf' E1 E2 E3 E4 E5
    refine wp_region_held_drew (S := (fun wr' => wr'.cell? ⟨w.heap.size, 0, none⟩ = some (.int .i64 cl) ∧ wr'.cell? ⟨w.heap.size, 1, none⟩ = some (.slice fa o.flds.length fc) ∧ wr'.cell? ⟨w.heap.size + 1, 1, none⟩ = some (.slice ca C.length cc) ∧ wr'.cell? ⟨w.heap.size + 1, 3, none⟩ = some (.slice oa no oc))) (by kernel_rfl) ?_ (fun hHeld => ?_)
    · (try dsimp only); exact ⟨a0, a1, b1, b3⟩
    try simp only [Act.put, nA]
    refine tk (i := 0) (oi := ⟨some 7, .fieldAddr 55 (.tmp 2) 0, 0, "ref.go:115", #[], none⟩) ?_
    try simp only [Act.put, nA]
    refine tk (i := 1) (oi := ⟨some 8, .load 3 (.tmp 7), 3, "ref.go:115", #[⟨0, .data⟩], none⟩) ?_
    try simp only [Act.put, nA]
    refine tk (i := 2) (oi := ⟨some 9, .binOp .lss 3 (.tmp 8) (.const (.int .i64 1)) 3, 4, "ref.go:115", #[⟨1, .data⟩], none⟩) ?_
    try simp only [Act.put, nA]
    refine tk (i := 3) (oi := ⟨some 10, .move (.tmp 9), 4, "ref.go:115", #[⟨2, .data⟩], none⟩) ?_
    try simp only [Act.put, nA]
    refine tu (i := 4) (oi := ⟨some 11, .fieldAddr 55 (.tmp 2) 0, 0, "ref.go:115", #[⟨3, .guard⟩], some (3, false)⟩) ?_
    try simp only [Act.put, nA]
    refine tu (i := 5) (oi := ⟨some 12, .load 3 (.tmp 11), 3, "ref.go:115", #[⟨4, .data⟩, ⟨3, .guard⟩], some (3, false)⟩) ?_
    try simp only [Act.put, nA]
    refine tu (i := 6) (oi := ⟨some 13, .fieldAddr 27 (.tmp 3) 1, 0, "ref.go:115", #[⟨3, .guard⟩], some (3, false)⟩) ?_
    try simp only [Act.put, nA]
    refine tu (i := 7) (oi := ⟨some 14, .load 23 (.tmp 13), 23, "ref.go:115", #[⟨6, .data⟩, ⟨3, .guard⟩], some (3, false)⟩) ?_
    try simp only [Act.put, nA]
    refine tu (i := 8) (oi := ⟨some 15, .call { callee := .builtin .len, args := #[.tmp 14], argTypes := #[23] }, 3, "ref.go:115", #[⟨7, .data⟩, ⟨3, .guard⟩], some (3, false)⟩) ?_
    try simp only [Act.put, nA]
    refine tu (i := 9) (oi := ⟨some 16, .binOp .geq 3 (.tmp 12) (.tmp 15) 3, 4, "ref.go:115", #[⟨5, .data⟩, ⟨8, .data⟩, ⟨3, .guard⟩], some (3, false)⟩) ?_
    try simp only [Act.put, nA]
    refine tk (i := 10) (oi := ⟨some 17, .pick (.tmp 10) (.const (.bool true)) (.tmp 16), 4, "ref.go:115", #[⟨3, .data⟩, ⟨9, .data⟩], none⟩) ?_
    try simp only [Act.put, nA]
    refine tk (i := 11) (oi := ⟨some 18, .move (.tmp 17), 4, "ref.go:115", #[⟨10, .data⟩, ⟨3, .chain⟩], none⟩) ?_
    try simp only [Act.put, nA]
    refine tu (i := 12) (oi := ⟨some 19, .fieldAddr 55 (.tmp 2) 0, 0, "ref.go:115", #[⟨11, .guard⟩], some (11, false)⟩) ?_
    try simp only [Act.put, nA]
    refine tu (i := 13) (oi := ⟨some 20, .load 3 (.tmp 19), 3, "ref.go:115", #[⟨12, .data⟩, ⟨11, .guard⟩], some (11, false)⟩) ?_
    try simp only [Act.put, nA]
    refine tu (i := 14) (oi := ⟨some 21, .binOp .gtr 3 (.tmp 20) (.const (.int .i64 1)) 3, 4, "ref.go:115", #[⟨13, .data⟩, ⟨11, .guard⟩], some (11, false)⟩) ?_
    try simp only [Act.put, nA]
    refine tu (i := 15) (oi := ⟨some 22, .move (.tmp 21), 4, "ref.go:115", #[⟨14, .data⟩, ⟨11, .chain⟩, ⟨11, .guard⟩], some (11, false)⟩) ?_
    try simp only [Act.put, nA]
    refine tu (i := 16) (oi := ⟨some 23, .fieldAddr 55 (.tmp 2) 1, 0, "ref.go:115", #[⟨15, .guard⟩], some (15, true)⟩) ?_
    try simp only [Act.put, nA]
    refine tu (i := 17) (oi := ⟨some 24, .load 47 (.tmp 23), 47, "ref.go:115", #[⟨16, .data⟩, ⟨15, .guard⟩], some (15, true)⟩) ?_
    try simp only [Act.put, nA]
    refine tu (i := 18) (oi := ⟨some 25, .call { callee := .builtin .len, args := #[.tmp 24], argTypes := #[47] }, 3, "ref.go:115", #[⟨17, .data⟩, ⟨15, .guard⟩], some (15, true)⟩) ?_
    try simp only [Act.put, nA]
    refine tu (i := 19) (oi := ⟨some 26, .fieldAddr 27 (.tmp 3) 1, 0, "ref.go:115", #[⟨15, .guard⟩], some (15, true)⟩) ?_
    try simp only [Act.put, nA]
    refine tu (i := 20) (oi := ⟨some 27, .load 23 (.tmp 26), 23, "ref.go:115", #[⟨19, .data⟩, ⟨15, .guard⟩], some (15, true)⟩) ?_
    try simp only [Act.put, nA]
    refine tu (i := 21) (oi := ⟨some 28, .fieldAddr 55 (.tmp 2) 0, 0, "ref.go:115", #[⟨15, .guard⟩], some (15, true)⟩) ?_
    try simp only [Act.put, nA]
    refine tu (i := 22) (oi := ⟨some 29, .load 3 (.tmp 28), 3, "ref.go:115", #[⟨21, .data⟩, ⟨15, .guard⟩], some (15, true)⟩) ?_
    try simp only [Act.put, nA]
    refine tu (i := 23) (oi := ⟨some 30, .indexAddr 23 (.tmp 27) (.tmp 29), 0, "ref.go:115", #[⟨20, .data⟩, ⟨22, .data⟩, ⟨15, .guard⟩], some (15, true)⟩) ?_
    try simp only [Act.put, nA]
    refine tu (i := 24) (oi := ⟨some 31, .fieldAddr 45 (.tmp 30) 2, 0, "ref.go:115", #[⟨23, .data⟩, ⟨15, .guard⟩], some (15, true)⟩) ?_
    try simp only [Act.put, nA]
    refine tu (i := 25) (oi := ⟨some 32, .load 3 (.tmp 31), 3, "ref.go:115", #[⟨24, .data⟩, ⟨15, .guard⟩], some (15, true)⟩) ?_
    try simp only [Act.put, nA]
    refine tu (i := 26) (oi := ⟨some 33, .binOp .neq 3 (.tmp 25) (.tmp 32) 3, 4, "ref.go:115", #[⟨18, .data⟩, ⟨25, .data⟩, ⟨15, .guard⟩], some (15, true)⟩) ?_
    try simp only [Act.put, nA]
    refine tu (i := 27) (oi := ⟨some 34, .pick (.tmp 22) (.tmp 33) (.const (.bool false)), 4, "ref.go:115", #[⟨15, .data⟩, ⟨26, .data⟩, ⟨11, .guard⟩], some (11, false)⟩) ?_
    try simp only [Act.put, nA]
    refine tk (i := 28) (oi := ⟨some 35, .pick (.tmp 18) (.const (.bool true)) (.tmp 34), 4, "ref.go:115", #[⟨11, .data⟩, ⟨27, .data⟩], none⟩) ?_
    try simp only [Act.put, nA]
    refine tk (i := 29) (oi := ⟨some 36, .move (.tmp 35), 4, "ref.go:115", #[⟨28, .data⟩, ⟨15, .chain⟩], none⟩) ?_
    try simp only [Act.put, nA]
    refine tu (i := 30) (oi := ⟨some 37, .fieldAddr 55 (.tmp 2) 1, 0, "ref.go:115", #[⟨29, .guard⟩], some (29, false)⟩) ?_
    try simp only [Act.put, nA]
    refine tu (i := 31) (oi := ⟨some 38, .load 47 (.tmp 37), 47, "ref.go:115", #[⟨30, .data⟩, ⟨29, .guard⟩], some (29, false)⟩) ?_
    try simp only [Act.put, nA]
    refine tu (i := 32) (oi := ⟨some 39, .call { callee := .builtin .len, args := #[.tmp 38], argTypes := #[47] }, 3, "ref.go:115", #[⟨31, .data⟩, ⟨29, .guard⟩], some (29, false)⟩) ?_
    try simp only [Act.put, nA]
    refine tu (i := 33) (oi := ⟨some 40, .binOp .gtr 3 (.tmp 39) (.const (.int .i64 62)) 3, 4, "ref.go:115", #[⟨32, .data⟩, ⟨29, .guard⟩], some (29, false)⟩) ?_
    try simp only [Act.put, nA]
    refine tk (i := 34) (oi := ⟨some 41, .pick (.tmp 36) (.const (.bool true)) (.tmp 40), 4, "ref.go:115", #[⟨29, .data⟩, ⟨33, .data⟩], none⟩) ?_
    try simp only [Act.put, nA]
    refine wpAnyH_done (by kernel_rfl) ?_ _
    go_wp2_with fail
    go_meet
    exact ⟨by rw [hr.out.symm.trans e.out]; rfl, rfl⟩
  have dg1 : decide (cl < 1) = false := by simpa using g1
  by_cases g2 : (C.length : Int) ≤ cl
  · have dg2 : decide (cl ≥ (C.length : Int)) = true := by simpa using g2
    have e := Lib.hid (E2.out g2)
    clear g1 g2 hC' hf' E1 E2 E3 E4 E5
    refine wp_region_held_drew (S := (fun wr' => wr'.cell? ⟨w.heap.size, 0, none⟩ = some (.int .i64 cl) ∧ wr'.cell? ⟨w.heap.size, 1, none⟩ = some (.slice fa o.flds.length fc) ∧ wr'.cell? ⟨w.heap.size + 1, 1, none⟩ = some (.slice ca C.length cc) ∧ wr'.cell? ⟨w.heap.size + 1, 3, none⟩ = some (.slice oa no oc))) (by kernel_rfl) ?_ (fun hHeld => ?_)
    · (try dsimp only); exact ⟨a0, a1, b1, b3⟩
    try simp only [Act.put, nA]
    refine tk (i := 0) (oi := ⟨some 7, .fieldAddr 55 (.tmp 2) 0, 0, "ref.go:115", #[], none⟩) ?_
    try simp only [Act.put, nA]
    refine tk (i := 1) (oi := ⟨some 8, .load 3 (.tmp 7), 3, "ref.go:115", #[⟨0, .data⟩], none⟩) ?_
    try simp only [Act.put, nA]
    refine tk (i := 2) (oi := ⟨some 9, .binOp .lss 3 (.tmp 8) (.const (.int .i64 1)) 3, 4, "ref.go:115", #[⟨1, .data⟩], none⟩) ?_
    try simp only [Act.put, nA]
    refine tk (i := 3) (oi := ⟨some 10, .move (.tmp 9), 4, "ref.go:115", #[⟨2, .data⟩], none⟩) ?_
    try simp only [Act.put, nA]
    refine tk (i := 4) (oi := ⟨some 11, .fieldAddr 55 (.tmp 2) 0, 0, "ref.go:115", #[⟨3, .guard⟩], some (3, false)⟩) ?_
    try simp only [Act.put, nA]
    refine tk (i := 5) (oi := ⟨some 12, .load 3 (.tmp 11), 3, "ref.go:115", #[⟨4, .data⟩, ⟨3, .guard⟩], some (3, false)⟩) ?_
    try simp only [Act.put, nA]
    refine tk (i := 6) (oi := ⟨some 13, .fieldAddr 27 (.tmp 3) 1, 0, "ref.go:115", #[⟨3, .guard⟩], some (3, false)⟩) ?_
    try simp only [Act.put, nA]
    refine tk (i := 7) (oi := ⟨some 14, .load 23 (.tmp 13), 23, "ref.go:115", #[⟨6, .data⟩, ⟨3, .guard⟩], some (3, false)⟩) ?_
    try simp only [Act.put, nA]
    refine tk (i := 8) (oi := ⟨some 15, .call { callee := .builtin .len, args := #[.tmp 14], argTypes := #[23] }, 3, "ref.go:115", #[⟨7, .data⟩, ⟨3, .guard⟩], some (3, false)⟩) ?_
    try simp only [Act.put, nA]
    refine tk (i := 9) (oi := ⟨some 16, .binOp .geq 3 (.tmp 12) (.tmp 15) 3, 4, "ref.go:115", #[⟨5, .data⟩, ⟨8, .data⟩, ⟨3, .guard⟩], some (3, false)⟩) ?_
    try simp only [Act.put, nA]
    refine tk (i := 10) (oi := ⟨some 17, .pick (.tmp 10) (.const (.bool true)) (.tmp 16), 4, "ref.go:115", #[⟨3, .data⟩, ⟨9, .data⟩], none⟩) ?_
    try simp only [Act.put, nA]
    refine tk (i := 11) (oi := ⟨some 18, .move (.tmp 17), 4, "ref.go:115", #[⟨10, .data⟩, ⟨3, .chain⟩], none⟩) ?_
    try simp only [Act.put, nA]
    refine tu (i := 12) (oi := ⟨some 19, .fieldAddr 55 (.tmp 2) 0, 0, "ref.go:115", #[⟨11, .guard⟩], some (11, false)⟩) ?_
    try simp only [Act.put, nA]
    refine tu (i := 13) (oi := ⟨some 20, .load 3 (.tmp 19), 3, "ref.go:115", #[⟨12, .data⟩, ⟨11, .guard⟩], some (11, false)⟩) ?_
    try simp only [Act.put, nA]
    refine tu (i := 14) (oi := ⟨some 21, .binOp .gtr 3 (.tmp 20) (.const (.int .i64 1)) 3, 4, "ref.go:115", #[⟨13, .data⟩, ⟨11, .guard⟩], some (11, false)⟩) ?_
    try simp only [Act.put, nA]
    refine tu (i := 15) (oi := ⟨some 22, .move (.tmp 21), 4, "ref.go:115", #[⟨14, .data⟩, ⟨11, .chain⟩, ⟨11, .guard⟩], some (11, false)⟩) ?_
    try simp only [Act.put, nA]
    refine tu (i := 16) (oi := ⟨some 23, .fieldAddr 55 (.tmp 2) 1, 0, "ref.go:115", #[⟨15, .guard⟩], some (15, true)⟩) ?_
    try simp only [Act.put, nA]
    refine tu (i := 17) (oi := ⟨some 24, .load 47 (.tmp 23), 47, "ref.go:115", #[⟨16, .data⟩, ⟨15, .guard⟩], some (15, true)⟩) ?_
    try simp only [Act.put, nA]
    refine tu (i := 18) (oi := ⟨some 25, .call { callee := .builtin .len, args := #[.tmp 24], argTypes := #[47] }, 3, "ref.go:115", #[⟨17, .data⟩, ⟨15, .guard⟩], some (15, true)⟩) ?_
    try simp only [Act.put, nA]
    refine tu (i := 19) (oi := ⟨some 26, .fieldAddr 27 (.tmp 3) 1, 0, "ref.go:115", #[⟨15, .guard⟩], some (15, true)⟩) ?_
    try simp only [Act.put, nA]
    refine tu (i := 20) (oi := ⟨some 27, .load 23 (.tmp 26), 23, "ref.go:115", #[⟨19, .data⟩, ⟨15, .guard⟩], some (15, true)⟩) ?_
    try simp only [Act.put, nA]
    refine tu (i := 21) (oi := ⟨some 28, .fieldAddr 55 (.tmp 2) 0, 0, "ref.go:115", #[⟨15, .guard⟩], some (15, true)⟩) ?_
    try simp only [Act.put, nA]
    refine tu (i := 22) (oi := ⟨some 29, .load 3 (.tmp 28), 3, "ref.go:115", #[⟨21, .data⟩, ⟨15, .guard⟩], some (15, true)⟩) ?_
    try simp only [Act.put, nA]
    refine tu (i := 23) (oi := ⟨some 30, .indexAddr 23 (.tmp 27) (.tmp 29), 0, "ref.go:115", #[⟨20, .data⟩, ⟨22, .data⟩, ⟨15, .guard⟩], some (15, true)⟩) ?_
    try simp only [Act.put, nA]
    refine tu (i := 24) (oi := ⟨some 31, .fieldAddr 45 (.tmp 30) 2, 0, "ref.go:115", #[⟨23, .data⟩, ⟨15, .guard⟩], some (15, true)⟩) ?_
    try simp only [Act.put, nA]
    refine tu (i := 25) (oi := ⟨some 32, .load 3 (.tmp 31), 3, "ref.go:115", #[⟨24, .data⟩, ⟨15, .guard⟩], some (15, true)⟩) ?_
    try simp only [Act.put, nA]
    refine tu (i := 26) (oi := ⟨some 33, .binOp .neq 3 (.tmp 25) (.tmp 32) 3, 4, "ref.go:115", #[⟨18, .data⟩, ⟨25, .data⟩, ⟨15, .guard⟩], some (15, true)⟩) ?_
    try simp only [Act.put, nA]
    refine tu (i := 27) (oi := ⟨some 34, .pick (.tmp 22) (.tmp 33) (.const (.bool false)), 4, "ref.go:115", #[⟨15, .data⟩, ⟨26, .data⟩, ⟨11, .guard⟩], some (11, false)⟩) ?_
    try simp only [Act.put, nA]
    refine tk (i := 28) (oi := ⟨some 35, .pick (.tmp 18) (.const (.bool true)) (.tmp 34), 4, "ref.go:115", #[⟨11, .data⟩, ⟨27, .data⟩], none⟩) ?_
    try simp only [Act.put, nA]
    refine tk (i := 29) (oi := ⟨some 36, .move (.tmp 35), 4, "ref.go:115", #[⟨28, .data⟩, ⟨15, .chain⟩], none⟩) ?_
    try simp only [Act.put, nA]
    refine tu (i := 30) (oi := ⟨some 37, .fieldAddr 55 (.tmp 2) 1, 0, "ref.go:115", #[⟨29, .guard⟩], some (29, false)⟩) ?_
    try simp only [Act.put, nA]
    refine tu (i := 31) (oi := ⟨some 38, .load 47 (.tmp 37), 47, "ref.go:115", #[⟨30, .data⟩, ⟨29, .guard⟩], some (29, false)⟩) ?_
    try simp only [Act.put, nA]
    refine tu (i := 32) (oi := ⟨some 39, .call { callee := .builtin .len, args := #[.tmp 38], argTypes := #[47] }, 3, "ref.go:115", #[⟨31, .data⟩, ⟨29, .guard⟩], some (29, false)⟩) ?_
    try simp only [Act.put, nA]
    refine tu (i := 33) (oi := ⟨some 40, .binOp .gtr 3 (.tmp 39) (.const (.int .i64 62)) 3, 4, "ref.go:115", #[⟨32, .data⟩, ⟨29, .guard⟩], some (29, false)⟩) ?_
    try simp only [Act.put, nA]
    refine tk (i := 34) (oi := ⟨some 41, .pick (.tmp 36) (.const (.bool true)) (.tmp 40), 4, "ref.go:115", #[⟨29, .data⟩, ⟨33, .data⟩], none⟩) ?_
    try simp only [Act.put, nA]
    refine wpAnyH_done (by kernel_rfl) ?_ _
    go_wp2_with fail
    go_meet
    exact ⟨by rw [hr.out.symm.trans e.out]; rfl, rfl⟩
  have dg2 : decide (cl ≥ (C.length : Int)) = false := by simp; omega
  obtain ⟨k, rfl⟩ : ∃ k : Nat, cl = k := ⟨cl.toNat, by omega⟩
  have hkC : k < C.length := by omega
  obtain ⟨x, hx⟩ : ∃ x, C[k]? = some x := ⟨C[k], by simp⟩
  have ek := Lib.hid (clsF_at hx)
  obtain ⟨_, ⟨f0, f1⟩, g, off, bv, rfl, _, _, d2, _, _⟩ := ClV.at hC'.out hx
  have k0 : (0 : Int) ≤ (k : Int) := by omega
  have k1 : (k : Int) < (C.length : Int) := by omega
  have dg2n : decide (C.length ≤ k) = false := by simp; omega
  have hh := Lib.hid (show ¬ ((k : Int) < 1 ∨ (C.length : Int) ≤ (k : Int)) by omega)
  generalize x.fields = xf at *
  clear hx E1 E2
  by_cases g3 : 1 < k
  · have dg3 : decide ((k : Int) > 1) = true := by simp; omega
    have dg3n : decide (1 < k) = true := by simpa using g3
    by_cases g4 : (o.flds.length : Int) = xf
    · have dg4 : ((o.flds.length : Int) != xf) = false := by simpa using g4
      by_cases g5 : 62 < o.flds.length
      · have dg5 : decide ((o.flds.length : Int) > 62) = true := by simp; omega
        have dg5n : decide (62 < o.flds.length) = true := by simpa using g5
        have e := Lib.hid (E4.out g5)
        clear g1 g2 g4 g5 E3 E4 E5
        refine wp_region_held_drew (S := (fun wr' => wr'.cell? ⟨w.heap.size, 0, none⟩ = some (.int .i64 (k : Int)) ∧ wr'.cell? ⟨w.heap.size, 1, none⟩ = some (.slice fa o.flds.length fc) ∧ wr'.cell? ⟨w.heap.size + 1, 1, none⟩ = some (.slice (some ⟨g, off, none⟩) C.length cc) ∧ wr'.cell? ⟨w.heap.size + 1, 3, none⟩ = some (.slice oa no oc) ∧ wr'.cell? ⟨g, off + k * 4 + 2, none⟩ = some (.int .i64 xf))) (by kernel_rfl) ?_ (fun hHeld => ?_)
        · (try dsimp only); exact ⟨a0, a1, b1, b3, d2⟩
        try simp only [Act.put, nA]
        refine tk (i := 0) (oi := ⟨some 7, .fieldAddr 55 (.tmp 2) 0, 0, "ref.go:115", #[], none⟩) ?_
        try simp only [Act.put, nA]
        refine tk (i := 1) (oi := ⟨some 8, .load 3 (.tmp 7), 3, "ref.go:115", #[⟨0, .data⟩], none⟩) ?_
        try simp only [Act.put, nA]
        refine tk (i := 2) (oi := ⟨some 9, .binOp .lss 3 (.tmp 8) (.const (.int .i64 1)) 3, 4, "ref.go:115", #[⟨1, .data⟩], none⟩) ?_
        try simp only [Act.put, nA]
        refine tk (i := 3) (oi := ⟨some 10, .move (.tmp 9), 4, "ref.go:115", #[⟨2, .data⟩], none⟩) ?_
        try simp only [Act.put, nA]
        refine tk (i := 4) (oi := ⟨some 11, .fieldAddr 55 (.tmp 2) 0, 0, "ref.go:115", #[⟨3, .guard⟩], some (3, false)⟩) ?_
        try simp only [Act.put, nA]
        refine tk (i := 5) (oi := ⟨some 12, .load 3 (.tmp 11), 3, "ref.go:115", #[⟨4, .data⟩, ⟨3, .guard⟩], some (3, false)⟩) ?_
        try simp only [Act.put, nA]
        refine tk (i := 6) (oi := ⟨some 13, .fieldAddr 27 (.tmp 3) 1, 0, "ref.go:115", #[⟨3, .guard⟩], some (3, false)⟩) ?_
        try simp only [Act.put, nA]
        refine tk (i := 7) (oi := ⟨some 14, .load 23 (.tmp 13), 23, "ref.go:115", #[⟨6, .data⟩, ⟨3, .guard⟩], some (3, false)⟩) ?_
        try simp only [Act.put, nA]
        refine tk (i := 8) (oi := ⟨some 15, .call { callee := .builtin .len, args := #[.tmp 14], argTypes := #[23] }, 3, "ref.go:115", #[⟨7, .data⟩, ⟨3, .guard⟩], some (3, false)⟩) ?_
        try simp only [Act.put, nA]
        refine tk (i := 9) (oi := ⟨some 16, .binOp .geq 3 (.tmp 12) (.tmp 15) 3, 4, "ref.go:115", #[⟨5, .data⟩, ⟨8, .data⟩, ⟨3, .guard⟩], some (3, false)⟩) ?_
        try simp only [Act.put, nA]
        refine tk (i := 10) (oi := ⟨some 17, .pick (.tmp 10) (.const (.bool true)) (.tmp 16), 4, "ref.go:115", #[⟨3, .data⟩, ⟨9, .data⟩], none⟩) ?_
        try simp only [Act.put, nA]
        refine tk (i := 11) (oi := ⟨some 18, .move (.tmp 17), 4, "ref.go:115", #[⟨10, .data⟩, ⟨3, .chain⟩], none⟩) ?_
        try simp only [Act.put, nA]
        refine tk (i := 12) (oi := ⟨some 19, .fieldAddr 55 (.tmp 2) 0, 0, "ref.go:115", #[⟨11, .guard⟩], some (11, false)⟩) ?_
        try simp only [Act.put, nA]
        refine tk (i := 13) (oi := ⟨some 20, .load 3 (.tmp 19), 3, "ref.go:115", #[⟨12, .data⟩, ⟨11, .guard⟩], some (11, false)⟩) ?_
        try simp only [Act.put, nA]
        refine tk (i := 14) (oi := ⟨some 21, .binOp .gtr 3 (.tmp 20) (.const (.int .i64 1)) 3, 4, "ref.go:115", #[⟨13, .data⟩, ⟨11, .guard⟩], some (11, false)⟩) ?_
        try simp only [Act.put, nA]
        refine tk (i := 15) (oi := ⟨some 22, .move (.tmp 21), 4, "ref.go:115", #[⟨14, .data⟩, ⟨11, .chain⟩, ⟨11, .guard⟩], some (11, false)⟩) ?_
        try simp only [Act.put, nA]
        refine tk (i := 16) (oi := ⟨some 23, .fieldAddr 55 (.tmp 2) 1, 0, "ref.go:115", #[⟨15, .guard⟩], some (15, true)⟩) ?_
        try simp only [Act.put, nA]
        refine tk (i := 17) (oi := ⟨some 24, .load 47 (.tmp 23), 47, "ref.go:115", #[⟨16, .data⟩, ⟨15, .guard⟩], some (15, true)⟩) ?_
        try simp only [Act.put, nA]
        refine tk (i := 18) (oi := ⟨some 25, .call { callee := .builtin .len, args := #[.tmp 24], argTypes := #[47] }, 3, "ref.go:115", #[⟨17, .data⟩, ⟨15, .guard⟩], some (15, true)⟩) ?_
        try simp only [Act.put, nA]
        refine tk (i := 19) (oi := ⟨some 26, .fieldAddr 27 (.tmp 3) 1, 0, "ref.go:115", #[⟨15, .guard⟩], some (15, true)⟩) ?_
        try simp only [Act.put, nA]
        refine tk (i := 20) (oi := ⟨some 27, .load 23 (.tmp 26), 23, "ref.go:115", #[⟨19, .data⟩, ⟨15, .guard⟩], some (15, true)⟩) ?_
        try simp only [Act.put, nA]
        refine tk (i := 21) (oi := ⟨some 28, .fieldAddr 55 (.tmp 2) 0, 0, "ref.go:115", #[⟨15, .guard⟩], some (15, true)⟩) ?_
        try simp only [Act.put, nA]
        refine tk (i := 22) (oi := ⟨some 29, .load 3 (.tmp 28), 3, "ref.go:115", #[⟨21, .data⟩, ⟨15, .guard⟩], some (15, true)⟩) ?_
        try simp only [Act.put, nA]
        refine tk (i := 23) (oi := ⟨some 30, .indexAddr 23 (.tmp 27) (.tmp 29), 0, "ref.go:115", #[⟨20, .data⟩, ⟨22, .data⟩, ⟨15, .guard⟩], some (15, true)⟩) ?_
        try simp only [Act.put, nA]
        refine tk (i := 24) (oi := ⟨some 31, .fieldAddr 45 (.tmp 30) 2, 0, "ref.go:115", #[⟨23, .data⟩, ⟨15, .guard⟩], some (15, true)⟩) ?_
        try simp only [Act.put, nA]
        refine tk (i := 25) (oi := ⟨some 32, .load 3 (.tmp 31), 3, "ref.go:115", #[⟨24, .data⟩, ⟨15, .guard⟩], some (15, true)⟩) ?_
        try simp only [Act.put, nA]
        refine tk (i := 26) (oi := ⟨some 33, .binOp .neq 3 (.tmp 25) (.tmp 32) 3, 4, "ref.go:115", #[⟨18, .data⟩, ⟨25, .data⟩, ⟨15, .guard⟩], some (15, true)⟩) ?_
        try simp only [Act.put, nA]
        refine tk (i := 27) (oi := ⟨some 34, .pick (.tmp 22) (.tmp 33) (.const (.bool false)), 4, "ref.go:115", #[⟨15, .data⟩, ⟨26, .data⟩, ⟨11, .guard⟩], some (11, false)⟩) ?_
        try simp only [Act.put, nA]
        refine tk (i := 28) (oi := ⟨some 35, .pick (.tmp 18) (.const (.bool true)) (.tmp 34), 4, "ref.go:115", #[⟨11, .data⟩, ⟨27, .data⟩], none⟩) ?_
        try simp only [Act.put, nA]
        refine tk (i := 29) (oi := ⟨some 36, .move (.tmp 35), 4, "ref.go:115", #[⟨28, .data⟩, ⟨15, .chain⟩], none⟩) ?_
        try simp only [Act.put, nA]
        refine tk (i := 30) (oi := ⟨some 37, .fieldAddr 55 (.tmp 2) 1, 0, "ref.go:115", #[⟨29, .guard⟩], some (29, false)⟩) ?_
        try simp only [Act.put, nA]
        refine tk (i := 31) (oi := ⟨some 38, .load 47 (.tmp 37), 47, "ref.go:115", #[⟨30, .data⟩, ⟨29, .guard⟩], some (29, false)⟩) ?_
        try simp only [Act.put, nA]
        refine tk (i := 32) (oi := ⟨some 39, .call { callee := .builtin .len, args := #[.tmp 38], argTypes := #[47] }, 3, "ref.go:115", #[⟨31, .data⟩, ⟨29, .guard⟩], some (29, false)⟩) ?_
        try simp only [Act.put, nA]
        refine tk (i := 33) (oi := ⟨some 40, .binOp .gtr 3 (.tmp 39) (.const (.int .i64 62)) 3, 4, "ref.go:115", #[⟨32, .data⟩, ⟨29, .guard⟩], some (29, false)⟩) ?_
        try simp only [Act.put, nA]
        refine tk (i := 34) (oi := ⟨some 41, .pick (.tmp 36) (.const (.bool true)) (.tmp 40), 4, "ref.go:115", #[⟨29, .data⟩, ⟨33, .data⟩], none⟩) ?_
        try simp only [Act.put, nA]
        refine wpAnyH_done (by kernel_rfl) ?_ _
        go_wp2_with fail
        go_meet
        exact ⟨by rw [hr.out.symm.trans e.out]; rfl, rfl⟩
      · have dg5 : decide ((o.flds.length : Int) > 62) = false := by simp; omega
        have dg5n : decide (62 < o.flds.length) = false := by simpa using g5
        have e := Lib.hid (E5.out hh.out (fun h => h.2 (by rw [ek.out]; exact g4)) (by omega))
        clear g1 g2 g4 g5 E3 E4 E5
        refine wp_region_held_drew (S := (fun wr' => wr'.cell? ⟨w.heap.size, 0, none⟩ = some (.int .i64 (k : Int)) ∧ wr'.cell? ⟨w.heap.size, 1, none⟩ = some (.slice fa o.flds.length fc) ∧ wr'.cell? ⟨w.heap.size + 1, 1, none⟩ = some (.slice (some ⟨g, off, none⟩) C.length cc) ∧ wr'.cell? ⟨w.heap.size + 1, 3, none⟩ = some (.slice oa no oc) ∧ wr'.cell? ⟨g, off + k * 4 + 2, none⟩ = some (.int .i64 xf))) (by kernel_rfl) ?_ (fun hHeld => ?_)
        · (try dsimp only); exact ⟨a0, a1, b1, b3, d2⟩
        try simp only [Act.put, nA]
        refine tk (i := 0) (oi := ⟨some 7, .fieldAddr 55 (.tmp 2) 0, 0, "ref.go:115", #[], none⟩) ?_
        try simp only [Act.put, nA]
        refine tk (i := 1) (oi := ⟨some 8, .load 3 (.tmp 7), 3, "ref.go:115", #[⟨0, .data⟩], none⟩) ?_
        try simp only [Act.put, nA]
        refine tk (i := 2) (oi := ⟨some 9, .binOp .lss 3 (.tmp 8) (.const (.int .i64 1)) 3, 4, "ref.go:115", #[⟨1, .data⟩], none⟩) ?_
        try simp only [Act.put, nA]
        refine tk (i := 3) (oi := ⟨some 10, .move (.tmp 9), 4, "ref.go:115", #[⟨2, .data⟩], none⟩) ?_
        try simp only [Act.put, nA]
        refine tk (i := 4) (oi := ⟨some 11, .fieldAddr 55 (.tmp 2) 0, 0, "ref.go:115", #[⟨3, .guard⟩], some (3, false)⟩) ?_
        try simp only [Act.put, nA]
        refine tk (i := 5) (oi := ⟨some 12, .load 3 (.tmp 11), 3, "ref.go:115", #[⟨4, .data⟩, ⟨3, .guard⟩], some (3, false)⟩) ?_
        try simp only [Act.put, nA]
        refine tk (i := 6) (oi := ⟨some 13, .fieldAddr 27 (.tmp 3) 1, 0, "ref.go:115", #[⟨3, .guard⟩], some (3, false)⟩) ?_
        try simp only [Act.put, nA]
        refine tk (i := 7) (oi := ⟨some 14, .load 23 (.tmp 13), 23, "ref.go:115", #[⟨6, .data⟩, ⟨3, .guard⟩], some (3, false)⟩) ?_
        try simp only [Act.put, nA]
        refine tk (i := 8) (oi := ⟨some 15, .call { callee := .builtin .len, args := #[.tmp 14], argTypes := #[23] }, 3, "ref.go:115", #[⟨7, .data⟩, ⟨3, .guard⟩], some (3, false)⟩) ?_
        try simp only [Act.put, nA]
        refine tk (i := 9) (oi := ⟨some 16, .binOp .geq 3 (.tmp 12) (.tmp 15) 3, 4, "ref.go:115", #[⟨5, .data⟩, ⟨8, .data⟩, ⟨3, .guard⟩], some (3, false)⟩) ?_
        try simp only [Act.put, nA]
        refine tk (i := 10) (oi := ⟨some 17, .pick (.tmp 10) (.const (.bool true)) (.tmp 16), 4, "ref.go:115", #[⟨3, .data⟩, ⟨9, .data⟩], none⟩) ?_
        try simp only [Act.put, nA]
        refine tk (i := 11) (oi := ⟨some 18, .move (.tmp 17), 4, "ref.go:115", #[⟨10, .data⟩, ⟨3, .chain⟩], none⟩) ?_
        try simp only [Act.put, nA]
        refine tk (i := 12) (oi := ⟨some 19, .fieldAddr 55 (.tmp 2) 0, 0, "ref.go:115", #[⟨11, .guard⟩], some (11, false)⟩) ?_
        try simp only [Act.put, nA]
        refine tk (i := 13) (oi := ⟨some 20, .load 3 (.tmp 19), 3, "ref.go:115", #[⟨12, .data⟩, ⟨11, .guard⟩], some (11, false)⟩) ?_
        try simp only [Act.put, nA]
        refine tk (i := 14) (oi := ⟨some 21, .binOp .gtr 3 (.tmp 20) (.const (.int .i64 1)) 3, 4, "ref.go:115", #[⟨13, .data⟩, ⟨11, .guard⟩], some (11, false)⟩) ?_
        try simp only [Act.put, nA]
        refine tk (i := 15) (oi := ⟨some 22, .move (.tmp 21), 4, "ref.go:115", #[⟨14, .data⟩, ⟨11, .chain⟩, ⟨11, .guard⟩], some (11, false)⟩) ?_
        try simp only [Act.put, nA]
        refine tk (i := 16) (oi := ⟨some 23, .fieldAddr 55 (.tmp 2) 1, 0, "ref.go:115", #[⟨15, .guard⟩], some (15, true)⟩) ?_
        try simp only [Act.put, nA]
        refine tk (i := 17) (oi := ⟨some 24, .load 47 (.tmp 23), 47, "ref.go:115", #[⟨16, .data⟩, ⟨15, .guard⟩], some (15, true)⟩) ?_
        try simp only [Act.put, nA]
        refine tk (i := 18) (oi := ⟨some 25, .call { callee := .builtin .len, args := #[.tmp 24], argTypes := #[47] }, 3, "ref.go:115", #[⟨17, .data⟩, ⟨15, .guard⟩], some (15, true)⟩) ?_
        try simp only [Act.put, nA]
        refine tk (i := 19) (oi := ⟨some 26, .fieldAddr 27 (.tmp 3) 1, 0, "ref.go:115", #[⟨15, .guard⟩], some (15, true)⟩) ?_
        try simp only [Act.put, nA]
        refine tk (i := 20) (oi := ⟨some 27, .load 23 (.tmp 26), 23, "ref.go:115", #[⟨19, .data⟩, ⟨15, .guard⟩], some (15, true)⟩) ?_
        try simp only [Act.put, nA]
        refine tk (i := 21) (oi := ⟨some 28, .fieldAddr 55 (.tmp 2) 0, 0, "ref.go:115", #[⟨15, .guard⟩], some (15, true)⟩) ?_
        try simp only [Act.put, nA]
        refine tk (i := 22) (oi := ⟨some 29, .load 3 (.tmp 28), 3, "ref.go:115", #[⟨21, .data⟩, ⟨15, .guard⟩], some (15, true)⟩) ?_
        try simp only [Act.put, nA]
        refine tk (i := 23) (oi := ⟨some 30, .indexAddr 23 (.tmp 27) (.tmp 29), 0, "ref.go:115", #[⟨20, .data⟩, ⟨22, .data⟩, ⟨15, .guard⟩], some (15, true)⟩) ?_
        try simp only [Act.put, nA]
        refine tk (i := 24) (oi := ⟨some 31, .fieldAddr 45 (.tmp 30) 2, 0, "ref.go:115", #[⟨23, .data⟩, ⟨15, .guard⟩], some (15, true)⟩) ?_
        try simp only [Act.put, nA]
        refine tk (i := 25) (oi := ⟨some 32, .load 3 (.tmp 31), 3, "ref.go:115", #[⟨24, .data⟩, ⟨15, .guard⟩], some (15, true)⟩) ?_
        try simp only [Act.put, nA]
        refine tk (i := 26) (oi := ⟨some 33, .binOp .neq 3 (.tmp 25) (.tmp 32) 3, 4, "ref.go:115", #[⟨18, .data⟩, ⟨25, .data⟩, ⟨15, .guard⟩], some (15, true)⟩) ?_
        try simp only [Act.put, nA]
        refine tk (i := 27) (oi := ⟨some 34, .pick (.tmp 22) (.tmp 33) (.const (.bool false)), 4, "ref.go:115", #[⟨15, .data⟩, ⟨26, .data⟩, ⟨11, .guard⟩], some (11, false)⟩) ?_
        try simp only [Act.put, nA]
        refine tk (i := 28) (oi := ⟨some 35, .pick (.tmp 18) (.const (.bool true)) (.tmp 34), 4, "ref.go:115", #[⟨11, .data⟩, ⟨27, .data⟩], none⟩) ?_
        try simp only [Act.put, nA]
        refine tk (i := 29) (oi := ⟨some 36, .move (.tmp 35), 4, "ref.go:115", #[⟨28, .data⟩, ⟨15, .chain⟩], none⟩) ?_
        try simp only [Act.put, nA]
        refine tk (i := 30) (oi := ⟨some 37, .fieldAddr 55 (.tmp 2) 1, 0, "ref.go:115", #[⟨29, .guard⟩], some (29, false)⟩) ?_
        try simp only [Act.put, nA]
        refine tk (i := 31) (oi := ⟨some 38, .load 47 (.tmp 37), 47, "ref.go:115", #[⟨30, .data⟩, ⟨29, .guard⟩], some (29, false)⟩) ?_
        try simp only [Act.put, nA]
        refine tk (i := 32) (oi := ⟨some 39, .call { callee := .builtin .len, args := #[.tmp 38], argTypes := #[47] }, 3, "ref.go:115", #[⟨31, .data⟩, ⟨29, .guard⟩], some (29, false)⟩) ?_
        try simp only [Act.put, nA]
        refine tk (i := 33) (oi := ⟨some 40, .binOp .gtr 3 (.tmp 39) (.const (.int .i64 62)) 3, 4, "ref.go:115", #[⟨32, .data⟩, ⟨29, .guard⟩], some (29, false)⟩) ?_
        try simp only [Act.put, nA]
        refine tk (i := 34) (oi := ⟨some 41, .pick (.tmp 36) (.const (.bool true)) (.tmp 40), 4, "ref.go:115", #[⟨29, .data⟩, ⟨33, .data⟩], none⟩) ?_
        try simp only [Act.put, nA]
        refine wpAnyH_done (by kernel_rfl) ?_ _
        go_wp2_with fail
        go_meet
        exact ⟨by rw [hr.out.symm.trans e.out]; rfl, rfl⟩
    · have dg4 : ((o.flds.length : Int) != xf) = true := by simpa using g4
      have e := Lib.hid (E3.out hh.out (by omega) (by rw [ek.out]; exact g4))
      clear g4 g1 g2 E3 E4 E5
      refine wp_region_held_drew (S := (fun wr' => wr'.cell? ⟨w.heap.size, 0, none⟩ = some (.int .i64 (k : Int)) ∧ wr'.cell? ⟨w.heap.size, 1, none⟩ = some (.slice fa o.flds.length fc) ∧ wr'.cell? ⟨w.heap.size + 1, 1, none⟩ = some (.slice (some ⟨g, off, none⟩) C.length cc) ∧ wr'.cell? ⟨w.heap.size + 1, 3, none⟩ = some (.slice oa no oc) ∧ wr'.cell? ⟨g, off + k * 4 + 2, none⟩ = some (.int .i64 xf))) (by kernel_rfl) ?_ (fun hHeld => ?_)
      · (try dsimp only); exact ⟨a0, a1, b1, b3, d2⟩
      try simp only [Act.put, nA]
      refine tk (i := 0) (oi := ⟨some 7, .fieldAddr 55 (.tmp 2) 0, 0, "ref.go:115", #[], none⟩) ?_
      try simp only [Act.put, nA]
      refine tk (i := 1) (oi := ⟨some 8, .load 3 (.tmp 7), 3, "ref.go:115", #[⟨0, .data⟩], none⟩) ?_
      try simp only [Act.put, nA]
      refine tk (i := 2) (oi := ⟨some 9, .binOp .lss 3 (.tmp 8) (.const (.int .i64 1)) 3, 4, "ref.go:115", #[⟨1, .data⟩], none⟩) ?_
      try simp only [Act.put, nA]
      refine tk (i := 3) (oi := ⟨some 10, .move (.tmp 9), 4, "ref.go:115", #[⟨2, .data⟩], none⟩) ?_
      try simp only [Act.put, nA]
      refine tk (i := 4) (oi := ⟨some 11, .fieldAddr 55 (.tmp 2) 0, 0, "ref.go:115", #[⟨3, .guard⟩], some (3, false)⟩) ?_
      try simp only [Act.put, nA]
      refine tk (i := 5) (oi := ⟨some 12, .load 3 (.tmp 11), 3, "ref.go:115", #[⟨4, .data⟩, ⟨3, .guard⟩], some (3, false)⟩) ?_
      try simp only [Act.put, nA]
      refine tk (i := 6) (oi := ⟨some 13, .fieldAddr 27 (.tmp 3) 1, 0, "ref.go:115", #[⟨3, .guard⟩], some (3, false)⟩) ?_
      try simp only [Act.put, nA]
      refine tk (i := 7) (oi := ⟨some 14, .load 23 (.tmp 13), 23, "ref.go:115", #[⟨6, .data⟩, ⟨3, .guard⟩], some (3, false)⟩) ?_
      try simp only [Act.put, nA]
      refine tk (i := 8) (oi := ⟨some 15, .call { callee := .builtin .len, args := #[.tmp 14], argTypes := #[23] }, 3, "ref.go:115", #[⟨7, .data⟩, ⟨3, .guard⟩], some (3, false)⟩) ?_
      try simp only [Act.put, nA]
      refine tk (i := 9) (oi := ⟨some 16, .binOp .geq 3 (.tmp 12) (.tmp 15) 3, 4, "ref.go:115", #[⟨5, .data⟩, ⟨8, .data⟩, ⟨3, .guard⟩], some (3, false)⟩) ?_
      try simp only [Act.put, nA]
      refine tk (i := 10) (oi := ⟨some 17, .pick (.tmp 10) (.const (.bool true)) (.tmp 16), 4, "ref.go:115", #[⟨3, .data⟩, ⟨9, .data⟩], none⟩) ?_
      try simp only [Act.put, nA]
      refine tk (i := 11) (oi := ⟨some 18, .move (.tmp 17), 4, "ref.go:115", #[⟨10, .data⟩, ⟨3, .chain⟩], none⟩) ?_
      try simp only [Act.put, nA]
      refine tk (i := 12) (oi := ⟨some 19, .fieldAddr 55 (.tmp 2) 0, 0, "ref.go:115", #[⟨11, .guard⟩], some (11, false)⟩) ?_
      try simp only [Act.put, nA]
      refine tk (i := 13) (oi := ⟨some 20, .load 3 (.tmp 19), 3, "ref.go:115", #[⟨12, .data⟩, ⟨11, .guard⟩], some (11, false)⟩) ?_
      try simp only [Act.put, nA]
      refine tk (i := 14) (oi := ⟨some 21, .binOp .gtr 3 (.tmp 20) (.const (.int .i64 1)) 3, 4, "ref.go:115", #[⟨13, .data⟩, ⟨11, .guard⟩], some (11, false)⟩) ?_
      try simp only [Act.put, nA]
      refine tk (i := 15) (oi := ⟨some 22, .move (.tmp 21), 4, "ref.go:115", #[⟨14, .data⟩, ⟨11, .chain⟩, ⟨11, .guard⟩], some (11, false)⟩) ?_
      try simp only [Act.put, nA]
      refine tk (i := 16) (oi := ⟨some 23, .fieldAddr 55 (.tmp 2) 1, 0, "ref.go:115", #[⟨15, .guard⟩], some (15, true)⟩) ?_
      try simp only [Act.put, nA]
      refine tk (i := 17) (oi := ⟨some 24, .load 47 (.tmp 23), 47, "ref.go:115", #[⟨16, .data⟩, ⟨15, .guard⟩], some (15, true)⟩) ?_
      try simp only [Act.put, nA]
      refine tk (i := 18) (oi := ⟨some 25, .call { callee := .builtin .len, args := #[.tmp 24], argTypes := #[47] }, 3, "ref.go:115", #[⟨17, .data⟩, ⟨15, .guard⟩], some (15, true)⟩) ?_
      try simp only [Act.put, nA]
      refine tk (i := 19) (oi := ⟨some 26, .fieldAddr 27 (.tmp 3) 1, 0, "ref.go:115", #[⟨15, .guard⟩], some (15, true)⟩) ?_
      try simp only [Act.put, nA]
      refine tk (i := 20) (oi := ⟨some 27, .load 23 (.tmp 26), 23, "ref.go:115", #[⟨19, .data⟩, ⟨15, .guard⟩], some (15, true)⟩) ?_
      try simp only [Act.put, nA]
      refine tk (i := 21) (oi := ⟨some 28, .fieldAddr 55 (.tmp 2) 0, 0, "ref.go:115", #[⟨15, .guard⟩], some (15, true)⟩) ?_
      try simp only [Act.put, nA]
      refine tk (i := 22) (oi := ⟨some 29, .load 3 (.tmp 28), 3, "ref.go:115", #[⟨21, .data⟩, ⟨15, .guard⟩], some (15, true)⟩) ?_
      try simp only [Act.put, nA]
      refine tk (i := 23) (oi := ⟨some 30, .indexAddr 23 (.tmp 27) (.tmp 29), 0, "ref.go:115", #[⟨20, .data⟩, ⟨22, .data⟩, ⟨15, .guard⟩], some (15, true)⟩) ?_
      try simp only [Act.put, nA]
      refine tk (i := 24) (oi := ⟨some 31, .fieldAddr 45 (.tmp 30) 2, 0, "ref.go:115", #[⟨23, .data⟩, ⟨15, .guard⟩], some (15, true)⟩) ?_
      try simp only [Act.put, nA]
      refine tk (i := 25) (oi := ⟨some 32, .load 3 (.tmp 31), 3, "ref.go:115", #[⟨24, .data⟩, ⟨15, .guard⟩], some (15, true)⟩) ?_
      try simp only [Act.put, nA]
      refine tk (i := 26) (oi := ⟨some 33, .binOp .neq 3 (.tmp 25) (.tmp 32) 3, 4, "ref.go:115", #[⟨18, .data⟩, ⟨25, .data⟩, ⟨15, .guard⟩], some (15, true)⟩) ?_
      try simp only [Act.put, nA]
      refine tk (i := 27) (oi := ⟨some 34, .pick (.tmp 22) (.tmp 33) (.const (.bool false)), 4, "ref.go:115", #[⟨15, .data⟩, ⟨26, .data⟩, ⟨11, .guard⟩], some (11, false)⟩) ?_
      try simp only [Act.put, nA]
      refine tk (i := 28) (oi := ⟨some 35, .pick (.tmp 18) (.const (.bool true)) (.tmp 34), 4, "ref.go:115", #[⟨11, .data⟩, ⟨27, .data⟩], none⟩) ?_
      try simp only [Act.put, nA]
      refine tk (i := 29) (oi := ⟨some 36, .move (.tmp 35), 4, "ref.go:115", #[⟨28, .data⟩, ⟨15, .chain⟩], none⟩) ?_
      try simp only [Act.put, nA]
      refine tu (i := 30) (oi := ⟨some 37, .fieldAddr 55 (.tmp 2) 1, 0, "ref.go:115", #[⟨29, .guard⟩], some (29, false)⟩) ?_
      try simp only [Act.put, nA]
      refine tu (i := 31) (oi := ⟨some 38, .load 47 (.tmp 37), 47, "ref.go:115", #[⟨30, .data⟩, ⟨29, .guard⟩], some (29, false)⟩) ?_
      try simp only [Act.put, nA]
      refine tu (i := 32) (oi := ⟨some 39, .call { callee := .builtin .len, args := #[.tmp 38], argTypes := #[47] }, 3, "ref.go:115", #[⟨31, .data⟩, ⟨29, .guard⟩], some (29, false)⟩) ?_
      try simp only [Act.put, nA]
      refine tu (i := 33) (oi := ⟨some 40, .binOp .gtr 3 (.tmp 39) (.const (.int .i64 62)) 3, 4, "ref.go:115", #[⟨32, .data⟩, ⟨29, .guard⟩], some (29, false)⟩) ?_
      try simp only [Act.put, nA]
      refine tk (i := 34) (oi := ⟨some 41, .pick (.tmp 36) (.const (.bool true)) (.tmp 40), 4, "ref.go:115", #[⟨29, .data⟩, ⟨33, .data⟩], none⟩) ?_
      try simp only [Act.put, nA]
      refine wpAnyH_done (by kernel_rfl) ?_ _
      go_wp2_with fail
      go_meet
      exact ⟨by rw [hr.out.symm.trans e.out]; rfl, rfl⟩
  have dg3 : decide ((k : Int) > 1) = false := by simp; omega
  have dg3n : decide (1 < k) = false := by simpa using g3
  by_cases g5 : 62 < o.flds.length
  · have dg5 : decide ((o.flds.length : Int) > 62) = true := by simp; omega
    have dg5n : decide (62 < o.flds.length) = true := by simpa using g5
    have e := Lib.hid (E4.out g5)
    clear g1 g2 g5 E3 E4 E5
    refine wp_region_held_drew (S := (fun wr' => wr'.cell? ⟨w.heap.size, 0, none⟩ = some (.int .i64 (k : Int)) ∧ wr'.cell? ⟨w.heap.size, 1, none⟩ = some (.slice fa o.flds.length fc) ∧ wr'.cell? ⟨w.heap.size + 1, 1, none⟩ = some (.slice (some ⟨g, off, none⟩) C.length cc) ∧ wr'.cell? ⟨w.heap.size + 1, 3, none⟩ = some (.slice oa no oc) ∧ wr'.cell? ⟨g, off + k * 4 + 2, none⟩ = some (.int .i64 xf))) (by kernel_rfl) ?_ (fun hHeld => ?_)
    · (try dsimp only); exact ⟨a0, a1, b1, b3, d2⟩
    try simp only [Act.put, nA]
    refine tk (i := 0) (oi := ⟨some 7, .fieldAddr 55 (.tmp 2) 0, 0, "ref.go:115", #[], none⟩) ?_
    try simp only [Act.put, nA]
    refine tk (i := 1) (oi := ⟨some 8, .load 3 (.tmp 7), 3, "ref.go:115", #[⟨0, .data⟩], none⟩) ?_
    try simp only [Act.put, nA]
    refine tk (i := 2) (oi := ⟨some 9, .binOp .lss 3 (.tmp 8) (.const (.int .i64 1)) 3, 4, "ref.go:115", #[⟨1, .data⟩], none⟩) ?_
    try simp only [Act.put, nA]
    refine tk (i := 3) (oi := ⟨some 10, .move (.tmp 9), 4, "ref.go:115", #[⟨2, .data⟩], none⟩) ?_
    try simp only [Act.put, nA]
    refine tk (i := 4) (oi := ⟨some 11, .fieldAddr 55 (.tmp 2) 0, 0, "ref.go:115", #[⟨3, .guard⟩], some (3, false)⟩) ?_
    try simp only [Act.put, nA]
    refine tk (i := 5) (oi := ⟨some 12, .load 3 (.tmp 11), 3, "ref.go:115", #[⟨4, .data⟩, ⟨3, .guard⟩], some (3, false)⟩) ?_
    try simp only [Act.put, nA]
    refine tk (i := 6) (oi := ⟨some 13, .fieldAddr 27 (.tmp 3) 1, 0, "ref.go:115", #[⟨3, .guard⟩], some (3, false)⟩) ?_
    try simp only [Act.put, nA]
    refine tk (i := 7) (oi := ⟨some 14, .load 23 (.tmp 13), 23, "ref.go:115", #[⟨6, .data⟩, ⟨3, .guard⟩], some (3, false)⟩) ?_
    try simp only [Act.put, nA]
    refine tk (i := 8) (oi := ⟨some 15, .call { callee := .builtin .len, args := #[.tmp 14], argTypes := #[23] }, 3, "ref.go:115", #[⟨7, .data⟩, ⟨3, .guard⟩], some (3, false)⟩) ?_
    try simp only [Act.put, nA]
    refine tk (i := 9) (oi := ⟨some 16, .binOp .geq 3 (.tmp 12) (.tmp 15) 3, 4, "ref.go:115", #[⟨5, .data⟩, ⟨8, .data⟩, ⟨3, .guard⟩], some (3, false)⟩) ?_
    try simp only [Act.put, nA]
    refine tk (i := 10) (oi := ⟨some 17, .pick (.tmp 10) (.const (.bool true)) (.tmp 16), 4, "ref.go:115", #[⟨3, .data⟩, ⟨9, .data⟩], none⟩) ?_
    try simp only [Act.put, nA]
    refine tk (i := 11) (oi := ⟨some 18, .move (.tmp 17), 4, "ref.go:115", #[⟨10, .data⟩, ⟨3, .chain⟩], none⟩) ?_
    try simp only [Act.put, nA]
    refine tk (i := 12) (oi := ⟨some 19, .fieldAddr 55 (.tmp 2) 0, 0, "ref.go:115", #[⟨11, .guard⟩], some (11, false)⟩) ?_
    try simp only [Act.put, nA]
    refine tk (i := 13) (oi := ⟨some 20, .load 3 (.tmp 19), 3, "ref.go:115", #[⟨12, .data⟩, ⟨11, .guard⟩], some (11, false)⟩) ?_
    try simp only [Act.put, nA]
    refine tk (i := 14) (oi := ⟨some 21, .binOp .gtr 3 (.tmp 20) (.const (.int .i64 1)) 3, 4, "ref.go:115", #[⟨13, .data⟩, ⟨11, .guard⟩], some (11, false)⟩) ?_
    try simp only [Act.put, nA]
    refine tk (i := 15) (oi := ⟨some 22, .move (.tmp 21), 4, "ref.go:115", #[⟨14, .data⟩, ⟨11, .chain⟩, ⟨11, .guard⟩], some (11, false)⟩) ?_
    try simp only [Act.put, nA]
    refine tu (i := 16) (oi := ⟨some 23, .fieldAddr 55 (.tmp 2) 1, 0, "ref.go:115", #[⟨15, .guard⟩], some (15, true)⟩) ?_
    try simp only [Act.put, nA]
    refine tu (i := 17) (oi := ⟨some 24, .load 47 (.tmp 23), 47, "ref.go:115", #[⟨16, .data⟩, ⟨15, .guard⟩], some (15, true)⟩) ?_
    try simp only [Act.put, nA]
    refine tu (i := 18) (oi := ⟨some 25, .call { callee := .builtin .len, args := #[.tmp 24], argTypes := #[47] }, 3, "ref.go:115", #[⟨17, .data⟩, ⟨15, .guard⟩], some (15, true)⟩) ?_
    try simp only [Act.put, nA]
    refine tu (i := 19) (oi := ⟨some 26, .fieldAddr 27 (.tmp 3) 1, 0, "ref.go:115", #[⟨15, .guard⟩], some (15, true)⟩) ?_
    try simp only [Act.put, nA]
    refine tu (i := 20) (oi := ⟨some 27, .load 23 (.tmp 26), 23, "ref.go:115", #[⟨19, .data⟩, ⟨15, .guard⟩], some (15, true)⟩) ?_
    try simp only [Act.put, nA]
    refine tu (i := 21) (oi := ⟨some 28, .fieldAddr 55 (.tmp 2) 0, 0, "ref.go:115", #[⟨15, .guard⟩], some (15, true)⟩) ?_
    try simp only [Act.put, nA]
    refine tu (i := 22) (oi := ⟨some 29, .load 3 (.tmp 28), 3, "ref.go:115", #[⟨21, .data⟩, ⟨15, .guard⟩], some (15, true)⟩) ?_
    try simp only [Act.put, nA]
    refine tu (i := 23) (oi := ⟨some 30, .indexAddr 23 (.tmp 27) (.tmp 29), 0, "ref.go:115", #[⟨20, .data⟩, ⟨22, .data⟩, ⟨15, .guard⟩], some (15, true)⟩) ?_
    try simp only [Act.put, nA]
    refine tu (i := 24) (oi := ⟨some 31, .fieldAddr 45 (.tmp 30) 2, 0, "ref.go:115", #[⟨23, .data⟩, ⟨15, .guard⟩], some (15, true)⟩) ?_
    try simp only [Act.put, nA]
    refine tu (i := 25) (oi := ⟨some 32, .load 3 (.tmp 31), 3, "ref.go:115", #[⟨24, .data⟩, ⟨15, .guard⟩], some (15, true)⟩) ?_
    try simp only [Act.put, nA]
    refine tu (i := 26) (oi := ⟨some 33, .binOp .neq 3 (.tmp 25) (.tmp 32) 3, 4, "ref.go:115", #[⟨18, .data⟩, ⟨25, .data⟩, ⟨15, .guard⟩], some (15, true)⟩) ?_
    try simp only [Act.put, nA]
    refine tk (i := 27) (oi := ⟨some 34, .pick (.tmp 22) (.tmp 33) (.const (.bool false)), 4, "ref.go:115", #[⟨15, .data⟩, ⟨26, .data⟩, ⟨11, .guard⟩], some (11, false)⟩) ?_
    try simp only [Act.put, nA]
    refine tk (i := 28) (oi := ⟨some 35, .pick (.tmp 18) (.const (.bool true)) (.tmp 34), 4, "ref.go:115", #[⟨11, .data⟩, ⟨27, .data⟩], none⟩) ?_
    try simp only [Act.put, nA]
    refine tk (i := 29) (oi := ⟨some 36, .move (.tmp 35), 4, "ref.go:115", #[⟨28, .data⟩, ⟨15, .chain⟩], none⟩) ?_
    try simp only [Act.put, nA]
    refine tk (i := 30) (oi := ⟨some 37, .fieldAddr 55 (.tmp 2) 1, 0, "ref.go:115", #[⟨29, .guard⟩], some (29, false)⟩) ?_
    try simp only [Act.put, nA]
    refine tk (i := 31) (oi := ⟨some 38, .load 47 (.tmp 37), 47, "ref.go:115", #[⟨30, .data⟩, ⟨29, .guard⟩], some (29, false)⟩) ?_
    try simp only [Act.put, nA]
    refine tk (i := 32) (oi := ⟨some 39, .call { callee := .builtin .len, args := #[.tmp 38], argTypes := #[47] }, 3, "ref.go:115", #[⟨31, .data⟩, ⟨29, .guard⟩], some (29, false)⟩) ?_
    try simp only [Act.put, nA]
    refine tk (i := 33) (oi := ⟨some 40, .binOp .gtr 3 (.tmp 39) (.const (.int .i64 62)) 3, 4, "ref.go:115", #[⟨32, .data⟩, ⟨29, .guard⟩], some (29, false)⟩) ?_
    try simp only [Act.put, nA]
    refine tk (i := 34) (oi := ⟨some 41, .pick (.tmp 36) (.const (.bool true)) (.tmp 40), 4, "ref.go:115", #[⟨29, .data⟩, ⟨33, .data⟩], none⟩) ?_
    try simp only [Act.put, nA]
    refine wpAnyH_done (by kernel_rfl) ?_ _
    go_wp2_with fail
    go_meet
    exact ⟨by rw [hr.out.symm.trans e.out]; rfl, rfl⟩
  · have dg5 : decide ((o.flds.length : Int) > 62) = false := by simp; omega
    have dg5n : decide (62 < o.flds.length) = false := by simpa using g5
    have e := Lib.hid (E5.out hh.out (fun h => by omega) (by omega))
    clear g1 g2 g5 E3 E4 E5
    refine wp_region_held_drew (S := (fun wr' => wr'.cell? ⟨w.heap.size, 0, none⟩ = some (.int .i64 (k : Int)) ∧ wr'.cell? ⟨w.heap.size, 1, none⟩ = some (.slice fa o.flds.length fc) ∧ wr'.cell? ⟨w.heap.size + 1, 1, none⟩ = some (.slice (some ⟨g, off, none⟩) C.length cc) ∧ wr'.cell? ⟨w.heap.size + 1, 3, none⟩ = some (.slice oa no oc) ∧ wr'.cell? ⟨g, off + k * 4 + 2, none⟩ = some (.int .i64 xf))) (by kernel_rfl) ?_ (fun hHeld => ?_)
    · (try dsimp only); exact ⟨a0, a1, b1, b3, d2⟩
    try simp only [Act.put, nA]
    refine tk (i := 0) (oi := ⟨some 7, .fieldAddr 55 (.tmp 2) 0, 0, "ref.go:115", #[], none⟩) ?_
    try simp only [Act.put, nA]
    refine tk (i := 1) (oi := ⟨some 8, .load 3 (.tmp 7), 3, "ref.go:115", #[⟨0, .data⟩], none⟩) ?_
    try simp only [Act.put, nA]
    refine tk (i := 2) (oi := ⟨some 9, .binOp .lss 3 (.tmp 8) (.const (.int .i64 1)) 3, 4, "ref.go:115", #[⟨1, .data⟩], none⟩) ?_
    try simp only [Act.put, nA]
    refine tk (i := 3) (oi := ⟨some 10, .move (.tmp 9), 4, "ref.go:115", #[⟨2, .data⟩], none⟩) ?_
    try simp only [Act.put, nA]
    refine tk (i := 4) (oi := ⟨some 11, .fieldAddr 55 (.tmp 2) 0, 0, "ref.go:115", #[⟨3, .guard⟩], some (3, false)⟩) ?_
    try simp only [Act.put, nA]
    refine tk (i := 5) (oi := ⟨some 12, .load 3 (.tmp 11), 3, "ref.go:115", #[⟨4, .data⟩, ⟨3, .guard⟩], some (3, false)⟩) ?_
    try simp only [Act.put, nA]
    refine tk (i := 6) (oi := ⟨some 13, .fieldAddr 27 (.tmp 3) 1, 0, "ref.go:115", #[⟨3, .guard⟩], some (3, false)⟩) ?_
    try simp only [Act.put, nA]
    refine tk (i := 7) (oi := ⟨some 14, .load 23 (.tmp 13), 23, "ref.go:115", #[⟨6, .data⟩, ⟨3, .guard⟩], some (3, false)⟩) ?_
    try simp only [Act.put, nA]
    refine tk (i := 8) (oi := ⟨some 15, .call { callee := .builtin .len, args := #[.tmp 14], argTypes := #[23] }, 3, "ref.go:115", #[⟨7, .data⟩, ⟨3, .guard⟩], some (3, false)⟩) ?_
    try simp only [Act.put, nA]
    refine tk (i := 9) (oi := ⟨some 16, .binOp .geq 3 (.tmp 12) (.tmp 15) 3, 4, "ref.go:115", #[⟨5, .data⟩, ⟨8, .data⟩, ⟨3, .guard⟩], some (3, false)⟩) ?_
    try simp only [Act.put, nA]
    refine tk (i := 10) (oi := ⟨some 17, .pick (.tmp 10) (.const (.bool true)) (.tmp 16), 4, "ref.go:115", #[⟨3, .data⟩, ⟨9, .data⟩], none⟩) ?_
    try simp only [Act.put, nA]
    refine tk (i := 11) (oi := ⟨some 18, .move (.tmp 17), 4, "ref.go:115", #[⟨10, .data⟩, ⟨3, .chain⟩], none⟩) ?_
    try simp only [Act.put, nA]
    refine tk (i := 12) (oi := ⟨some 19, .fieldAddr 55 (.tmp 2) 0, 0, "ref.go:115", #[⟨11, .guard⟩], some (11, false)⟩) ?_
    try simp only [Act.put, nA]
    refine tk (i := 13) (oi := ⟨some 20, .load 3 (.tmp 19), 3, "ref.go:115", #[⟨12, .data⟩, ⟨11, .guard⟩], some (11, false)⟩) ?_
    try simp only [Act.put, nA]
    refine tk (i := 14) (oi := ⟨some 21, .binOp .gtr 3 (.tmp 20) (.const (.int .i64 1)) 3, 4, "ref.go:115", #[⟨13, .data⟩, ⟨11, .guard⟩], some (11, false)⟩) ?_
    try simp only [Act.put, nA]
    refine tk (i := 15) (oi := ⟨some 22, .move (.tmp 21), 4, "ref.go:115", #[⟨14, .data⟩, ⟨11, .chain⟩, ⟨11, .guard⟩], some (11, false)⟩) ?_
    try simp only [Act.put, nA]
    refine tu (i := 16) (oi := ⟨some 23, .fieldAddr 55 (.tmp 2) 1, 0, "ref.go:115", #[⟨15, .guard⟩], some (15, true)⟩) ?_
    try simp only [Act.put, nA]
    refine tu (i := 17) (oi := ⟨some 24, .load 47 (.tmp 23), 47, "ref.go:115", #[⟨16, .data⟩, ⟨15, .guard⟩], some (15, true)⟩) ?_
    try simp only [Act.put, nA]
    refine tu (i := 18) (oi := ⟨some 25, .call { callee := .builtin .len, args := #[.tmp 24], argTypes := #[47] }, 3, "ref.go:115", #[⟨17, .data⟩, ⟨15, .guard⟩], some (15, true)⟩) ?_
    try simp only [Act.put, nA]
    refine tu (i := 19) (oi := ⟨some 26, .fieldAddr 27 (.tmp 3) 1, 0, "ref.go:115", #[⟨15, .guard⟩], some (15, true)⟩) ?_
    try simp only [Act.put, nA]
    refine tu (i := 20) (oi := ⟨some 27, .load 23 (.tmp 26), 23, "ref.go:115", #[⟨19, .data⟩, ⟨15, .guard⟩], some (15, true)⟩) ?_
    try simp only [Act.put, nA]
    refine tu (i := 21) (oi := ⟨some 28, .fieldAddr 55 (.tmp 2) 0, 0, "ref.go:115", #[⟨15, .guard⟩], some (15, true)⟩) ?_
    try simp only [Act.put, nA]
    refine tu (i := 22) (oi := ⟨some 29, .load 3 (.tmp 28), 3, "ref.go:115", #[⟨21, .data⟩, ⟨15, .guard⟩], some (15, true)⟩) ?_
    try simp only [Act.put, nA]
    refine tu (i := 23) (oi := ⟨some 30, .indexAddr 23 (.tmp 27) (.tmp 29), 0, "ref.go:115", #[⟨20, .data⟩, ⟨22, .data⟩, ⟨15, .guard⟩], some (15, true)⟩) ?_
    try simp only [Act.put, nA]
    refine tu (i := 24) (oi := ⟨some 31, .fieldAddr 45 (.tmp 30) 2, 0, "ref.go:115", #[⟨23, .data⟩, ⟨15, .guard⟩], some (15, true)⟩) ?_
    try simp only [Act.put, nA]
    refine tu (i := 25) (oi := ⟨some 32, .load 3 (.tmp 31), 3, "ref.go:115", #[⟨24, .data⟩, ⟨15, .guard⟩], some (15, true)⟩) ?_
    try simp only [Act.put, nA]
    refine tu (i := 26) (oi := ⟨some 33, .binOp .neq 3 (.tmp 25) (.tmp 32) 3, 4, "ref.go:115", #[⟨18, .data⟩, ⟨25, .data⟩, ⟨15, .guard⟩], some (15, true)⟩) ?_
    try simp only [Act.put, nA]
    refine tk (i := 27) (oi := ⟨some 34, .pick (.tmp 22) (.tmp 33) (.const (.bool false)), 4, "ref.go:115", #[⟨15, .data⟩, ⟨26, .data⟩, ⟨11, .guard⟩], some (11, false)⟩) ?_
    try simp only [Act.put, nA]
    refine tk (i := 28) (oi := ⟨some 35, .pick (.tmp 18) (.const (.bool true)) (.tmp 34), 4, "ref.go:115", #[⟨11, .data⟩, ⟨27, .data⟩], none⟩) ?_
    try simp only [Act.put, nA]
    refine tk (i := 29) (oi := ⟨some 36, .move (.tmp 35), 4, "ref.go:115", #[⟨28, .data⟩, ⟨15, .chain⟩], none⟩) ?_
    try simp only [Act.put, nA]
    refine tk (i := 30) (oi := ⟨some 37, .fieldAddr 55 (.tmp 2) 1, 0, "ref.go:115", #[⟨29, .guard⟩], some (29, false)⟩) ?_
    try simp only [Act.put, nA]
    refine tk (i := 31) (oi := ⟨some 38, .load 47 (.tmp 37), 47, "ref.go:115", #[⟨30, .data⟩, ⟨29, .guard⟩], some (29, false)⟩) ?_
    try simp only [Act.put, nA]
    refine tk (i := 32) (oi := ⟨some 39, .call { callee := .builtin .len, args := #[.tmp 38], argTypes := #[47] }, 3, "ref.go:115", #[⟨31, .data⟩, ⟨29, .guard⟩], some (29, false)⟩) ?_
    try simp only [Act.put, nA]
    refine tk (i := 33) (oi := ⟨some 40, .binOp .gtr 3 (.tmp 39) (.const (.int .i64 62)) 3, 4, "ref.go:115", #[⟨32, .data⟩, ⟨29, .guard⟩], some (29, false)⟩) ?_
    try simp only [Act.put, nA]
    refine tk (i := 34) (oi := ⟨some 41, .pick (.tmp 36) (.const (.bool true)) (.tmp 40), 4, "ref.go:115", #[⟨29, .data⟩, ⟨33, .data⟩], none⟩) ?_
    try simp only [Act.put, nA]
    refine wpAnyH_done (by kernel_rfl) ?_ _
    go_wp2_with fail
    go_meet
    exact ⟨by rw [hr.out.symm.trans e.out]; rfl, rfl⟩
end Wd
end Go.Proofs.YtgfdgdbkifkehaaGreat

/- The document's own search for a method. -/
namespace Go.Proofs.YtgfdgdbkifkehaaGreat
open Go.RowKit
set_option linter.unusedVariables false
set_option maxRecDepth 20000
namespace Wd
theorem sl_at {w : World} {e : TypeId} {a : Option Addr} {n c : Nat} {L : List Int} (h : SL w e (.slice a n c) L) {k : Nat} {x : Int} (hx : L[k]? = some x) : ∃ g, a = some ⟨g, 0, none⟩ ∧ w.cell? ⟨g, k, none⟩ = some (.int .i64 x) := by
  rcases h.cases with ⟨e1, e2⟩ | ⟨g, cap, e1, _, _, _, ho⟩
  · subst e2; simp at hx
  · cases e1
    exact ⟨g, rfl, row_cell ho hx⟩
theorem sl_up {w w' : World} {e : TypeId} {v : Value} {L : List Int} (h : SL w e v L) (b : Below w.heap.size w w') : SL w' e v L := SL.keep h b
theorem chainR_mem {L : List ClassA} : ∀ (f : Nat) (i x : Int), x ∈ chainR L i f → ∃ (k : Nat) (c : ClassA), x = (k : Int) ∧ L[k]? = some c
  | 0, _, _, h => by cases h
  | f + 1, i, x, h => by
    unfold chainR at h
    by_cases h0 : 0 ≤ i
    · rw [if_pos h0] at h
      cases hc : L[i.toNat]? with
      | none => rw [hc] at h; cases h
      | some c =>
        rw [hc] at h
        rcases List.mem_cons.1 h with rfl | h
        · exact ⟨x.toNat, c, by omega, hc⟩
        · exact chainR_mem f c.super x h
    · rw [if_neg h0] at h; cases h
/-- what a row binds a name to -/
def bindIn (B : List (Int × Int)) (sel : Int) : Option Int := (B.find? (fun x => x.1 == sel)).map (·.2)
def bindsAt (C : List ClassA) (c : Int) : List (Int × Int) := match C[c.toNat]? with
  | some x => x.binds
  | none => []
def findIn (C : List ClassA) (sel : Int) : List Int → Int
  | [] => -1
  | c :: r => match bindIn (bindsAt C c) sel with
    | some m => m
    | none => findIn C sel r
def findU (C : List ClassA) (cls sel : Int) : Int := findIn C sel (chain C cls)
theorem bindsAt_at {C : List ClassA} {k : Nat} {x : ClassA} (h : C[k]? = some x) : bindsAt C (k : Int) = x.binds := by
  unfold bindsAt; rw [Int.toNat_natCast, h]
/-- k of the row bind another name -/
structure BdN (B : List (Int × Int)) (sel : Int) (k : Nat) : Prop where
  mk ::
  all : bindIn B sel = bindIn (B.drop k) sel
theorem BdN.start (B : List (Int × Int)) (sel : Int) : BdN B sel 0 := ⟨rfl⟩
theorem BdN.step {B : List (Int × Int)} {sel : Int} {k : Nat} {x : Int × Int} (h : BdN B sel k) (hx : B[k]? = some x) (e : ¬ x.1 = sel) : BdN B sel (k + 1) := by
  refine ⟨h.all.trans ?_⟩
  unfold bindIn
  rw [drop_next hx, List.find?_cons_of_neg (by simpa using e)]
theorem BdN.hit {B : List (Int × Int)} {sel : Int} {k : Nat} {x : Int × Int} (h : BdN B sel k) (hx : B[k]? = some x) (e : x.1 = sel) : bindIn B sel = some x.2 := by
  refine h.all.trans ?_
  unfold bindIn
  rw [drop_next hx, List.find?_cons_of_pos (by simpa using e)]
  rfl
theorem BdN.last {B : List (Int × Int)} {sel : Int} (h : BdN B sel B.length) : bindIn B sel = none := by
  refine h.all.trans ?_
  rw [List.drop_length]
  rfl
/-- k classes of the chain bind it not -/
structure FnR (C : List ClassA) (R : List Int) (sel : Int) (k : Nat) : Prop where
  mk ::
  all : findIn C sel R = findIn C sel (R.drop k)
theorem FnR.start (C : List ClassA) (R : List Int) (sel : Int) : FnR C R sel 0 := ⟨rfl⟩
theorem FnR.step {C : List ClassA} {R : List Int} {sel c : Int} {k : Nat} (h : FnR C R sel k) (hx : R[k]? = some c) (e : bindIn (bindsAt C c) sel = none) : FnR C R sel (k + 1) := by
  refine ⟨h.all.trans ?_⟩
  rw [drop_next hx, findIn, e]
theorem FnR.hit {C : List ClassA} {R : List Int} {sel c m : Int} {k : Nat} (h : FnR C R sel k) (hx : R[k]? = some c) (e : bindIn (bindsAt C c) sel = some m) : findIn C sel R = m := by
  refine h.all.trans ?_
  rw [drop_next hx, findIn, e]
theorem FnR.last {C : List ClassA} {R : List Int} {sel : Int} (h : FnR C R sel R.length) : findIn C sel R = -1 := by
  refine h.all.trans ?_
  rw [List.drop_length]
  rfl
set_option maxHeartbeats 8000000 in
theorem rfind_c {w : World} {u : Value} {U : UnitA} (hu : UnK w u U) (cls sel : Int) (hc : In64 cls) (hs : In64 sel) :
    Calls Tryz.prog 26 #[u, .int .i64 cls, .int .i64 sel] w fun e w' => e = .returned (.int .i64 (findU U.classes cls sel)) ∧ Below w.heap.size w w' := by
  obtain ⟨na, nc, ca, cc, ma, mc, oa, oc, rfl, hU⟩ := hu.ex
  have hC := hU.c
  clear hU hu
  generalize U.names.length = nn at *
  generalize U.classes = C at *
  generalize U.methods.length = nm at *
  generalize U.objects.length = no at *
  generalize U.main = um at *
  have hw1 := (Below.refl w.heap.size w).alloc (Nat.le_refl _) (.cells #[.slice na nn nc, .slice ca C.length cc, .slice ma nm mc, .slice oa no oc, .int .i64 um] 27)
  have hW := Lib.hid hw1
  have b1 : Hid ((w.alloc (.cells #[.slice na nn nc, .slice ca C.length cc, .slice ma nm mc, .slice oa no oc, .int .i64 um] 27)).cell? ⟨w.heap.size, 1, none⟩ = some (.slice ca C.length cc)) := Lib.hid (by simp)
  have hC' := Lib.hid (hC.up hw1)
  obtain ⟨_, _, _, hl1, hl2⟩ := hC.form
  have hle := len_le (Nat.le_trans hl1 hl2)
  obtain ⟨s0, s1⟩ := hs
  replace hc := Lib.hid hc
  clear hw1 hC hl1 hl2
  go_enter Tryz.func26, Tryz.ntmps26
  go_upto_region 1 with fail
  generalize w.alloc (.cells #[.slice na nn nc, .slice ca C.length cc, .slice ma nm mc, .slice oa no oc, .int .i64 um] 27) = W at *
  replace b1 := b1.out
  have PC := Lib.hid (chain_c hC'.out cls hc.out)
  go_wp2_with (first | (go_at_call 59; ((with_reducible refine PC.out.mono ?_); rintro e1 w2 ⟨v2, rfl, hS, hb⟩; obtain ⟨ga, gc, rfl⟩ := hS.form; have b2 := cell_up hb b1; clear b1; go_wp2_with fail)))
  obtain ⟨n, hn⟩ : ∃ n, n = (chain C cls).length := ⟨_, rfl⟩
  have hn8 : n ≤ 8 := by rw [hn]; exact chain_len C cls
  have hmem : Hid (∀ x ∈ chain C cls, ∃ (k : Nat) (c : ClassA), x = (k : Int) ∧ C[k]? = some c) := Lib.hid (fun x hx => chainR_mem 8 cls x hx)
  have hres : Hid (findU C cls sel = findIn C sel (chain C cls)) := Lib.hid rfl
  generalize chain C cls = R at *
  have hn' := Lib.hid hn
  rw [← hn] at hS ⊢
  clear hn PC
  replace hS := Lib.hid hS
  have hW2 := Lib.hid (hW.out.trans (hb.mono hW.out.size))
  replace hC' := Lib.hid (hC'.out.up hb)
  have hst := Lib.hid (FnR.start C R sel)
  clear hW hb
  go_loopw [16] (fun i16 wr => ∃ (k : Nat), k ≤ n ∧ i16 = .int .i64 k ∧ Hid (FnR C R sel k) ∧ Hid (Below w2.heap.size w2 wr)) (fun i16 _ => n - (intOf i16).toNat)
  case atStart => exact ⟨0, by omega, rfl, hst, Lib.hid (Below.refl _ _)⟩
  case round =>
    obtain ⟨k, hk, rfl, hF, hB⟩ := hrel
    by_cases hlt : k < n
    · have hlt' : decide ((k : Int) < (n : Int)) = true := by simp; omega
      have p0 : (0 : Int) ≤ (k : Int) := by omega
      have p1 : (k : Int) < (n : Int) := by omega
      obtain ⟨c, hc⟩ : ∃ x, R[k]? = some x := ⟨R[k]'(by have := hn'.out; omega), by simp⟩
      obtain ⟨g, rfl, c0⟩ := sl_at (sl_up hS.out hB.out) hc
      obtain ⟨q, x, rfl, hx⟩ := hmem.out c (List.mem_of_getElem? hc)
      have hcH := Lib.hid hc
      have hq : q < C.length := (List.getElem?_eq_some_iff.1 hx).1
      have q0 : (0 : Int) ≤ (q : Int) := by omega
      have q1 : (q : Int) < (C.length : Int) := by omega
      obtain ⟨_, _, g1, off, bv, rfl, _, _, _, d3, hbv⟩ := ClV.at (hC'.out.up hB.out) hx
      have eb := Lib.hid (bindsAt_at hx)
      have b3 := cell_up hB.out b2
      obtain ⟨ba, bc, rfl, hb1, hb2⟩ := hbv.form
      generalize x.binds = B at *
      obtain ⟨m, hm⟩ : ∃ m, m = B.length := ⟨_, rfl⟩
      have hm' := Lib.hid hm
      have hmle := len_le (Nat.le_trans hb1 hb2)
      rw [← hm] at hbv d3 hmle
      have hbvH := Lib.hid hbv
      have hbs := Lib.hid (BdN.start B sel)
      clear hc hx hbv hm hb1 hb2 hst hq hlt
      go_wp2
      go_loopw [27] (fun i27 wi => ∃ (j : Nat), j ≤ m ∧ i27 = .int .i64 j ∧ Hid (BdN B sel j) ∧ Hid (Below wr.heap.size wr wi)) (fun i27 _ => m - (intOf i27).toNat)
      case atStart => exact ⟨0, by omega, rfl, hbs, Lib.hid (Below.refl _ _)⟩
      case round =>
        obtain ⟨j, hj, rfl, hN, hBi⟩ := hrel
        have hB2 := Lib.hid (hB.out.trans (hBi.out.mono hB.out.size))
        by_cases hjt : j < m
        · have hjt' : decide ((j : Int) < (m : Int)) = true := by simp; omega
          have r0 : (0 : Int) ≤ (j : Int) := by omega
          have r1 : (j : Int) < (m : Int) := by omega
          obtain ⟨⟨y, z⟩, hy⟩ : ∃ x, B[j]? = some x := ⟨B[j]'(by have := hm'.out; omega), by simp⟩
          obtain ⟨⟨y0, y1⟩, _, g2, off2, rfl, e0, e1⟩ := PrV.at (hbvH.out.up hBi.out) hy
          simp only at y0 y1 e0 e1
          have hyH := Lib.hid hy
          have hBr := Lib.hid ((hW2.out.trans (hB2.out.mono hW2.out.size)).alloc (by have := hW2.out.size; have := hB2.out.size; omega) (.cells #[.int .i64 y, .int .i64 z] 53))
          have hBi' := Lib.hid (hBi.out.alloc hBi.out.size (.cells #[.int .i64 y, .int .i64 z] 53))
          clear hy hbs hjt c0 d3 b3
          by_cases he : y = sel
          · have he' : (y == sel) = true := by simpa using he
            have e := Lib.hid (hres.out.trans (hF.out.hit hcH.out ((congrArg (fun b => bindIn b sel) eb.out).trans (hN.out.hit hyH.out he))))
            clear he
            go_wp2
            go_ret
            exact ⟨congrArg (fun b => Ending.returned (Value.int .i64 b)) e.out.symm, hBr.out⟩
          · have he' : (y == sel) = false := by simpa using he
            have hN' := Lib.hid (hN.out.step hyH.out he)
            clear he
            go_wp2
            go_roundw
            case rel => exact ⟨j + 1, by omega, by go_num, hN', hBi'⟩
            case measure => simp [intOf]; omega
        · have hjt' : decide ((j : Int) < (m : Int)) = false := by simp; omega
          have eN : bindIn B sel = none := BdN.last (by have := hN.out; rw [show j = B.length by have := hm'.out; omega] at this; exact this)
          have hF' := Lib.hid (hF.out.step hcH.out ((congrArg (fun b => bindIn b sel) eb.out).trans eN))
          clear eN
          go_wp2
          go_roundw
          case rel => exact ⟨k + 1, by omega, by go_num, hF', hB2⟩
          case measure => simp [intOf]; omega
    · have e := Lib.hid (hres.out.trans (FnR.last (by have := hF.out; rw [show k = R.length by have := hn'.out; omega] at this; exact this)))
      have hlt' : decide ((k : Int) < (n : Int)) = false := by simp; omega
      have hBr := Lib.hid (hW2.out.trans (hB.out.mono hW2.out.size))
      go_wp2
      go_ret
      exact ⟨congrArg (fun b => Ending.returned (Value.int .i64 b)) e.out.symm, hBr.out⟩
end Wd
end Go.Proofs.YtgfdgdbkifkehaaGreat

/- Plain facts on sizes, chapter 3: no program is named here. -/
namespace Go.Proofs.YtgfdgdbkifkehaaGreat
open Go.RowKit
namespace Wd

/-- the words of a cell of that size -/
def wd (n : Int) : Int := if n = 0 then 4 else if n = 1 then 8 else if n = 2 then 16 else if n = 3 then 32 else if n = 4 then 64 else 0
/-- the least size that takes so many fields -/
def fo (n : Int) : Int := if n < 0 then -1 else if n ≤ 2 then 0 else if n ≤ 6 then 1 else if n ≤ 14 then 2 else if n ≤ 30 then 3 else if n ≤ 62 then 4 else -1
theorem fo_bd (n : Int) : -1 ≤ fo n ∧ fo n ≤ 4 := by unfold fo; repeat' split <;> omega
theorem wd_bd (n : Int) : 0 ≤ wd n ∧ wd n ≤ 64 := by unfold wd; repeat' split <;> omega
theorem fo_cases (n : Int) : ((n < 0 ∨ 62 < n) ∧ fo n = -1) ∨ (0 ≤ n ∧ n ≤ 2 ∧ fo n = 0) ∨ (3 ≤ n ∧ n ≤ 6 ∧ fo n = 1) ∨ (7 ≤ n ∧ n ≤ 14 ∧ fo n = 2) ∨ (15 ≤ n ∧ n ≤ 30 ∧ fo n = 3) ∨ (31 ≤ n ∧ n ≤ 62 ∧ fo n = 4) := by
  unfold fo; repeat' split <;> omega
theorem wd_cases (n : Int) : ((n < 0 ∨ 5 ≤ n) ∧ wd n = 0) ∨ (n = 0 ∧ wd n = 4) ∨ (n = 1 ∧ wd n = 8) ∨ (n = 2 ∧ wd n = 16) ∨ (n = 3 ∧ wd n = 32) ∨ (n = 4 ∧ wd n = 64) := by
  unfold wd; repeat' split <;> omega
end Wd
end Go.Proofs.YtgfdgdbkifkehaaGreat

/- What the functions of chapter 1's own answer return; the words of a program. -/
namespace Go.Proofs.YtgfdgdbkifkehaaGreat
open Go.RowKit
set_option linter.unusedVariables false
set_option maxRecDepth 20000
namespace Wd
set_option maxHeartbeats 4000000 in
theorem rwords_c (n : Int) (h1 : -9223372036854775808 ≤ n) (h2 : n ≤ 9223372036854775807) (w : World) :
    Calls Tryz.prog 62 #[.int .i64 n] w fun e w' => e = .returned (.int .i64 (wd n)) ∧ w' = w := by
  rcases wd_cases n with ⟨h | h, e⟩ | ⟨rfl, e⟩ | ⟨rfl, e⟩ | ⟨rfl, e⟩ | ⟨rfl, e⟩ | ⟨rfl, e⟩
  all_goals
    rw [e]; clear e
    go_enter Tryz.func62, Tryz.ntmps62
    go_wp2
    go_ret
    exact ⟨rfl, rfl⟩
set_option maxHeartbeats 16000000 in
theorem rfit_c (n : Int) (h1 : -9223372036854775808 ≤ n) (h2 : n ≤ 9223372036854775807) (w : World) :
    Calls Tryz.prog 63 #[.int .i64 n] w fun e w' => e = .returned (.int .i64 (fo n)) ∧ w' = w := by
  have f0 : wd 0 = 4 := rfl
  have f1 : wd 1 = 8 := rfl
  have f2 : wd 2 = 16 := rfl
  have f3 : wd 3 = 32 := rfl
  have f4 : wd 4 = 64 := rfl
  rcases fo_cases n with ⟨h | h, e⟩ | ⟨l0, l1, e⟩ | ⟨l0, l1, e⟩ | ⟨l0, l1, e⟩ | ⟨l0, l1, e⟩ | ⟨l0, l1, e⟩
  · rw [e]; clear e
    go_enter Tryz.func63, Tryz.ntmps63
    go_wp2_with (first | (go_at_call 62; ((with_reducible refine (rwords_c _ ?_ ?_ _).mono ?_); (first | with_reducible assumption | omega); (first | with_reducible assumption | omega); rintro e w' ⟨rfl, rfl⟩)))
    refine wp_loop_rounds 1 ?_; rw [rounds_succ]
    go_wp2
    go_ret
    exact ⟨rfl, rfl⟩
  · rw [e]; clear e
    go_enter Tryz.func63, Tryz.ntmps63
    go_wp2_with (first | (go_at_call 62; ((with_reducible refine (rwords_c _ ?_ ?_ _).mono ?_); (first | with_reducible assumption | omega); (first | with_reducible assumption | omega); rintro e w' ⟨rfl, rfl⟩)))
    refine wp_loop_rounds 1 ?_; rw [rounds_succ]
    go_wp2
    go_ret
    exact ⟨rfl, rfl⟩
  · rw [e]; clear e
    go_enter Tryz.func63, Tryz.ntmps63
    go_wp2_with (first | (go_at_call 62; ((with_reducible refine (rwords_c _ ?_ ?_ _).mono ?_); (first | with_reducible assumption | omega); (first | with_reducible assumption | omega); rintro e w' ⟨rfl, rfl⟩)))
    refine wp_loop_rounds 1 ?_
    rw [rounds_succ]
    go_wp2_with (first | (go_at_call 62; ((with_reducible refine (rwords_c _ ?_ ?_ _).mono ?_); (first | with_reducible assumption | omega); (first | with_reducible assumption | omega); rintro e w' ⟨rfl, rfl⟩)))
    go_ret
    exact ⟨rfl, rfl⟩
  · rw [e]; clear e
    go_enter Tryz.func63, Tryz.ntmps63
    go_wp2_with (first | (go_at_call 62; ((with_reducible refine (rwords_c _ ?_ ?_ _).mono ?_); (first | with_reducible assumption | omega); (first | with_reducible assumption | omega); rintro e w' ⟨rfl, rfl⟩)))
    refine wp_loop_rounds 2 ?_
    rw [rounds_succ]
    go_wp2_with (first | (go_at_call 62; ((with_reducible refine (rwords_c _ ?_ ?_ _).mono ?_); (first | with_reducible assumption | omega); (first | with_reducible assumption | omega); rintro e w' ⟨rfl, rfl⟩)))
    rw [rounds_succ]
    go_wp2_with (first | (go_at_call 62; ((with_reducible refine (rwords_c _ ?_ ?_ _).mono ?_); (first | with_reducible assumption | omega); (first | with_reducible assumption | omega); rintro e w' ⟨rfl, rfl⟩)))
    go_ret
    exact ⟨rfl, rfl⟩
  · rw [e]; clear e
    go_enter Tryz.func63, Tryz.ntmps63
    go_wp2_with (first | (go_at_call 62; ((with_reducible refine (rwords_c _ ?_ ?_ _).mono ?_); (first | with_reducible assumption | omega); (first | with_reducible assumption | omega); rintro e w' ⟨rfl, rfl⟩)))
    refine wp_loop_rounds 3 ?_
    rw [rounds_succ]
    go_wp2_with (first | (go_at_call 62; ((with_reducible refine (rwords_c _ ?_ ?_ _).mono ?_); (first | with_reducible assumption | omega); (first | with_reducible assumption | omega); rintro e w' ⟨rfl, rfl⟩)))
    rw [rounds_succ]
    go_wp2_with (first | (go_at_call 62; ((with_reducible refine (rwords_c _ ?_ ?_ _).mono ?_); (first | with_reducible assumption | omega); (first | with_reducible assumption | omega); rintro e w' ⟨rfl, rfl⟩)))
    rw [rounds_succ]
    go_wp2_with (first | (go_at_call 62; ((with_reducible refine (rwords_c _ ?_ ?_ _).mono ?_); (first | with_reducible assumption | omega); (first | with_reducible assumption | omega); rintro e w' ⟨rfl, rfl⟩)))
    go_ret
    exact ⟨rfl, rfl⟩
  · rw [e]; clear e
    go_enter Tryz.func63, Tryz.ntmps63
    go_wp2_with (first | (go_at_call 62; ((with_reducible refine (rwords_c _ ?_ ?_ _).mono ?_); (first | with_reducible assumption | omega); (first | with_reducible assumption | omega); rintro e w' ⟨rfl, rfl⟩)))
    refine wp_loop_rounds 4 ?_
    rw [rounds_succ]
    go_wp2_with (first | (go_at_call 62; ((with_reducible refine (rwords_c _ ?_ ?_ _).mono ?_); (first | with_reducible assumption | omega); (first | with_reducible assumption | omega); rintro e w' ⟨rfl, rfl⟩)))
    rw [rounds_succ]
    go_wp2_with (first | (go_at_call 62; ((with_reducible refine (rwords_c _ ?_ ?_ _).mono ?_); (first | with_reducible assumption | omega); (first | with_reducible assumption | omega); rintro e w' ⟨rfl, rfl⟩)))
    rw [rounds_succ]
    go_wp2_with (first | (go_at_call 62; ((with_reducible refine (rwords_c _ ?_ ?_ _).mono ?_); (first | with_reducible assumption | omega); (first | with_reducible assumption | omega); rintro e w' ⟨rfl, rfl⟩)))
    rw [rounds_succ]
    go_wp2_with (first | (go_at_call 62; ((with_reducible refine (rwords_c _ ?_ ?_ _).mono ?_); (first | with_reducible assumption | omega); (first | with_reducible assumption | omega); rintro e w' ⟨rfl, rfl⟩)))
    go_ret
    exact ⟨rfl, rfl⟩
  · rw [e]; clear e
    go_enter Tryz.func63, Tryz.ntmps63
    go_wp2_with (first | (go_at_call 62; ((with_reducible refine (rwords_c _ ?_ ?_ _).mono ?_); (first | with_reducible assumption | omega); (first | with_reducible assumption | omega); rintro e w' ⟨rfl, rfl⟩)))
    refine wp_loop_rounds 5 ?_
    rw [rounds_succ]
    go_wp2_with (first | (go_at_call 62; ((with_reducible refine (rwords_c _ ?_ ?_ _).mono ?_); (first | with_reducible assumption | omega); (first | with_reducible assumption | omega); rintro e w' ⟨rfl, rfl⟩)))
    rw [rounds_succ]
    go_wp2_with (first | (go_at_call 62; ((with_reducible refine (rwords_c _ ?_ ?_ _).mono ?_); (first | with_reducible assumption | omega); (first | with_reducible assumption | omega); rintro e w' ⟨rfl, rfl⟩)))
    rw [rounds_succ]
    go_wp2_with (first | (go_at_call 62; ((with_reducible refine (rwords_c _ ?_ ?_ _).mono ?_); (first | with_reducible assumption | omega); (first | with_reducible assumption | omega); rintro e w' ⟨rfl, rfl⟩)))
    rw [rounds_succ]
    go_wp2_with (first | (go_at_call 62; ((with_reducible refine (rwords_c _ ?_ ?_ _).mono ?_); (first | with_reducible assumption | omega); (first | with_reducible assumption | omega); rintro e w' ⟨rfl, rfl⟩)))
    rw [rounds_succ]
    go_wp2_with (first | (go_at_call 62; ((with_reducible refine (rwords_c _ ?_ ?_ _).mono ?_); (first | with_reducible assumption | omega); (first | with_reducible assumption | omega); rintro e w' ⟨rfl, rfl⟩)))
    go_ret
    exact ⟨rfl, rfl⟩

def wordsB (O : List ObjA) : Int := (O.map (fun o => wd (fo (o.flds.length : Int)))).sum
theorem ObV.form {w : World} {v : Value} {L : List ObjA} (h : ObV w v L) : ∃ ad cap, v = .slice ad L.length cap ∧ L.length ≤ cap ∧ cap ≤ maxLen := by
  obtain ⟨ad, cap, e, h1, h2, _⟩ := h.ex
  exact ⟨ad, cap, e, h1, h2⟩
theorem ObV.at {w : World} {ad : Option Addr} {n cap : Nat} {L : List ObjA} (h : ObV w (.slice ad n cap) L) {k : Nat} {x : ObjA} (hx : L[k]? = some x) : In64 x.cls ∧ ∃ g off fv, ad = some ⟨g, off, none⟩ ∧ w.cell? ⟨g, off + k * 2, none⟩ = some (.int .i64 x.cls) ∧ w.cell? ⟨g, off + k * 2 + 1, none⟩ = some fv ∧ PrV w fv x.flds := by
  obtain ⟨ad', cap', e, _, _, h3⟩ := h.ex
  cases e
  exact h3 k x hx
/-- k objects are counted -/
structure WdR (O : List ObjA) (k : Nat) (s : Int) : Prop where
  mk ::
  eq : s = wordsB (O.take k)
  lo : 0 ≤ s
  hi : s ≤ 64 * (k : Int)
theorem WdR.start (O : List ObjA) : WdR O 0 0 := ⟨rfl, by omega, by omega⟩
theorem WdR.step {O : List ObjA} {k : Nat} {s : Int} {x : ObjA} (h : WdR O k s) (hx : O[k]? = some x) : WdR O (k + 1) (s + wd (fo (x.flds.length : Int))) := by
  have b := wd_bd (fo (x.flds.length : Int))
  refine ⟨?_, by have := h.lo; omega, by have := h.hi; push_cast; omega⟩
  rw [take_next hx, h.eq]
  unfold wordsB
  simp
theorem WdR.last {O : List ObjA} {s : Int} (h : WdR O O.length s) : s = wordsB O := by
  have := h.eq
  rwa [List.take_length] at this
set_option maxHeartbeats 8000000 in
theorem rwordsU_c {w : World} {u : Value} {U : UnitA} (hu : UnK w u U) (hO : U.objects.length ≤ 1000000) :
    Calls Tryz.prog 28 #[u] w fun e w' => e = .returned (.int .i64 (wordsB U.objects)) ∧ Below w.heap.size w w' := by
  obtain ⟨na, nc, ca, cc, ma, mc, oa, oc, rfl, hU⟩ := hu.ex
  have hC := hU.o
  clear hU hu
  generalize U.names.length = nn at *
  generalize U.classes.length = ncl at *
  generalize U.methods.length = nm at *
  generalize U.objects = O at *
  generalize U.main = um at *
  obtain ⟨n, hn⟩ : ∃ n, n = O.length := ⟨_, rfl⟩
  have hn' := Lib.hid hn
  rw [← hn] at hC hO ⊢
  have hw1 := (Below.refl w.heap.size w).alloc (Nat.le_refl _) (.cells #[.slice na nn nc, .slice ca ncl cc, .slice ma nm mc, .slice oa n oc, .int .i64 um] 27)
  have hW := Lib.hid hw1
  have b1 : Hid ((w.alloc (.cells #[.slice na nn nc, .slice ca ncl cc, .slice ma nm mc, .slice oa n oc, .int .i64 um] 27)).cell? ⟨w.heap.size, 3, none⟩ = some (.slice oa n oc)) := Lib.hid (by simp)
  have hC' := Lib.hid (hC.up hw1)
  have hst := Lib.hid (WdR.start O)
  clear hw1 hC hn
  go_enter Tryz.func28, Tryz.ntmps28
  go_upto_region 1 with fail
  generalize w.alloc (.cells #[.slice na nn nc, .slice ca ncl cc, .slice ma nm mc, .slice oa n oc, .int .i64 um] 27) = W at *
  replace b1 := b1.out
  go_wp2
  have PF := Lib.hid rfit_c
  have PW := Lib.hid rwords_c
  go_loopw [3, 9] (fun i3 i9 wr => ∃ (k : Nat) (s : Int), k ≤ n ∧ i3 = .int .i64 s ∧ i9 = .int .i64 k ∧ (0 ≤ s ∧ s ≤ 64000000) ∧ Hid (WdR O k s) ∧ Hid (Below W.heap.size W wr)) (fun _ i9 _ => n - (intOf i9).toNat)
  case atStart => exact ⟨0, 0, by omega, rfl, rfl, by omega, hst, Lib.hid (Below.refl _ _)⟩
  case round =>
    obtain ⟨k, s, hk, rfl, rfl, ⟨s0, s1⟩, hR, hB⟩ := hrel
    by_cases hlt : k < n
    · have hlt' : decide ((k : Int) < (n : Int)) = true := by simp; omega
      have p0 : (0 : Int) ≤ (k : Int) := by omega
      have p1 : (k : Int) < (n : Int) := by omega
      obtain ⟨x, hx⟩ : ∃ x, O[k]? = some x := ⟨O[k]'(by have := hn'.out; omega), by simp⟩
      obtain ⟨_, g, off, fv, rfl, c0, c1, hf⟩ := ObV.at (hC'.out.up hB.out) hx
      obtain ⟨fa, fc, rfl, hf1, hf2⟩ := hf.form
      have hfl := len_le (Nat.le_trans hf1 hf2)
      have hR' := Lib.hid (hR.out.step hx)
      have hB' := Lib.hid (hB.out.alloc hB.out.size (.cells #[.int .i64 x.cls, .slice fa x.flds.length fc] 55))
      have bf := fo_bd (x.flds.length : Int)
      have bw := wd_bd (fo (x.flds.length : Int))
      have hs2 : s + wd (fo (x.flds.length : Int)) ≤ 64000000 := by have := hR'.out.hi; push_cast at this; omega
      have PF' := Lib.hid (fun w => PF.out (x.flds.length : Int) (by omega) hfl w)
      have PW' := Lib.hid (fun w => PW.out (fo (x.flds.length : Int)) (by omega) (by omega) w)
      generalize wd (fo (x.flds.length : Int)) = y at *
      generalize fo (x.flds.length : Int) = z at *
      have w1 : IntKind.i64.wrap (s + y) = s + y := by rw [IntKind.wrap_i64]; omega
      clear hx hf hf1 hf2 PF PW hst b1 hlt
      go_wp2_with (first | (go_at_call 63; ((with_reducible refine (PF'.out _).mono ?_); rintro e1 w2 ⟨rfl, hw2⟩; subst w2)) | (go_at_call 62; ((with_reducible refine (PW'.out _).mono ?_); rintro e1 w2 ⟨rfl, hw2⟩; subst w2)))
      go_roundw
      case rel => exact ⟨k + 1, s + y, by omega, by go_num, by go_num, by omega, hR', hB'⟩
      case measure => simp [intOf]; omega
    · have e := Lib.hid (WdR.last (by have := hR.out; rw [show k = O.length by have := hn'.out; omega] at this; exact this))
      have hlt' : decide ((k : Int) < (n : Int)) = false := by simp; omega
      have hBr := Lib.hid (hW.out.trans (hB.out.mono hW.out.size))
      go_wp2
      go_ret
      exact ⟨congrArg (fun b => Ending.returned (Value.int .i64 b)) e.out, hBr.out⟩
end Wd
end Go.Proofs.YtgfdgdbkifkehaaGreat

/- Are two rows of pairs alike? (the document's own vals and binds) -/
namespace Go.Proofs.YtgfdgdbkifkehaaGreat
open Go.RowKit
set_option linter.unusedVariables false
set_option maxRecDepth 20000
namespace Wd
/-- k pairs are alike -/
structure EqR {T : Type} (A B : List T) (k : Nat) : Prop where
  mk ::
  eq : A.take k = B.take k
theorem EqR.start {T : Type} (A B : List T) : EqR A B 0 := ⟨by simp⟩
theorem EqR.step {T : Type} {A B : List T} {k : Nat} {x y : T} (h : EqR A B k) (hx : A[k]? = some x) (hy : B[k]? = some y) (e : x = y) : EqR A B (k + 1) := by
  refine ⟨?_⟩
  rw [take_next hx, take_next hy, h.eq, e]
theorem EqR.last {T : Type} [DecidableEq T] {A B : List T} {n : Nat} (h : EqR A B n) (ha : n = A.length) (hb : n = B.length) : decide (A = B) = true := by
  have := h.eq
  rw [ha, List.take_length, ← ha, hb, List.take_length] at this
  exact decide_eq_true this
theorem eq_not {T : Type} [DecidableEq T] {A B : List T} {k : Nat} {x y : T} (hx : A[k]? = some x) (hy : B[k]? = some y) (e : ¬ x = y) : decide (A = B) = false := by
  refine decide_eq_false (fun h => e ?_)
  subst h
  rw [hx] at hy
  exact Option.some.inj hy
theorem eq_len {T : Type} [DecidableEq T] {A B : List T} (e : ¬ A.length = B.length) : decide (A = B) = false := decide_eq_false (fun h => e (by rw [h]))
set_option maxHeartbeats 8000000 in
theorem rvals_c {w : World} {a b : Value} {A B : List (Int × Int)} (ha : PrV w a A) (hb : PrV w b B) :
    Calls Tryz.prog 40 #[a, b] w fun e w' => e = .returned (.bool (decide (A = B))) ∧ Below w.heap.size w w' := by
  obtain ⟨aa, ac, rfl, ha1, ha2⟩ := ha.form
  obtain ⟨ba, bc, rfl, hb1, hb2⟩ := hb.form
  have hle := len_le (Nat.le_trans ha1 ha2)
  by_cases hl : A.length = B.length
  · have hl' : ((A.length : Int) != (B.length : Int)) = false := by simp [hl]
    obtain ⟨n, hn⟩ : ∃ n, n = A.length := ⟨_, rfl⟩
    obtain ⟨m, hm⟩ : ∃ m, m = B.length := ⟨_, rfl⟩
    have hn' := Lib.hid hn
    have hm' := Lib.hid hm
    have hnm := Lib.hid (show n = m by omega)
    rw [← hn] at ha hle hl' ⊢
    rw [← hm] at hb hl' ⊢
    replace ha := Lib.hid ha
    replace hb := Lib.hid hb
    have hst := Lib.hid (EqR.start A B)
    clear hl hn hm ha1 ha2 hb1 hb2
    go_enter Tryz.func40, Tryz.ntmps40
    go_wp2
    go_loopw [13] (fun i wr => ∃ (k : Nat), k ≤ n ∧ i = .int .i64 k ∧ Hid (EqR A B k) ∧ Hid (Below w.heap.size w wr)) (fun i _ => n - (intOf i).toNat)
    case atStart => exact ⟨0, by omega, rfl, hst, Lib.hid (Below.refl _ _)⟩
    case round =>
      obtain ⟨k, hk, rfl, hE, hB⟩ := hrel
      by_cases hlt : k < n
      · have hlt' : decide ((k : Int) < (n : Int)) = true := by simp; omega
        have p0 : (0 : Int) ≤ (k : Int) := by omega
        have p1 : (k : Int) < (n : Int) := by omega
        have p2 : (k : Int) < (m : Int) := by have := hnm.out; omega
        obtain ⟨⟨x1, x2⟩, hx⟩ : ∃ x, A[k]? = some x := ⟨A[k]'(by have := hn'.out; omega), by simp⟩
        obtain ⟨⟨y1, y2⟩, hy⟩ : ∃ x, B[k]? = some x := ⟨B[k]'(by have := hm'.out; omega), by simp⟩
        obtain ⟨_, _, g, off, rfl, c0, c1⟩ := PrV.at (ha.out.up hB.out) hx
        obtain ⟨_, _, h, off2, rfl, d0, d1⟩ := PrV.at (hb.out.up hB.out) hy
        simp only at c0 c1 d0 d1
        have hxH := Lib.hid hx
        have hyH := Lib.hid hy
        have hB' := Lib.hid (hB.out.trans (((Below.refl wr.heap.size wr).drew).mono hB.out.size))
        clear hx hy hst hlt
        by_cases e1 : x1 = y1
        · by_cases e2 : x2 = y2
          · have f1 : (x1 == y1) = true := by simpa using e1
            have f2 : (x2 == y2) = true := by simpa using e2
            have hE' := Lib.hid (hE.out.step hxH.out hyH.out (by rw [e1, e2]))
            clear e1 e2
            go_upto_region 6 with fail
            refine wp_region_still_lit (by kernel_rfl) (by kernel_rfl) ?_
            iterate 9 still_step
            refine wpStill_nil ?_
            change Exit.then _ _ Exit.normal _ wr.drew
            go_wp2_with fail
            go_roundw
            case rel => exact ⟨k + 1, by omega, by go_num, hE', hB'⟩
            case measure => simp [intOf]; omega
          · have f1 : (x1 == y1) = true := by simpa using e1
            have f2 : (x2 == y2) = false := by simpa using e2
            have e := Lib.hid (eq_not hxH.out hyH.out (fun h => e2 (congrArg Prod.snd h)))
            clear e1 e2
            go_upto_region 6 with fail
            refine wp_region_still_lit (by kernel_rfl) (by kernel_rfl) ?_
            iterate 9 still_step
            refine wpStill_nil ?_
            change Exit.then _ _ Exit.normal _ wr.drew
            go_wp2_with fail
            go_ret
            exact ⟨congrArg (fun b => Ending.returned (Value.bool b)) e.out.symm, hB'.out⟩
        · have f1 : (x1 == y1) = false := by simpa using e1
          have e := Lib.hid (eq_not hxH.out hyH.out (fun h => e1 (congrArg Prod.fst h)))
          clear e1
          go_upto_region 6 with fail
          refine wp_region_still_lit (by kernel_rfl) (by kernel_rfl) ?_
          iterate 9 still_step
          refine wpStill_nil ?_
          change Exit.then _ _ Exit.normal _ wr.drew
          go_wp2_with fail
          go_ret
          exact ⟨congrArg (fun b => Ending.returned (Value.bool b)) e.out.symm, hB'.out⟩
      · have e := Lib.hid (EqR.last (A := A) (B := B) (n := n) (by have := hE.out; rw [show k = n by omega] at this; exact this) hn'.out (by rw [hnm.out]; exact hm'.out))
        have hlt' : decide ((k : Int) < (n : Int)) = false := by simp; omega
        go_wp2
        go_ret
        exact ⟨congrArg (fun b => Ending.returned (Value.bool b)) e.out.symm, hB.out⟩
  · have hl' : ((A.length : Int) != (B.length : Int)) = true := by simp; omega
    have e := Lib.hid (eq_len hl)
    clear hl
    go_enter Tryz.func40, Tryz.ntmps40
    go_wp2
    go_ret
    exact ⟨congrArg (fun b => Ending.returned (Value.bool b)) e.out.symm, Below.refl _ _⟩
set_option maxHeartbeats 8000000 in
theorem rbinds_c {w : World} {a b : Value} {A B : List (Int × Int)} (ha : PrV w a A) (hb : PrV w b B) :
    Calls Tryz.prog 38 #[a, b] w fun e w' => e = .returned (.bool (decide (A = B))) ∧ Below w.heap.size w w' := by
  obtain ⟨aa, ac, rfl, ha1, ha2⟩ := ha.form
  obtain ⟨ba, bc, rfl, hb1, hb2⟩ := hb.form
  have hle := len_le (Nat.le_trans ha1 ha2)
  by_cases hl : A.length = B.length
  · have hl' : ((A.length : Int) != (B.length : Int)) = false := by simp [hl]
    obtain ⟨n, hn⟩ : ∃ n, n = A.length := ⟨_, rfl⟩
    obtain ⟨m, hm⟩ : ∃ m, m = B.length := ⟨_, rfl⟩
    have hn' := Lib.hid hn
    have hm' := Lib.hid hm
    have hnm := Lib.hid (show n = m by omega)
    rw [← hn] at ha hle hl' ⊢
    rw [← hm] at hb hl' ⊢
    replace ha := Lib.hid ha
    replace hb := Lib.hid hb
    have hst := Lib.hid (EqR.start A B)
    clear hl hn hm ha1 ha2 hb1 hb2
    go_enter Tryz.func38, Tryz.ntmps38
    go_wp2
    go_loopw [13] (fun i wr => ∃ (k : Nat), k ≤ n ∧ i = .int .i64 k ∧ Hid (EqR A B k) ∧ Hid (Below w.heap.size w wr)) (fun i _ => n - (intOf i).toNat)
    case atStart => exact ⟨0, by omega, rfl, hst, Lib.hid (Below.refl _ _)⟩
    case round =>
      obtain ⟨k, hk, rfl, hE, hB⟩ := hrel
      by_cases hlt : k < n
      · have hlt' : decide ((k : Int) < (n : Int)) = true := by simp; omega
        have p0 : (0 : Int) ≤ (k : Int) := by omega
        have p1 : (k : Int) < (n : Int) := by omega
        have p2 : (k : Int) < (m : Int) := by have := hnm.out; omega
        obtain ⟨⟨x1, x2⟩, hx⟩ : ∃ x, A[k]? = some x := ⟨A[k]'(by have := hn'.out; omega), by simp⟩
        obtain ⟨⟨y1, y2⟩, hy⟩ : ∃ x, B[k]? = some x := ⟨B[k]'(by have := hm'.out; omega), by simp⟩
        obtain ⟨_, _, g, off, rfl, c0, c1⟩ := PrV.at (ha.out.up hB.out) hx
        obtain ⟨_, _, h, off2, rfl, d0, d1⟩ := PrV.at (hb.out.up hB.out) hy
        simp only at c0 c1 d0 d1
        have hxH := Lib.hid hx
        have hyH := Lib.hid hy
        have hB' := Lib.hid (hB.out.trans (((Below.refl wr.heap.size wr).drew).mono hB.out.size))
        clear hx hy hst hlt
        by_cases e1 : x1 = y1
        · by_cases e2 : x2 = y2
          · have f1 : (x1 == y1) = true := by simpa using e1
            have f2 : (x2 == y2) = true := by simpa using e2
            have hE' := Lib.hid (hE.out.step hxH.out hyH.out (by rw [e1, e2]))
            clear e1 e2
            go_upto_region 6 with fail
            refine wp_region_still_lit (by kernel_rfl) (by kernel_rfl) ?_
            iterate 9 still_step
            refine wpStill_nil ?_
            change Exit.then _ _ Exit.normal _ wr.drew
            go_wp2_with fail
            go_roundw
            case rel => exact ⟨k + 1, by omega, by go_num, hE', hB'⟩
            case measure => simp [intOf]; omega
          · have f1 : (x1 == y1) = true := by simpa using e1
            have f2 : (x2 == y2) = false := by simpa using e2
            have e := Lib.hid (eq_not hxH.out hyH.out (fun h => e2 (congrArg Prod.snd h)))
            clear e1 e2
            go_upto_region 6 with fail
            refine wp_region_still_lit (by kernel_rfl) (by kernel_rfl) ?_
            iterate 9 still_step
            refine wpStill_nil ?_
            change Exit.then _ _ Exit.normal _ wr.drew
            go_wp2_with fail
            go_ret
            exact ⟨congrArg (fun b => Ending.returned (Value.bool b)) e.out.symm, hB'.out⟩
        · have f1 : (x1 == y1) = false := by simpa using e1
          have e := Lib.hid (eq_not hxH.out hyH.out (fun h => e1 (congrArg Prod.fst h)))
          clear e1
          go_upto_region 6 with fail
          refine wp_region_still_lit (by kernel_rfl) (by kernel_rfl) ?_
          iterate 9 still_step
          refine wpStill_nil ?_
          change Exit.then _ _ Exit.normal _ wr.drew
          go_wp2_with fail
          go_ret
          exact ⟨congrArg (fun b => Ending.returned (Value.bool b)) e.out.symm, hB'.out⟩
      · have e := Lib.hid (EqR.last (A := A) (B := B) (n := n) (by have := hE.out; rw [show k = n by omega] at this; exact this) hn'.out (by rw [hnm.out]; exact hm'.out))
        have hlt' : decide ((k : Int) < (n : Int)) = false := by simp; omega
        go_wp2
        go_ret
        exact ⟨congrArg (fun b => Ending.returned (Value.bool b)) e.out.symm, hB.out⟩
  · have hl' : ((A.length : Int) != (B.length : Int)) = true := by simp; omega
    have e := Lib.hid (eq_len hl)
    clear hl
    go_enter Tryz.func38, Tryz.ntmps38
    go_wp2
    go_ret
    exact ⟨congrArg (fun b => Ending.returned (Value.bool b)) e.out.symm, Below.refl _ _⟩
end Wd
end Go.Proofs.YtgfdgdbkifkehaaGreat
